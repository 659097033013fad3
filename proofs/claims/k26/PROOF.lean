import PyProof.Rows.All
import Wide.All
import OpenK.AllK
import Wide.FinOn
import Lean
import PyProof.EqAt
import PyProof.EqKinds
import PyProof.TupleCall
import PyProof.P3In
import KE.KDictLaws
import KE.KTabLook
import PySem.Challenge.RW_rootstamp_k26_whole_one_slip_or_a_clash
set_option Elab.async false
set_option linter.all false
set_option maxRecDepth 100000
set_option maxHeartbeats 4000000
namespace L2
open PySem PySem.Spec PyProof.Rows

noncomputable abbrev Key := Sum Int Str
noncomputable def keyIs : Key → Value → Bool
  | .inl k, v => Value.isInt k v
  | .inr x, v => Value.isStrOf x v
noncomputable def keyH (w : World) : Key → Int
  | .inl k => hashInt k
  | .inr x => hashStr w x
theorem keyIs_shape : ∀ {k : Key} {v : Value}, keyIs k v = true → (∃ i t, k = Sum.inl i ∧ v = Value.int i t) ∨ (∃ x t, k = Sum.inr x ∧ v = Value.str x t)
  | .inl i, v, h => by
    obtain ⟨t, e⟩ := Value.isInt_shape (k := i) (v := v) h
    exact .inl ⟨i, t, rfl, e⟩
  | .inr x, v, h => by
    obtain ⟨t, e⟩ := Value.isStrOf_shape (x := x) (v := v) h
    exact .inr ⟨x, t, rfl, e⟩
theorem keyIs_int (i : Int) (t : Tok) : keyIs (.inl i) (.int i t) = true := by simp [keyIs, Value.isInt]
theorem keyIs_str (x : Str) (t : Tok) : keyIs (.inr x) (.str x t) = true := by simp [keyIs, Value.isStrOf]
theorem key_ll (a b : Int) : decide ((Sum.inl a : Key) = Sum.inl b) = (a == b) := by
  by_cases e : a = b
  · subst e; simp
  · have h : ¬ (Sum.inl a : Key) = Sum.inl b := fun q => e (Sum.inl.inj q)
    rw [decide_eq_false h]
    exact (beq_eq_false_iff_ne.mpr e).symm
theorem key_rr (a b : Str) : decide ((Sum.inr a : Key) = Sum.inr b) = decide (a = b) := by
  by_cases e : a = b
  · subst e; simp
  · have h : ¬ (Sum.inr a : Key) = Sum.inr b := fun q => e (Sum.inr.inj q)
    rw [decide_eq_false h, decide_eq_false e]
theorem key_lr (a : Int) (b : Str) : decide ((Sum.inl a : Key) = Sum.inr b) = false := decide_eq_false (fun q => nomatch q)
theorem key_rl (a : Str) (b : Int) : decide ((Sum.inr a : Key) = Sum.inl b) = false := decide_eq_false (fun q => nomatch q)

noncomputable def mixKind (prog : Program) (w : World) : PySem.KeyKind prog w Key where
  is := keyIs
  hash := keyH w
  inj := fun v a b ha hb => by
    rcases keyIs_shape ha with ⟨i, t, rfl, rfl⟩ | ⟨x, t, rfl, rfl⟩
    · rcases keyIs_shape hb with ⟨j, u, rfl, e⟩ | ⟨y, u, rfl, e⟩
      · injection e with e1 _; rw [e1]
      · exact nomatch e
    · rcases keyIs_shape hb with ⟨j, u, rfl, e⟩ | ⟨y, u, rfl, e⟩
      · exact nomatch e
      · injection e with e1 _; rw [e1]
  byValue := fun k v h => by
    rcases keyIs_shape h with ⟨i, t, rfl, rfl⟩ | ⟨x, t, rfl, rfl⟩ <;> rfl
  pyHash := fun hv h => by
    rcases keyIs_shape hv with ⟨i, t, rfl, rfl⟩ | ⟨x, t, rfl, rfl⟩
    · exact wpAny_pyHash_int h
    · exact wpAny_pyHash_str h
  eqBool := fun hu hv h => by
    rcases keyIs_shape hu with ⟨i, t, rfl, rfl⟩ | ⟨x, t, rfl, rfl⟩
    · rcases keyIs_shape hv with ⟨j, u, rfl, rfl⟩ | ⟨y, u, rfl, rfl⟩
      · rw [key_ll] at h; exact wpAny_eqBool_int h
      · rw [key_lr] at h; exact SeqAt.EqAt.int_str i t y u _ _ _ _ h
    · rcases keyIs_shape hv with ⟨j, u, rfl, rfl⟩ | ⟨y, u, rfl, rfl⟩
      · rw [key_rl] at h; exact SeqAt.EqAt.str_int x t j u _ _ _ _ h
      · rw [key_rr] at h; exact wpAny_eqBool_str h
  «strs» := fun k x t v h => by
    rcases keyIs_shape h with ⟨i, u, rfl, e⟩ | ⟨y, u, rfl, e⟩
    · exact nomatch e
    · injection e with e1 _
      subst e1
      cases v <;> rfl

theorem mixKind_int (prog : Program) (w : World) (i : Int) (t : Tok) : (mixKind prog w).is (.inl i) (.int i t) = true := keyIs_int i t
theorem mixKind_str (prog : Program) (w : World) (x : Str) (t : Tok) : (mixKind prog w).is (.inr x) (.str x t) = true := keyIs_str x t
end L2

namespace L2
open PySem PySem.Spec PyProof.Rows

inductive V where
  | non | bl (b : Bool) | int (i : Int) | str (x : Str) | byt (b : Array UInt8) | flt (b : UInt64) | ref (a : Addr) | ty (n : String)
  deriving DecidableEq

noncomputable def RelV : V → Value → Prop
  | .non, u => u = Value.none
  | .bl b, u => u = Value.bool b
  | .int i, u => ∃ t, u = Value.int i t
  | .str x, u => ∃ t, u = Value.str x t
  | .byt b, u => ∃ t, u = Value.bytes b t
  | .flt b, u => ∃ t, u = Value.float b t
  | .ref a, u => u = Value.ref a
  | .ty n, u => u = Value.type n

noncomputable abbrev Vals : List V → List Value → Prop := Paired RelV
theorem Vals.length {xs : List V} {us : List Value} (r : Vals xs us) : xs.length = us.length := Paired.length r
theorem Vals.get : ∀ {xs : List V} {us : List Value} {i : Nat} {x : V}, Vals xs us → xs[i]? = some x → ∃ u, us[i]? = some u ∧ RelV x u
  | _, _, _, _, .nil, e => by simp at e
  | _, _, 0, _, .cons r _, e => by simp at e; subst e; exact ⟨_, rfl, r⟩
  | _, _, i + 1, x, .cons _ t, e => by
    obtain ⟨u, h1, h2⟩ := Vals.get (i := i) (x := x) t (by simpa using e)
    exact ⟨u, by simpa using h1, h2⟩
theorem Vals.append : ∀ {xs ys : List V} {us ws : List Value}, Vals xs us → Vals ys ws → Vals (xs ++ ys) (us ++ ws)
  | _, _, _, _, .nil, s => s
  | _, _, _, _, .cons r t, s => .cons r (Vals.append t s)
theorem Vals.take : ∀ {xs : List V} {us : List Value} (n : Nat), Vals xs us → Vals (xs.take n) (us.take n)
  | _, _, 0, _ => .nil
  | _, _, _ + 1, .nil => .nil
  | _, _, n + 1, .cons r t => .cons r (Vals.take n t)
theorem Vals.drop : ∀ {xs : List V} {us : List Value} (n : Nat), Vals xs us → Vals (xs.drop n) (us.drop n)
  | _, _, 0, r => r
  | _, _, _ + 1, .nil => .nil
  | _, _, n + 1, .cons _ t => Vals.drop n t
noncomputable def RelO : Option V → Option Value → Prop
  | some v, some u => RelV v u
  | none, none => True
  | _, _ => False
noncomputable def KV {κ : Type} : List (κ × V) → List (κ × Value) → Prop := Paired fun (p : κ × V) (q : κ × Value) => p.1 = q.1 ∧ RelV p.2 q.2

noncomputable def kV : Key → V
  | .inl i => .int i
  | .inr x => .str x

inductive HO where
  /-- a list -/
  | lst (xs : List V)
  /-- a tuple (never changes) -/
  | tup (xs : List V)
  /-- a dict whose keys are ints and texts; one whose keys are tuples of ints and texts (the empty one is both) -/
  | dK (kvs : List (Key × V)) | dT (kvs : List (List Key × V))
  /-- a set of ints: its members, its size -/
  | set (S : Int → Bool) (n : Nat)
  /-- an instance of the class at C, its dict at dx, its attributes -/
  | ins (C dx : Addr) (fs : List (Str × V))
  /-- the dict of the instance at x -/
  | own (x : Addr)
  /-- the dict of an exception -/
  | xd (fs : List (Str × V))
  /-- a bound method, f of x -/
  | met (f x : Addr)
  /-- a range object lo, lo + 1, .. below hi -/
  | rng (lo hi : Int)
  /-- a thing that is known to the object (the script; a dict while a loop walks it): read, never written while it is so -/
  | frz (o : Obj) (u : HO)
  /-- a code object's table -/
  | tbl (ps : Array Value)
  /-- any other thing, by what is true of its one object (a def of one's own: SetO a S n := HO.ext fun h => ..) -/
  | ext (φ : Heap → Prop)

noncomputable abbrev Hp := Addr → Option HO
noncomputable def upd (H : Hp) (a : Addr) (o : HO) : Hp := fun b => if b = a then some o else H b
theorem upd_same {H : Hp} {a : Addr} {o : HO} : upd H a o a = some o := by unfold upd; rw [if_pos rfl]
theorem upd_ne {H : Hp} {a b : Addr} {o : HO} (h : b ≠ a) : upd H a o b = H b := by unfold upd; rw [if_neg h]
theorem ne_of {H : Hp} {a b : Addr} {o u : HO} (h : H a = some o) (h' : H b = some u) (d : o ≠ u) : a ≠ b := by
  intro e; subst e; rw [h] at h'; exact d (Option.some.inj h')
theorem ne_of_none {H : Hp} {a b : Addr} {o : HO} (h : H a = some o) (h' : H b = none) : a ≠ b := by
  intro e; subst e; rw [h] at h'; cases h'

section
variable (P : Program) (w : World)
noncomputable def ObjOk (H : Hp) (h : Heap) (a : Addr) : HO → Prop
  | .lst xs => xs.length ≤ sizeLine ∧ ∃ (its : List Value) (n : Nat), Vals xs its ∧ h.get? a = some { cls := .type "list", data := .seq its.toArray n }
  | .tup xs => xs.length ≤ sizeLine ∧ ∃ its : List Value, Vals xs its ∧ IsTup h a its.toArray
  | .dK kvs => kvs.length ≤ sizeLine ∧ (a == sysModules) = false ∧ ∃ vs, KV kvs vs ∧ h.DictOf (mixKind P w) a vs
  | .dT kvs => kvs.length ≤ sizeLine ∧ (a == sysModules) = false ∧ ∃ xs : List (List Key × Addr × Value),
      Paired (fun (p : List Key × V) (q : List Key × Addr × Value) => p.1 = q.1 ∧ H q.2.1 = some (.tup (p.1.map kV)) ∧ RelV p.2 q.2.2) kvs xs ∧
      ∃ o es ep, h.get? a = some o ∧ o.ExactDict ∧ o.data = .dict es ep ∧ es.toList = xs.map (entryOfKey (tupleKind (mixKind P w))) ∧ (xs.map (·.1)).Nodup
  | .set S n => h.SetOf (intKind P w) a S n
  | .ins C dx fs => H dx = some (.own a) ∧ fs.length ≤ 1000 ∧ dx ≠ a ∧ h.get? a = some (PySem.W.instObj C dx) ∧
      ∃ mA, h.Ns1 dx mA ∧ (∀ f, RelO (fs.lookup f) (mA f)) ∧ PySem.Within mA (fs.map (·.1))
  | .own _ => ∃ o, h.get? a = some o
  | .xd fs => ∃ mA, h.Ns1 a mA ∧ ∀ f, RelO (fs.lookup f) (mA f)
  | .rng lo hi => ∃ t u v, h.get? a = some { cls := .type "range", data := .fields #[.int lo t, .int hi u, .int 1 v] }
  | .frz o u => h.get? a = some o ∧ ObjOk H h a u
  | .tbl ps => h.get? a = some { cls := .none, data := .fields ps }
  | .met f x => h.get? a = some (PySem.W.methodObj (.ref f) (.ref x))
  | .ext φ => φ h ∧ (∃ o, h.get? a = some o) ∧ ∀ h1 h2 : Heap, φ h1 → (∀ o, h1.get? a = some o → h2.get? a = some o) → φ h2
noncomputable def HOk (H : Hp) (h : Heap) : Prop := ∀ a o, H a = some o → ObjOk P w H h a o
end

section
variable {P : Program} {w : World} {H H' : Hp} {h h' : Heap} {a : Addr} {o : HO}
theorem ObjOk.lt (x : ObjOk P w H h a o) : a < h.objs.size := by
  cases o with
  | lst xs => obtain ⟨_, _, _, _, e⟩ := x; exact Heap.lt_size e
  | tup xs => obtain ⟨_, _, _, p⟩ := x; exact p.lt
  | dK kvs => obtain ⟨_, _, _, _, o, _, _, e, _⟩ := x; exact Heap.lt_size e
  | dT kvs => obtain ⟨_, _, _, _, o, _, _, e, _⟩ := x; exact Heap.lt_size e
  | set S n => obtain ⟨o, _, _, _, e, _⟩ := x; exact Heap.lt_size e
  | ins C dx fs => obtain ⟨_, _, _, e, _⟩ := x; exact Heap.lt_size e
  | own y => obtain ⟨_, e⟩ := x; exact Heap.lt_size e
  | xd fs => obtain ⟨_, ⟨_, _, _, e, _⟩, _⟩ := x; exact Heap.lt_size e
  | rng lo hi => obtain ⟨_, _, _, e⟩ := x; exact Heap.lt_size e
  | frz ob u => obtain ⟨e, _⟩ := x; exact Heap.lt_size e
  | tbl ps => exact Heap.lt_size (show h.get? a = some _ from x)
  | met f y => exact Heap.lt_size (show h.get? a = some _ from x)
  | ext φ => obtain ⟨_, ⟨_, e⟩, _⟩ := x; exact Heap.lt_size e
theorem Paired.mapP {α β : Type} {F G : α → β → Prop} : ∀ {l₁ : List α} {l₂ : List β}, Paired F l₁ l₂ → (∀ a b, F a b → G a b) → Paired G l₁ l₂
  | _, _, .nil, _ => .nil
  | _, _, .cons r t, f => .cons (f _ _ r) (Paired.mapP t f)
theorem Paired.imp' {α β : Type} {F G : α → β → Prop} (f : ∀ a b, F a b → G a b) {l₁ : List α} {l₂ : List β} (r : Paired F l₁ l₂) : Paired G l₁ l₂ := Paired.mapP r f
theorem ObjOk.stay (x : ObjOk P w H h a o) (k : ∀ b u, (b = a ∨ H b = some (.own a)) → h.get? b = some u → h'.get? b = some u)
    (ho : ∀ b, H b = some (.own a) → H' b = some (.own a)) (ht : ∀ b xs, H b = some (.tup xs) → H' b = some (.tup xs)) : ObjOk P w H' h' a o := by
  induction o with
  | lst xs => obtain ⟨z, its, n, r, e⟩ := x; exact ⟨z, its, n, r, k _ _ (.inl rfl) e⟩
  | tup xs => obtain ⟨z, its, r, ob, e, c⟩ := x; exact ⟨z, its, r, ob, k _ _ (.inl rfl) e, c⟩
  | dK kvs => obtain ⟨z, y, vs, r, ob, es, ep, e, c⟩ := x; exact ⟨z, y, vs, r, ob, es, ep, k _ _ (.inl rfl) e, c⟩
  | dT kvs =>
    obtain ⟨z, y, xs, r, ob, es, ep, e, c⟩ := x
    exact ⟨z, y, xs, Paired.mapP r fun p q z => ⟨z.1, ht _ _ z.2.1, z.2.2⟩, ob, es, ep, k _ _ (.inl rfl) e, c⟩
  | set S n => obtain ⟨ob, es, ep, t, e, c⟩ := x; exact ⟨ob, es, ep, t, k _ _ (.inl rfl) e, c⟩
  | ins C dx fs =>
    obtain ⟨d, z, ne, e, mA, ⟨od, es, ep, e2, c⟩, r⟩ := x
    exact ⟨ho _ d, z, ne, k _ _ (.inl rfl) e, mA, ⟨od, es, ep, k _ _ (.inr d) e2, c⟩, r⟩
  | own y => obtain ⟨ob, e⟩ := x; exact ⟨ob, k _ _ (.inl rfl) e⟩
  | xd fs => obtain ⟨mA, ⟨od, es, ep, e, c⟩, r⟩ := x; exact ⟨mA, ⟨od, es, ep, k _ _ (.inl rfl) e, c⟩, r⟩
  | rng lo hi => obtain ⟨t, u, v, e⟩ := x; exact ⟨t, u, v, k _ _ (.inl rfl) e⟩
  | frz ob u ih => obtain ⟨e, q⟩ := x; exact ⟨k _ _ (.inl rfl) e, ih q⟩
  | tbl ps =>
    have e : h.get? a = some { cls := .none, data := .fields ps } := x
    show h'.get? a = some { cls := .none, data := .fields ps }
    exact k a _ (.inl rfl) e
  | met f y =>
    have e : h.get? a = some (PySem.W.methodObj (.ref f) (.ref y)) := x
    show h'.get? a = some (PySem.W.methodObj (.ref f) (.ref y))
    exact k a _ (.inl rfl) e
  | ext φ => obtain ⟨p, ⟨o, e⟩, st⟩ := x; exact ⟨st _ _ p fun o q => k _ _ (.inl rfl) q, ⟨o, k _ _ (.inl rfl) e⟩, st⟩
theorem HOk.lt (x : HOk P w H h) (e : H a = some o) : a < h.objs.size := (x a o e).lt
theorem HOk.fresh (x : HOk P w H h) (e : h.objs.size ≤ a) : H a = none := by
  cases q : H a with
  | none => rfl
  | some u => exact absurd (Nat.lt_of_lt_of_le (x.lt q) e) (Nat.lt_irrefl _)
theorem HOk.kept (x : HOk P w H h) (k : ∀ b u, h.get? b = some u → h'.get? b = some u) : HOk P w H h' := fun a o e =>
  (x a o e).stay (fun b u _ q => k b u q) (fun _ q => q) fun _ _ q => q
theorem HOk.laid (x : HOk P w H h) (k : ∀ b u, h.get? b = some u → h'.get? b = some u) (hp : h.objs.size ≤ a) (new : ObjOk P w (upd H a o) h' a o) : HOk P w (upd H a o) h' := fun b u e => by
  have hn := x.fresh hp
  by_cases hb : b = a
  · subst hb; rw [upd_same] at e; cases e; exact new
  · rw [upd_ne hb] at e
    exact (x b u e).stay (fun c v _ q => k c v q) (fun c q => by rw [upd_ne (ne_of_none q hn)]; exact q) fun c xs q => by rw [upd_ne (ne_of_none q hn)]; exact q
end

noncomputable def Rd (H : Hp) (a : Addr) (u : HO) : Prop := H a = some u ∨ ∃ o, H a = some (.frz o u)
theorem Rd.ok {P : Program} {w : World} {H : Hp} {h : Heap} {a : Addr} {u : HO} (r : Rd H a u) (x : HOk P w H h) : ObjOk P w H h a u := by
  rcases r with r | ⟨o, r⟩
  · exact x a u r
  · obtain ⟨_, q⟩ := x a _ r
    exact q
noncomputable def Mut : Option HO → Prop
  | some (.lst _) => True
  | some (.dK _) => True
  | some (.dT _) => True
  | some (.set _ _) => True
  | some (.ins _ _ _) => True
  | some (.ext _) => True
  | _ => False
section
variable {P : Program} {w : World} {H : Hp} {h h' : Heap} {x e : Addr} {o' : HO}
theorem HOk.write (ok : HOk P w H h) (mu : Mut (H x)) (he : e = x ∨ H e = some (.own x)) (k : ∀ b u, b ≠ e → h.get? b = some u → h'.get? b = some u) (heo : ∃ u, h'.get? e = some u)
    (new : ObjOk P w (upd H x o') h' x o') : HOk P w (upd H x o') h' := fun b u q => by
  have nown : ∀ c y, H c = some (.own y) → c ≠ x := fun c y r z => by subst z; rw [r] at mu; exact mu
  have ntup : ∀ c xs, H c = some (.tup xs) → c ≠ x := fun c xs r z => by subst z; rw [r] at mu; exact mu
  by_cases hb : b = x
  · subst hb; rw [upd_same] at q; cases q; exact new
  · rw [upd_ne hb] at q
    by_cases hbe : b = e
    · have q' : H b = some (.own x) := by
        rcases he with z | z
        · exact absurd (hbe.trans z) hb
        · rw [hbe]; exact z
      rw [q] at q'; cases q'
      obtain ⟨v, hv⟩ := heo
      exact ⟨v, by rw [hbe]; exact hv⟩
    · refine (ok b u q).stay (fun c v hc r => k c v ?_ r) (fun c r => by rw [upd_ne (nown c b r)]; exact r) fun c xs r => by rw [upd_ne (ntup c xs r)]; exact r
      rcases hc with rfl | hc
      · exact hbe
      · rintro rfl
        rcases he with z | z
        · exact nown c b hc z
        · rw [hc] at z; cases z; exact hb rfl
end

structure Un (fs ex : List Addr) (H H' : Hp) (h h' : Heap) : Prop where
  keep : ∀ b o, h.get? b = some o → H b = none → b ∉ fs → b ∉ ex → h'.get? b = some o
  slot : ∀ b o, h.get? b = some o → H b = none → b ∈ fs → b ∉ ex → ∃ sl, h'.get? b = some { o with slots := sl }
  free : ∀ b o, h.get? b = some o → H b = none → b ∉ ex → H' b = none
  there : ∀ b o, h.get? b = some o → b ∉ ex → ∃ o', h'.get? b = some o'
  tups : ∀ b xs, H b = some (.tup xs) → H' b = some (.tup xs)
  frzs : ∀ b o u, H b = some (.frz o u) → H' b = some (.frz o u)
  tbls : ∀ b ps, H b = some (.tbl ps) → ∃ more, H' b = some (.tbl (ps ++ more))
section
variable {fs fs' ex ex' : List Addr} {H H1 H2 : Hp} {h h1 h2 h' : Heap} {a x e : Addr} {o : HO}
theorem Un.any (u : Un fs ex H H1 h h1) {b : Addr} {ob : Obj} (q : h.get? b = some ob) (n : H b = none) (hx : b ∉ ex) : ∃ sl, h1.get? b = some { ob with slots := sl } := by
  by_cases hb : b ∈ fs
  · exact u.slot b ob q n hb hx
  · exact ⟨ob.slots, u.keep b ob q n hb hx⟩
theorem Un.kept (k : ∀ b u, h.get? b = some u → h'.get? b = some u) : Un fs ex H H h h' :=
  ⟨fun b ob q _ _ _ => k b ob q, fun b ob q _ _ _ => ⟨ob.slots, k b ob q⟩, fun _ _ _ n _ => n, fun b ob q _ => ⟨ob, k b ob q⟩, fun _ _ q => q, fun _ _ _ q => q, fun _ ps q => ⟨#[], by rw [q]; simp⟩⟩
theorem Un.refl : Un fs ex H H h h := Un.kept fun _ _ q => q
theorem Un.laid (k : ∀ b u, h.get? b = some u → h'.get? b = some u) (hp : h.objs.size ≤ a) (hn : H a = none) : Un fs ex H (upd H a o) h h' where
  keep := fun b u q _ _ _ => k b u q
  slot := fun b u q _ _ _ => ⟨u.slots, k b u q⟩
  free := fun b u q n _ => by rw [upd_ne (Nat.ne_of_lt (Nat.lt_of_lt_of_le (Heap.lt_size q) hp))]; exact n
  there := fun b u q _ => ⟨u, k b u q⟩
  tups := fun b xs q => by rw [upd_ne (ne_of_none q hn)]; exact q
  frzs := fun b u xs q => by rw [upd_ne (ne_of_none q hn)]; exact q
  tbls := fun b ps q => ⟨#[], by rw [upd_ne (ne_of_none q hn), q]; simp⟩
theorem Un.write (mu : Mut (H x)) (he : e = x ∨ H e = some (.own x)) (k : ∀ b u, b ≠ e → h.get? b = some u → h'.get? b = some u) (heo : ∃ u, h'.get? e = some u) : Un fs ex H (upd H x o) h h' := by
  have hx : ∀ b, H b = none → b ≠ x := fun b n z => by subst z; rw [n] at mu; exact mu
  have hb : ∀ b, H b = none → b ≠ e := fun b n z => by
    subst z
    rcases he with r | r
    · exact hx b n r
    · rw [n] at r; cases r
  have hm : ∀ b u, H b = some u → ¬ Mut (some u) → b ≠ x := fun b u q nm z => by subst z; rw [q] at mu; exact nm mu
  refine ⟨fun b u q n _ _ => k b u (hb b n) q, fun b u q n _ _ => ⟨u.slots, k b u (hb b n) q⟩, fun b u q n _ => by rw [upd_ne (hx b n)]; exact n, fun b u q _ => ?_,
    fun b xs q => by rw [upd_ne (hm b _ q fun z => z)]; exact q, fun b u xs q => by rw [upd_ne (hm b _ q fun z => z)]; exact q, fun b ps q => ⟨#[], by rw [upd_ne (hm b _ q fun z => z), q]; simp⟩⟩
  by_cases hbe : b = e
  · subst hbe; exact heo
  · exact ⟨u, k b u hbe q⟩
end

noncomputable def trk (h : Heap) (H : Hp) : List Addr := (List.range h.objs.size).filter fun a => (H a).isSome
noncomputable def hidT (h : Heap) (H : Hp) : Heap := PySem.W.hideAll h (trk h H)
theorem hidT_size (h : Heap) (H : Hp) : (hidT h H).objs.size = h.objs.size := PySem.W.hideAll_size _ _
theorem hidT_get {h : Heap} {H : Hp} {b : Addr} {o : Obj} (e : h.get? b = some o) (n : H b = none) : (hidT h H).get? b = some o :=
  PySem.W.hideAll_get _ e fun hm => by
    have q : (H b).isSome = true := (List.mem_filter.mp hm).2
    rw [n] at q; simp at q
theorem of_hidT {h : Heap} {H : Hp} {b : Addr} {o : Obj} (e : (hidT h H).get? b = some o) : h.get? b = some o ∧ H b = none := by
  have e' : h.get? b = some o := PySem.W.of_hideAll (trk h H) e
  refine ⟨e', ?_⟩
  cases q : H b with
  | none => rfl
  | some x =>
    have hm : b ∈ trk h H := List.mem_filter.mpr ⟨List.mem_range.mpr (Heap.lt_size e'), by simp [q]⟩
    have z : (hidT h H).get? b = none := PySem.W.hideAll_none (trk h H) hm
    rw [z] at e; cases e

noncomputable def allNews (g h : Heap) (L : Addr) : List (Addr × Obj) := (List.range h.objs.size).filterMap fun a => if a = L ∨ (g.get? a).isSome = true then none else (h.get? a).map fun o => (a, o)
noncomputable def rest (g h : Heap) (L d : Addr) : List (Addr × Obj) := (allNews g h L).filter fun p => decide (p.1 ≠ d)
end L2

namespace L2
open PySem PySem.Spec PyProof.Rows

structure Mod (K : PySem.W.Frag) (mg : Str → Option Value) (base : Heap) : Prop where
  kin : K.In base
  glob : base.Ns mainGlobals mg
  blt : ∃ mb, base.Ns builtinsNs mb ∧ ∀ x : Str, x ≠ "__name__" → mb x = bootBuiltins x
  nolimit : base.NoLimit

set_option genInjectivity false in
set_option genSizeOf false in
structure Cx where
  prog : Program
  w : World
  K : PySem.W.Frag
  mg : Str → Option Value
  base : Heap
  A : Around
  N : List Str
  s₀ : Shared
  H₀ : Hp
  env : Env
  outer : List Env
  stack : List Env
  ex : List Addr
  fn : Str → Bool
  calm : Bool
  pn : List (Addr × Obj)
  xe : Value → Shared → Prop
noncomputable def frs (l : List Env) : List Addr := l.filterMap (·.frame)
noncomputable abbrev Cx.fs (X : Cx) : List Addr := frs X.outer

noncomputable def Vis (sc : Scope) (x : Str) : Prop := sc.names.lookup x = some .local ∨ sc.names.lookup x = some .cell ∨ sc.names.lookup x = some .free
noncomputable def Loc (sc : Scope) (x : Str) : Prop := sc.names.lookup x = some .local ∨ sc.names.lookup x = some .cell
noncomputable def Look (env : Env) (h : Heap) (m : Str → Option Value) (x : Str) (u : Value) : Prop :=
  (env.kindOf x = some .local ∧ m x = some u) ∨ ((env.kindOf x = some .cell ∨ env.kindOf x = some .free) ∧ ∃ c, env.cells.lookup x = some c ∧ h.IsCell c (some u))

set_option genInjectivity false in
set_option genSizeOf false in
structure Cx.Ok (X : Cx) : Prop where
  mod : Mod X.K X.mg X.base
  kind : X.env.scope.kind = .function
  glob : X.env.globals = mainGlobals
  blt : X.env.builtins = builtinsNs
  above : X.s₀.heap.objs.size ≤ X.env.locals
  inj : ∀ x y c, X.env.cells.lookup x = some c → X.env.cells.lookup y = some c → x = y
  has : ∀ x, (X.env.kindOf x = some .cell ∨ X.env.kindOf x = some .free) → ∃ c, X.env.cells.lookup x = some c
  cab : ∀ x c, X.fn x = true → X.env.cells.lookup x = some c → X.s₀.heap.objs.size ≤ c
  hd : X.calm = true → X.A.handled = none
  frames : X.A.frames = some X.stack
  stk : X.stack = X.outer ∨ (X.stack = X.env :: X.outer ∧ X.env.frame = some X.env.locals)
  exf : ∀ b ∈ X.ex, b ≠ X.env.locals ∧ ∀ x c, X.env.cells.lookup x = some c → c ≠ b
  bs : ∀ b o, X.base.get? b = some o → X.s₀.heap.get? b = some o ∧ X.H₀ b = none
  bsz : X.base.objs.size ≤ X.s₀.heap.objs.size
  noex : ∀ b o, X.base.get? b = some o → b ∉ X.ex
  exfs : ∀ b ∈ X.ex, b ∉ X.fs
  funs : X.s₀.heap.FunFrames X.base X.outer
  frf : ∀ b ∈ X.fs, X.H₀ b = none

structure Inv (X : Cx) (pins : List (Addr × Obj)) (σ : List (Option V)) (H : Hp) (s : Shared) : Prop where
  ok : X.Ok
  os : s.os = X.s₀.os
  bare : AllBare s.gens
  base : Un X.fs X.ex X.H₀ H X.s₀.heap s.heap
  loc : ∃ m, s.heap.Ns X.env.locals m ∧ ∀ (i : Nat) (x : Str) (v : V), X.N[i]? = some x → σ[i]? = some (some v) → Vis X.env.scope x → ∃ u, RelV v u ∧ Look X.env s.heap m x u
  cell : ∀ x c, X.env.cells.lookup x = some c → ∃ v, s.heap.IsCell c v
  free : H X.env.locals = none
  freeC : ∀ x c, X.env.cells.lookup x = some c → H c = none
  pin : ∀ p ∈ X.pn ++ pins, s.heap.get? p.1 = some p.2 ∧ H p.1 = none ∧ p.1 ≠ X.env.locals ∧ p.1 ∉ X.fs ∧ ∀ v, p.2.data ≠ .cell v
  hok : HOk X.prog X.w H s.heap
  len : σ.length = X.N.length

section
variable {X : Cx} {pins : List (Addr × Obj)} {σ : List (Option V)} {H H' : Hp} {s : Shared} {h' : Heap}

theorem Cx.Ok.nofr (ok : X.Ok) {b : Addr} {o : Obj} (e : X.base.get? b = some o) : b ∉ X.fs := fun hb => by
  have := (ok.funs.mem hb).1
  rw [e] at this; cases this
theorem Inv.bs (I : Inv X pins σ H s) : ∀ b o, X.base.get? b = some o → s.heap.get? b = some o ∧ H b = none := fun b o e =>
  ⟨I.base.keep b o (I.ok.bs b o e).1 (I.ok.bs b o e).2 (I.ok.nofr e) (I.ok.noex b o e), I.base.free b o (I.ok.bs b o e).1 (I.ok.bs b o e).2 (I.ok.noex b o e)⟩
theorem Inv.bk (I : Inv X pins σ H s) : ∀ b o, X.base.get? b = some o → s.heap.get? b = some o := fun b o e => (I.bs b o e).1
theorem Inv.mod (I : Inv X pins σ H s) : Mod X.K X.mg X.base := I.ok.mod
theorem Inv.kIn (I : Inv X pins σ H s) : X.K.In s.heap := I.ok.mod.kin.keeps I.bk
theorem Inv.lt (I : Inv X pins σ H s) : X.env.locals < s.heap.objs.size := let ⟨_, hn, _⟩ := I.loc; hn.lt
theorem Inv.sz (I : Inv X pins σ H s) : X.s₀.heap.objs.size ≤ s.heap.objs.size := Nat.le_trans I.ok.above (Nat.le_of_lt I.lt)
theorem Inv.nofs (I : Inv X pins σ H s) {a : Addr} (h : s.heap.objs.size ≤ a) : a ∉ X.fs := fun hb => by
  obtain ⟨_, o, ho, _⟩ := I.ok.funs.mem hb
  exact absurd (Nat.lt_of_lt_of_le (Heap.lt_size ho) (Nat.le_trans I.sz h)) (Nat.lt_irrefl _)
theorem Inv.cne (I : Inv X pins σ H s) : ∀ x c, X.env.cells.lookup x = some c → c ≠ X.env.locals := fun x c e z => by
  obtain ⟨v, o, ho, hd⟩ := I.cell x c e
  obtain ⟨m, ⟨o', es, ep, ho', hd', _⟩, _⟩ := I.loc
  rw [z, ho'] at ho; cases ho; rw [hd'] at hd; cases hd
theorem Inv.funs (I : Inv X pins σ H s) : s.heap.FunFrames X.base X.outer := by
  have all : ∀ (l : List Env), (∀ b ∈ frs l, b ∈ X.fs) → X.s₀.heap.FunFrames X.base l → s.heap.FunFrames X.base l := by
    intro l
    induction l with
    | nil => intro _ _; trivial
    | cons env r ih =>
      intro hs hl
      obtain ⟨hk, ⟨L, o, hf, hn, ho, hd⟩, hr⟩ := hl
      have hL : L ∈ X.fs := hs L (by unfold frs; rw [List.filterMap_cons, hf]; exact List.mem_cons_self)
      obtain ⟨sl, e⟩ := I.base.slot L o ho (I.ok.frf L hL) hL fun z => I.ok.exfs L z hL
      exact ⟨hk, ⟨L, _, hf, hn, e, hd⟩, ih (fun b hb => hs b (by unfold frs; rw [List.filterMap_cons, hf]; exact List.mem_cons_of_mem _ hb)) hr⟩
  exact all X.outer (fun _ hb => hb) I.ok.funs

theorem Inv.stack (I : Inv X pins σ H s) : s.heap.FunFrames X.base X.stack := by
  rcases I.ok.stk with e | ⟨e, hf⟩
  · rw [e]; exact I.funs
  · rw [e]
    obtain ⟨m, hn, _⟩ := I.loc
    refine .cons (by rw [I.ok.kind]; decide) hf hn ?_ I.funs
    exact Heap.get?_none_of_le (Nat.le_trans I.ok.bsz I.ok.above)
theorem Inv.stkSub (I : Inv X pins σ H s) : ∀ b ∈ frs X.stack, b ∈ X.env.locals :: X.fs := fun b hb => by
  rcases I.ok.stk with e | ⟨e, hf⟩
  · rw [e] at hb; exact List.mem_cons_of_mem _ hb
  · rw [e] at hb
    unfold frs at hb
    rw [List.filterMap_cons, hf] at hb
    exact hb
theorem Inv.stkFree (I : Inv X pins σ H s) : ∀ b ∈ frs X.stack, H b = none := fun b hb => by
  rcases List.mem_cons.mp (I.stkSub b hb) with e | hb
  · rw [e]; exact I.free
  · obtain ⟨_, o, ho, _⟩ := I.ok.funs.mem hb
    exact I.base.free b o ho (I.ok.frf b hb) fun z => I.ok.exfs b z hb

theorem Inv.step {g' : Array GenState} {t' : Nat} {d' : Drawn} {ch : List Addr} (I : Inv X pins σ H s)
    (hch : ∀ b ∈ ch, (b ∈ X.ex ∨ X.s₀.heap.objs.size ≤ b) ∧ b ≠ X.env.locals ∧ (∀ x c, X.env.cells.lookup x = some c → c ≠ b) ∧ ∀ p ∈ X.pn ++ pins, p.1 ≠ b)
    (keep : ∀ b o, b ≠ X.env.locals → b ∉ X.fs → b ∉ ch → s.heap.get? b = some o → H b = none → h'.get? b = some o)
    (slot : ∀ b o, b ≠ X.env.locals → b ∈ X.fs → b ∉ ch → s.heap.get? b = some o → H b = none → ∃ sl, h'.get? b = some { o with slots := sl }) (free : ∀ b o, b ∉ ch → s.heap.get? b = some o → H b = none → H' b = none)
    (there : ∀ b o, b ∉ ch → s.heap.get? b = some o → ∃ o', h'.get? b = some o')
    (tups : ∀ b xs, H b = some (.tup xs) → H' b = some (.tup xs)) (frzs : ∀ b o u, H b = some (.frz o u) → H' b = some (.frz o u)) (tbls : ∀ b ps, H b = some (.tbl ps) → ∃ more, H' b = some (.tbl (ps ++ more)))
    (ns : ∀ m, s.heap.Ns X.env.locals m → h'.Ns X.env.locals m) (hok : HOk X.prog X.w H' h') (hg : AllBare g') :
    Inv X pins σ H' { s with heap := h', gens := g', drawn := d', toks := t' } := by
  have neL : ∀ b o, X.s₀.heap.get? b = some o → b ≠ X.env.locals := fun b o e => Nat.ne_of_lt (Nat.lt_of_lt_of_le (Heap.lt_size e) I.ok.above)
  have neC : ∀ b o, X.s₀.heap.get? b = some o → b ∉ X.ex → b ∉ ch := fun b o e hx hb => by
    rcases (hch b hb).1 with z | z
    · exact hx z
    · exact absurd (Nat.lt_of_lt_of_le (Heap.lt_size e) z) (Nat.lt_irrefl _)
  have cellK : ∀ x c, X.env.cells.lookup x = some c → ∀ v, s.heap.IsCell c v → h'.IsCell c v := fun x c e v ⟨o, ho, hd⟩ => by
    have nch : c ∉ ch := fun z => (hch c z).2.2.1 x c e rfl
    by_cases hc : c ∈ X.fs
    · obtain ⟨sl, q⟩ := slot c o (I.cne x c e) hc nch ho (I.freeC x c e)
      exact ⟨_, q, hd⟩
    · exact ⟨o, keep c o (I.cne x c e) hc nch ho (I.freeC x c e), hd⟩
  refine ⟨I.ok, I.os, hg, ⟨fun b o e n hb hx => ?_, fun b o e n hb hx => ?_, fun b o e n hx => ?_, fun b o e hx => ?_, fun b xs e => tups b xs (I.base.tups b xs e), fun b o xs e => frzs b o xs (I.base.frzs b o xs e), fun b ps e => ?_⟩, ?_, fun x c e => ?_, ?_, fun x c e => ?_, fun p hp => ?_, hok, I.len⟩
  · exact keep b o (neL b o e) hb (neC b o e hx) (I.base.keep b o e n hb hx) (I.base.free b o e n hx)
  · obtain ⟨sl, e1⟩ := I.base.slot b o e n hb hx
    obtain ⟨sl', e2⟩ := slot b _ (neL b o e) hb (neC b o e hx) e1 (I.base.free b o e n hx)
    exact ⟨sl', e2⟩
  · obtain ⟨o', e1⟩ := I.base.there b o e hx
    exact free b o' (neC b o e hx) e1 (I.base.free b o e n hx)
  · obtain ⟨o', e1⟩ := I.base.there b o e hx
    exact there b o' (neC b o e hx) e1
  · obtain ⟨m1, e1⟩ := I.base.tbls b ps e
    obtain ⟨m2, e2⟩ := tbls b _ e1
    exact ⟨m1 ++ m2, by rw [e2, Array.append_assoc]⟩
  · obtain ⟨m, hn, hl⟩ := I.loc
    refine ⟨m, ns m hn, fun i x v e1 e2 e3 => ?_⟩
    obtain ⟨u, r, l⟩ := hl i x v e1 e2 e3
    refine ⟨u, r, ?_⟩
    rcases l with l | ⟨k, c, e, z⟩
    · exact .inl l
    · exact .inr ⟨k, c, e, cellK x c e _ z⟩
  · obtain ⟨v, z⟩ := I.cell x c e
    exact ⟨v, cellK x c e v z⟩
  · obtain ⟨m, ⟨o, _, _, ho, _⟩, _⟩ := I.loc
    exact free _ o (fun z => (hch _ z).2.1 rfl) ho I.free
  · obtain ⟨v, o, ho, hd⟩ := I.cell x c e
    exact free c o (fun z => (hch c z).2.2.1 x c e rfl) ho (I.freeC x c e)
  · obtain ⟨e, n, ne, nf, d⟩ := I.pin p hp
    have nch : p.1 ∉ ch := fun z => (hch p.1 z).2.2.2 p hp rfl
    exact ⟨keep p.1 p.2 ne nf nch e n, free p.1 p.2 nch e n, ne, nf, d⟩
theorem Inv.un {t' : Nat} (I : Inv X pins σ H s) (u : Un X.fs [] H H' s.heap h') (hok : HOk X.prog X.w H' h') : Inv X pins σ H' { s with heap := h', toks := t' } := by
  obtain ⟨m, ⟨o, es, ep, ho, r⟩, _⟩ := id I.loc
  obtain ⟨sl, hL⟩ := u.any ho I.free (by simp)
  exact I.step (g' := s.gens) (d' := s.drawn) (ch := []) (fun _ z => nomatch z) (fun b o _ hb _ e n => u.keep b o e n hb (by simp)) (fun b o _ hb _ e n => u.slot b o e n hb (by simp)) (fun b o _ e n => u.free b o e n (by simp)) (fun b o _ e => u.there b o e (by simp)) u.tups u.frzs u.tbls (fun m' hm => by
    obtain ⟨o', es', ep', ho', r'⟩ := hm
    rw [ho] at ho'; cases ho'
    exact ⟨_, es', ep', hL, r'⟩) hok I.bare
theorem Inv.call {g' : Array GenState} {t' : Nat} {d' : Drawn} {ch : List Addr} (I : Inv X pins σ H s) (u : Un (frs X.stack) ch H H' s.heap h') (hok : HOk X.prog X.w H' h') (hg : AllBare g')
    (hch : ∀ b ∈ ch, (b ∈ X.ex ∨ X.s₀.heap.objs.size ≤ b) ∧ b ≠ X.env.locals ∧ (∀ x c, X.env.cells.lookup x = some c → c ≠ b) ∧ ∀ p ∈ X.pn ++ pins, p.1 ≠ b) :
    Inv X pins σ H' { s with heap := h', gens := g', drawn := d', toks := t' } := by
  obtain ⟨m, ⟨o, es, ep, ho, r⟩, _⟩ := id I.loc
  obtain ⟨sl, hL⟩ := u.any ho I.free fun z => (hch _ z).2.1 rfl
  exact I.step (ch := ch) hch (fun b o hL hb hc e n => u.keep b o e n (fun z => (List.mem_cons.mp (I.stkSub b z)).elim hL hb) hc) (fun b o _ _ hc e n => u.any e n hc) (fun b o hc e n => u.free b o e n hc) (fun b o hc e => u.there b o e hc) u.tups u.frzs u.tbls (fun m' hm => by
    obtain ⟨o', es', ep', ho', r'⟩ := hm
    rw [ho] at ho'; cases ho'
    exact ⟨_, es', ep', hL, r'⟩) hok hg
theorem Inv.turned {t' : Nat} {it : Addr} (I : Inv X pins σ H s) (k : ∀ b o, b ≠ it → s.heap.get? b = some o → h'.get? b = some o) (hn : H it = none) (hL : it ≠ X.env.locals)
    (h1 : it ∈ X.ex ∨ X.s₀.heap.objs.size ≤ it) (h2 : ∀ x c, X.env.cells.lookup x = some c → c ≠ it) (h3 : ∀ p ∈ X.pn ++ pins, p.1 ≠ it) : Inv X pins σ H { s with heap := h', toks := t' } := by
  have nit : ∀ b u, H b = some u → b ≠ it := fun b u e z => by rw [z, hn] at e; cases e
  refine I.step (g' := s.gens) (d' := s.drawn) (ch := [it]) (fun b hb => ?_) (fun b o _ _ hc e _ => k b o (fun z => hc (by simp [z])) e) (fun b o _ _ hc e _ => ⟨o.slots, k b o (fun z => hc (by simp [z])) e⟩) (fun _ _ _ _ n => n)
    (fun b o hc e => ⟨o, k b o (fun z => hc (by simp [z])) e⟩) (fun _ _ e => e) (fun _ _ _ e => e) (fun b ps e => ⟨#[], by rw [e]; simp⟩) (fun m hm => ?_) (fun b u e => ?_) I.bare
  · have e : b = it := by simpa using hb
    subst e
    exact ⟨h1, hL, h2, h3⟩
  · obtain ⟨o, es, ep, ho, r⟩ := hm
    exact ⟨o, es, ep, k _ o (Ne.symm hL) ho, r⟩
  · refine (I.hok b u e).stay (fun c v hc q => k c v ?_ q) (fun _ q => q) fun _ _ q => q
    rcases hc with z | z
    · rw [z]; exact nit b u e
    · exact nit c _ z
theorem Inv.tok (I : Inv X pins σ H s) (t : Nat) : Inv X pins σ H { s with toks := t } := I.un (h' := s.heap) (t' := t) Un.refl I.hok
theorem Inv.kept {t' : Nat} (I : Inv X pins σ H s) (k : ∀ b u, s.heap.get? b = some u → h'.get? b = some u) : Inv X pins σ H { s with heap := h', toks := t' } := I.un (Un.kept k) (I.hok.kept k)
theorem Inv.laid {a : Addr} {o : HO} {t' : Nat} (I : Inv X pins σ H s) (k : ∀ b u, s.heap.get? b = some u → h'.get? b = some u) (hp : s.heap.objs.size ≤ a) (new : ObjOk X.prog X.w (upd H a o) h' a o) :
    Inv X pins σ (upd H a o) { s with heap := h', toks := t' } := I.un (Un.laid k hp (I.hok.fresh hp)) (I.hok.laid k hp new)
theorem Inv.write {x e : Addr} {o : HO} {t' : Nat} (I : Inv X pins σ H s) (mu : Mut (H x)) (he : e = x ∨ H e = some (.own x)) (k : ∀ b u, b ≠ e → s.heap.get? b = some u → h'.get? b = some u) (heo : ∃ u, h'.get? e = some u)
    (new : ObjOk X.prog X.w (upd H x o) h' x o) : Inv X pins σ (upd H x o) { s with heap := h', toks := t' } := I.un (Un.write mu he k heo) (I.hok.write mu he k heo new)
theorem Inv.pins_of {pins' : List (Addr × Obj)} (I : Inv X pins σ H s) (h : ∀ p ∈ pins', s.heap.get? p.1 = some p.2 ∧ H p.1 = none ∧ p.1 ≠ X.env.locals ∧ p.1 ∉ X.fs ∧ ∀ v, p.2.data ≠ .cell v) : Inv X pins' σ H s :=
  ⟨I.ok, I.os, I.bare, I.base, I.loc, I.cell, I.free, I.freeC, fun p hp => (List.mem_append.mp hp).elim (fun z => I.pin p (List.mem_append_left _ z)) (h p), I.hok, I.len⟩

theorem nodup_ix {N : List Str} (hN : N.Nodup) {i j : Nat} {x : Str} (a : N[i]? = some x) (b : N[j]? = some x) : i = j := by
  obtain ⟨h1, e1⟩ := List.getElem?_eq_some_iff.mp a
  obtain ⟨h2, e2⟩ := List.getElem?_eq_some_iff.mp b
  exact (List.getElem_inj hN).mp (e1.trans e2.symm)

theorem store_ok2 {M : Model} {A : Around} {E : Value → Shared → Prop} {i : Nat} {x : Str} {v : V} {u : Value} {Q : Unit → Shared → Prop} (I : Inv X pins σ H s) (hN : X.N.Nodup) (hi : X.N[i]? = some x) (hx : Loc X.env.scope x) (r : RelV v u)
    (h : ∀ s', Inv X pins (σ.set i (some v)) H s' → (∃ a, Heap.SameBut a s.heap s'.heap ∧ (a = X.env.locals ∨ X.env.cells.lookup x = some a)) → Q () s') (hf : X.fn x = true ∨ X.env.scope.names.lookup x = some .local := by first | exact .inl rfl | exact .inr rfl | assumption) : wpAny M A (storeName X.env x u) Q E s := by
  obtain ⟨m, hn, hl⟩ := id I.loc
  have hcls : (X.env.scope.kind == .class || (X.env.scope.kind == .module && X.env.locals != X.env.globals)) = false := by rw [I.ok.kind]; rfl
  have hiσ : i < σ.length := by rw [I.len]; exact (List.getElem?_eq_some_iff.mp hi).1
  have cne := I.cne
  have tracked : ∀ {a : Addr} {h' : Heap}, (∃ o, s.heap.get? a = some o ∧ H a = none) → Heap.SameBut a s.heap h' → HOk X.prog X.w H h' := fun {a h'} ha hs b ob e => by
    obtain ⟨_, _, hfree⟩ := ha
    refine (I.hok b ob e).stay (fun c w' hc q => (hs.2 c ?_).trans q) (fun _ q => q) fun _ _ q => q
    rintro rfl
    rcases hc with rfl | hc
    · rw [hfree] at e; cases e
    · rw [hfree] at hc; cases hc
  rcases hx with hk | hk
  · refine wpAny_storeName_local hk hn (fun h' hn' hs => ?_) hcls
    obtain ⟨oL, _, _, hoL, _⟩ := id hn
    refine h _ ⟨I.ok, I.os, I.bare, ⟨fun b o e n hb hx => ?_, fun b o e n hb hx => ?_, I.base.free, fun b o e hx => ?_, I.base.tups, I.base.frzs, I.base.tbls⟩, ⟨_, hn', fun j y v' e1 e2 e3 => ?_⟩, fun y c e => ?_, I.free, I.freeC, fun p hp => ?_, tracked ⟨oL, hoL, I.free⟩ hs, by simpa using I.len⟩ ⟨_, hs, .inl rfl⟩
    · exact (hs.2 b (Nat.ne_of_lt (Nat.lt_of_lt_of_le (Heap.lt_size e) I.ok.above))).trans (I.base.keep b o e n hb hx)
    · obtain ⟨sl, e1⟩ := I.base.slot b o e n hb hx
      exact ⟨sl, (hs.2 b (Nat.ne_of_lt (Nat.lt_of_lt_of_le (Heap.lt_size e) I.ok.above))).trans e1⟩
    · obtain ⟨o', e1⟩ := I.base.there b o e hx
      exact ⟨o', (hs.2 b (Nat.ne_of_lt (Nat.lt_of_lt_of_le (Heap.lt_size e) I.ok.above))).trans e1⟩
    · by_cases hj : j = i
      · subst hj
        rw [hi] at e1; cases e1
        rw [List.getElem?_set_self hiσ] at e2
        cases e2
        exact ⟨u, r, .inl ⟨hk, by simp⟩⟩
      · rw [List.getElem?_set_ne (Ne.symm hj)] at e2
        obtain ⟨u', r', q⟩ := hl j y v' e1 e2 e3
        refine ⟨u', r', ?_⟩
        rcases q with ⟨k, e⟩ | ⟨k, c, e, z⟩
        · refine .inl ⟨k, ?_⟩
          have : y ≠ x := fun e => hj (nodup_ix hN e1 (e ▸ hi))
          simp [this, e]
        · exact .inr ⟨k, c, e, z.sameBut hs (cne y c e)⟩
    · obtain ⟨w', z⟩ := I.cell y c e
      exact ⟨w', z.sameBut hs (cne y c e)⟩
    · obtain ⟨e, n, ne, nf, d⟩ := I.pin p hp
      exact ⟨(hs.2 p.1 ne).trans e, n, ne, nf, d⟩
  · have hfn : X.fn x = true := by
      rcases hf with z | z
      · exact z
      · rw [z] at hk; cases hk
    obtain ⟨c, hc⟩ := I.ok.has x (.inl hk)
    obtain ⟨w', z⟩ := I.cell x c hc
    refine wpAny_storeName_cell I.ok.kind hk hc z (fun h' hc' hs => ?_)
    obtain ⟨oc, hoc, hocd⟩ := id z
    refine h { s with heap := h' } ⟨I.ok, I.os, I.bare, ⟨fun b o e n hb hx => ?_, fun b o e n hb hx => ?_, I.base.free, fun b o e hx => ?_, I.base.tups, I.base.frzs, I.base.tbls⟩, ⟨m, hn.sameBut hs (Ne.symm (cne x c hc)), fun j y v' e1 e2 e3 => ?_⟩, fun y c' e => ?_, I.free, I.freeC, fun p hp => ?_, tracked ⟨oc, hoc, I.freeC x c hc⟩ hs, by simpa using I.len⟩ ⟨c, hs, .inr hc⟩
    · exact (hs.2 b (Nat.ne_of_lt (Nat.lt_of_lt_of_le (Heap.lt_size e) (I.ok.cab x c hfn hc)))).trans (I.base.keep b o e n hb hx)
    · obtain ⟨sl, e1⟩ := I.base.slot b o e n hb hx
      exact ⟨sl, (hs.2 b (Nat.ne_of_lt (Nat.lt_of_lt_of_le (Heap.lt_size e) (I.ok.cab x c hfn hc)))).trans e1⟩
    · obtain ⟨o', e1⟩ := I.base.there b o e hx
      exact ⟨o', (hs.2 b (Nat.ne_of_lt (Nat.lt_of_lt_of_le (Heap.lt_size e) (I.ok.cab x c hfn hc)))).trans e1⟩
    · by_cases hj : j = i
      · subst hj
        rw [hi] at e1; cases e1
        rw [List.getElem?_set_self hiσ] at e2
        cases e2
        exact ⟨u, r, .inr ⟨.inl hk, c, hc, hc'⟩⟩
      · rw [List.getElem?_set_ne (Ne.symm hj)] at e2
        obtain ⟨u', r', q⟩ := hl j y v' e1 e2 e3
        refine ⟨u', r', ?_⟩
        rcases q with q | ⟨k, c', e, z'⟩
        · exact .inl q
        · refine .inr ⟨k, c', e, z'.sameBut hs ?_⟩
          rintro rfl
          exact hj (nodup_ix hN e1 (I.ok.inj _ _ _ e hc ▸ hi))
    · by_cases hcc : c' = c
      · subst hcc; exact ⟨_, hc'⟩
      · obtain ⟨w2, z2⟩ := I.cell y c' e
        exact ⟨w2, z2.sameBut hs hcc⟩
    · obtain ⟨e, n, ne, nf, d⟩ := I.pin p hp
      refine ⟨(hs.2 p.1 ?_).trans e, n, ne, nf, d⟩
      intro q
      rw [q, hoc] at e
      have q' : oc = p.2 := Option.some.inj e
      exact d w' (by rw [← q']; exact hocd)
theorem store_ok {M : Model} {A : Around} {E : Value → Shared → Prop} {i : Nat} {x : Str} {v : V} {u : Value} {Q : Unit → Shared → Prop} (I : Inv X pins σ H s) (hN : X.N.Nodup) (hi : X.N[i]? = some x) (hx : Loc X.env.scope x) (r : RelV v u)
    (h : ∀ s', Inv X pins (σ.set i (some v)) H s' → Q () s') (hf : X.fn x = true ∨ X.env.scope.names.lookup x = some .local := by first | exact .inl rfl | exact .inr rfl | assumption) : wpAny M A (storeName X.env x u) Q E s :=
  store_ok2 I hN hi hx r (fun s' I' _ => h s' I') hf
end

noncomputable abbrev XK := Value → Option Addr → Hp → Prop
noncomputable abbrev St := List (Option V)
noncomputable abbrev VK := V → Hp → Prop
noncomputable abbrev TE := St → Hp → VK → Prop
noncomputable abbrev TT := St → Hp → (Bool → Hp → Prop) → Prop
noncomputable abbrev TA := St → Hp → (List V → Hp → Prop) → Prop
structure Ends where
  nx : St → Hp → Prop
  rt : VK
  bk : St → Hp → Prop := fun _ _ => False
  ct : St → Hp → Prop := fun _ _ => False
noncomputable abbrev TS := Ends → St → Hp → Prop

noncomputable def EP (X : Cx) (pins : List (Addr × Obj)) (σ : St) (Q : VK) (u : Value) (s' : Shared) : Prop := ∃ v H', Inv X pins σ H' s' ∧ RelV v u ∧ Q v H'
noncomputable def TP (X : Cx) (pins : List (Addr × Obj)) (σ : St) (Q : Bool → Hp → Prop) (b : Bool) (s' : Shared) : Prop := ∃ H', Inv X pins σ H' s' ∧ Q b H'
noncomputable def AP (X : Cx) (pins : List (Addr × Obj)) (σ : St) (Q : List V → Hp → Prop) (us : List Value) (s' : Shared) : Prop := ∃ vs H', Inv X pins σ H' s' ∧ Vals vs us ∧ Q vs H'
noncomputable def SP (X : Cx) (pins : List (Addr × Obj)) (D : Ends) (f : Flow) (s' : Shared) : Prop :=
  match f with
  | .next => ∃ σ' H', Inv X pins σ' H' s' ∧ D.nx σ' H'
  | .brk => ∃ σ' H', Inv X pins σ' H' s' ∧ D.bk σ' H'
  | .cont => ∃ σ' H', Inv X pins σ' H' s' ∧ D.ct σ' H'
  | .ret u => ∃ v σ' H', Inv X pins σ' H' s' ∧ RelV v u ∧ D.rt v H'

noncomputable def PE (X : Cx) (e : Expr) (t : TE) : Prop :=
  ∀ (pins : List (Addr × Obj)) (s : Shared) (σ : St) (H : Hp) (Q : VK), Inv X pins σ H s → t σ H Q → wpAny (model X.prog X.w) X.A (eval e X.env) (EP X pins σ Q) X.xe s
noncomputable def PT (X : Cx) (e : Expr) (t : TT) : Prop :=
  ∀ (pins : List (Addr × Obj)) (s : Shared) (σ : St) (H : Hp) (Q : Bool → Hp → Prop), Inv X pins σ H s → t σ H Q → wpAny (model X.prog X.w) X.A (isTrue e X.env (eval e X.env)) (TP X pins σ Q) X.xe s
noncomputable def PW (X : Cx) (e : Expr) (t : TT) : Prop :=
  ∀ (whole : Sem Value) (pins : List (Addr × Obj)) (s : Shared) (σ : St) (H : Hp) (Q : Bool → Hp → Prop), Inv X pins σ H s → t σ H Q → wpAny (model X.prog X.w) X.A (isTrue e X.env whole) (TP X pins σ Q) X.xe s
theorem PW.pt {X : Cx} {e : Expr} {t : TT} (h : PW X e t) : PT X e t := h _
noncomputable def PA (X : Cx) (es : List Expr) (t : TA) : Prop :=
  ∀ (pos : Pos) (pins : List (Addr × Obj)) (s : Shared) (σ : St) (H : Hp) (Q : List V → Hp → Prop), Inv X pins σ H s → t σ H Q → wpAny (model X.prog X.w) X.A (spliced (backTo pos (starEach es X.env))) (AP X pins σ Q) X.xe s
noncomputable def PS (X : Cx) (st : Stmt) (t : TS) : Prop :=
  ∀ (pins : List (Addr × Obj)) (s : Shared) (σ : St) (H : Hp) (D : Ends), Inv X pins σ H s → t D σ H → wpAny (model X.prog X.w) X.A (exec st X.env) (SP X pins D) X.xe s
noncomputable def PSs (X : Cx) (st : List Stmt) (t : TS) : Prop :=
  ∀ (pins : List (Addr × Obj)) (s : Shared) (σ : St) (H : Hp) (D : Ends), Inv X pins σ H s → t D σ H → wpAny (model X.prog X.w) X.A (execs st X.env) (SP X pins D) X.xe s
theorem thn {α : Type} {t : Sem α} {Q Q' : α → Shared → Prop} {M : Model} {A : Around} {E : Value → Shared → Prop} {s : Shared} (h : wpAny M A t Q E s) (hQ : ∀ a s, Q a s → Q' a s) : wpAny M A t Q' E s := wpAny_mono h hQ fun _ _ x => x
end L2

namespace L2
open PySem PySem.Spec PyProof.Rows
section
variable {X : Cx}

noncomputable def tVar (i : Nat) : TE := fun σ H Q => ∃ v, σ[i]? = some (some v) ∧ Q v H
noncomputable def tC (v : V) : TE := fun _ H Q => Q v H
theorem pe_var {i : Nat} {x : Str} {pos : Pos} (hN : X.N[i]? = some x) (hv : Vis X.env.scope x) (hd : (x == ("__debug__" : Str)) = false := by decide) (hcd : (x == ("__classdict__" : Str)) = false := by decide) : PE X (.Name x pos) (tVar i) := by
  intro pins s σ H Q I h
  obtain ⟨v, e, h⟩ := h
  obtain ⟨m, hn, hl⟩ := I.loc
  obtain ⟨u, r, l⟩ := hl i x v hN e hv
  have fin : EP X pins σ Q u s := ⟨v, H, I, r, h⟩
  rcases l with ⟨hk, hm⟩ | ⟨hk, c, hc, hcell⟩
  · exact wpAny_Name (wpAny_loadName_local I.ok.kind hk hn hm fin) hd
  · rcases hk with hk | hk
    · exact wpAny_Name (wpAny_loadName_cell I.ok.kind hk hc hcell fin) hd
    · exact wpAny_Name (wpAny_loadName_free I.ok.kind hk hc hcell fin hcd) hd
theorem pe_int {i j pos} : PE X (.Constant (.int i) j pos) (tC (.int i)) := fun _ _ _ H _ I h => wpAny_Constant_int ⟨.int i, H, I.tok _, ⟨_, rfl⟩, h⟩
theorem pe_bl {b j pos} : PE X (.Constant (.bool b) j pos) (tC (.bl b)) := fun _ _ _ H _ I h => Constant_bool ⟨.bl b, H, I, rfl, h⟩
theorem pe_non {j pos} : PE X (.Constant .none j pos) (tC .non) := fun _ _ _ H _ I h => Constant_none ⟨.non, H, I, rfl, h⟩
theorem pe_str {x j pos} : PE X (.Constant (.str x) j pos) (tC (.str x)) := fun _ _ _ H _ I h => Calls.Constant_str ⟨.str x, H, I.tok _, ⟨_, rfl⟩, h⟩

noncomputable def Gl (X : Cx) (x : Str) : Prop := X.env.kindOf x = some .globalImplicit
theorem ld_glob {E : Value → Shared → Prop} {pins : List (Addr × Obj)} {s : Shared} {σ : St} {H : Hp} {x : Str} {u : Value} {pos : Pos} {Q : Value → Shared → Prop} (I : Inv X pins σ H s) (hg : Gl X x) (hm : X.mg x = some u) (h : Q u s)
    (hd : (x == ("__debug__" : Str)) = false := by decide) : wpAny (model X.prog X.w) X.A (eval (.Name x pos) X.env) Q E s :=
  Calls.Name_function_global I.ok.kind hg (Calls.loadGlobal_global (by rw [I.ok.glob]; exact I.mod.glob.keeps I.bk) hm h) hd
theorem ld_blt {E : Value → Shared → Prop} {pins : List (Addr × Obj)} {s : Shared} {σ : St} {H : Hp} {x : Str} {u : Value} {pos : Pos} {Q : Value → Shared → Prop} (I : Inv X pins σ H s) (hg : Gl X x) (hm : X.mg x = none) (hv : bootBuiltins x = some u) (h : Q u s)
    (hn : x ≠ "__name__" := by decide) (hd : (x == ("__debug__" : Str)) = false := by decide) : wpAny (model X.prog X.w) X.A (eval (.Name x pos) X.env) Q E s := by
  obtain ⟨mb, h1, h2⟩ := I.mod.blt
  exact Calls.Name_function_global I.ok.kind hg (Calls.loadGlobal_builtin (by rw [I.ok.glob]; exact I.mod.glob.keeps I.bk) hm (by rw [I.ok.blt]; exact h1.keeps I.bk) ((h2 x hn).trans hv) h) hd
theorem pe_glob {x : Str} {v : V} {u : Value} {pos : Pos} (hg : Gl X x) (hm : X.mg x = some u) (r : RelV v u) (hd : (x == ("__debug__" : Str)) = false := by decide) : PE X (.Name x pos) (tC v) :=
  fun _ _ _ H _ I h => ld_glob I hg hm ⟨v, H, I, r, h⟩ hd
theorem pe_bltn {x : Str} {v : V} {u : Value} {pos : Pos} (hg : Gl X x) (hm : X.mg x = none) (hv : bootBuiltins x = some u) (r : RelV v u) (hn : x ≠ "__name__" := by decide) (hd : (x == ("__debug__" : Str)) = false := by decide) : PE X (.Name x pos) (tC v) :=
  fun _ _ _ H _ I h => ld_blt I hg hm hv ⟨v, H, I, r, h⟩ hn hd

variable {a b : Expr} {ta tb : TE} {pos : Pos}
variable {tA tB' : TT} {rest : List Expr}
noncomputable def tNot (t : TT) : TT := fun σ H Q => t σ H fun c H1 => Q (!c) H1
theorem pw_and1 (ha : PT X a tA) : PW X (.BoolOp .And [a] pos) tA := by
  intro wh pins s σ H Q I h
  refine isTrue_and (thn (ha pins s σ H Q I h) fun c s1 e => ?_)
  cases c with
  | true => exact isTrue_and_nil e
  | false => exact e
theorem pw_or1 (ha : PT X a tA) : PW X (.BoolOp .Or [a] pos) tA := by
  intro wh pins s σ H Q I h
  refine isTrue_or (thn (ha pins s σ H Q I h) fun c s1 e => ?_)
  cases c with
  | false => exact isTrue_or_nil e
  | true => exact e
theorem pt_not (ha : PT X a tA) : PT X (.UnaryOp .Not a pos) (tNot tA) := by
  intro pins s σ H Q I h
  exact isTrue_not (ha pins s σ H (fun c H1 => Q (!c) H1) I h)
theorem pe_one {op} {t : TE} (h : PE X a t) : PE X (.BoolOp op [a] pos) t := fun pins s σ H Q I hw => BoolOp_one (h pins s σ H Q I hw)
end
end L2

namespace L2
open PySem PySem.Spec PyProof.Rows

noncomputable def SqL (K : PySem.W.Frag) (H : Hp) (a : Addr) (xs : List V) : Prop :=
  Rd H a (.lst xs) ∨
    ∃ (o : Obj) (its : Array Value) (n : Nat), K.lookup a = some o ∧ o.cls = .type "list" ∧ o.dict = none ∧ o.data = .seq its n ∧ its.size ≤ sizeLine ∧ Vals xs its.toList
noncomputable def SqT (K : PySem.W.Frag) (H : Hp) (a : Addr) (xs : List V) : Prop :=
  Rd H a (.tup xs) ∨
    ∃ (o : Obj) (its : Array Value) (n : Nat), K.lookup a = some o ∧ o.cls = .type "tuple" ∧ o.data = .seq its n ∧ its.size ≤ sizeLine ∧ Vals xs its.toList
noncomputable def absV : Value → Option V
  | .none => some .non
  | .bool b => some (.bl b)
  | .int i _ => some (.int i)
  | .str x _ => some (.str x)
  | .bytes b _ => some (.byt b)
  | .float b _ => some (.flt b)
  | .ref a => some (.ref a)
  | .type n => some (.ty n)
  | _ => none
theorem RelV.abs {x : V} {u : Value} (r : RelV x u) : absV u = some x := by
  cases x with
  | non => cases r; rfl
  | bl _ => cases r; rfl
  | int _ => obtain ⟨t, rfl⟩ := r; rfl
  | str _ => obtain ⟨t, rfl⟩ := r; rfl
  | byt _ => obtain ⟨t, rfl⟩ := r; rfl
  | flt _ => obtain ⟨t, rfl⟩ := r; rfl
  | ref _ => cases r; rfl
  | ty _ => cases r; rfl
theorem RelV.inj {x y : V} {u : Value} (r : RelV x u) (q : RelV y u) : x = y := Option.some.inj (r.abs.symm.trans q.abs)
theorem Vals.inj : ∀ {xs ys : List V} {us : List Value}, Vals xs us → Vals ys us → xs = ys
  | _, _, _, .nil, .nil => rfl
  | _, _, _, .cons r t, .cons r' t' => by rw [r.inj r', Vals.inj t t']
section
variable {X : Cx} {pins : List (Addr × Obj)} {σ : St} {H : Hp} {s : Shared} {a : Addr} {xs ys : List V}
theorem SqL.of {K : PySem.W.Frag} (h : H a = some (.lst xs)) : SqL K H a xs := .inl (.inl h)
theorem SqT.of {K : PySem.W.Frag} (h : H a = some (.tup xs)) : SqT K H a xs := .inl (.inl h)
theorem Inv.list (I : Inv X pins σ H s) (h : SqL X.K H a xs) : ∃ its : List Value, Vals xs its ∧ PlainL s.heap a its.toArray ∧ xs.length ≤ sizeLine := by
  rcases h with h | ⟨o, its, n, hk, hc, hd, hs, hz, r⟩
  · obtain ⟨z, its, n, r, e⟩ := h.ok I.hok
    exact ⟨its, r, ⟨_, n, e, rfl, rfl, rfl⟩, z⟩
  · refine ⟨its.toList, r, ⟨o, n, I.kIn a o hk, hc, hd, by simpa using hs⟩, ?_⟩
    have e := r.length
    simp only [Array.length_toList] at e
    omega
theorem Inv.tuple (I : Inv X pins σ H s) (h : SqT X.K H a xs) : ∃ its : List Value, Vals xs its ∧ IsTup s.heap a its.toArray ∧ xs.length ≤ sizeLine := by
  rcases h with h | ⟨o, its, n, hk, hc, hs, hz, r⟩
  · obtain ⟨z, its, r, p⟩ := h.ok I.hok
    exact ⟨its, r, p, z⟩
  · refine ⟨its.toList, r, ⟨o, I.kIn a o hk, hc, n, by simpa using hs⟩, ?_⟩
    have e := r.length
    simp only [Array.length_toList] at e
    omega
theorem Inv.list_inj (I : Inv X pins σ H s) (h : SqL X.K H a xs) (h' : SqL X.K H a ys) : xs = ys := by
  obtain ⟨its, r, ⟨o, n, e, _, _, d⟩, _⟩ := I.list h
  obtain ⟨its', r', ⟨o', n', e', _, _, d'⟩, _⟩ := I.list h'
  rw [e] at e'; cases e'
  rw [d] at d'
  injection d' with d1 _
  have : its = its' := by simpa using congrArg Array.toList d1
  subst this
  exact r.inj r'
theorem Inv.tuple_inj (I : Inv X pins σ H s) (h : SqT X.K H a xs) (h' : SqT X.K H a ys) : xs = ys := by
  obtain ⟨its, r, ⟨o, e, _, n, d⟩, _⟩ := I.tuple h
  obtain ⟨its', r', ⟨o', e', _, n', d'⟩, _⟩ := I.tuple h'
  rw [e] at e'; cases e'
  rw [d] at d'
  injection d' with d1 _
  have : its = its' := by simpa using congrArg Array.toList d1
  subst this
  exact r.inj r'
end

noncomputable abbrev Cx.wish (X : Cx) (E : Value → Shared → Prop) : Cx := { X with xe := E }
noncomputable abbrev Cx.nox (X : Cx) : Cx := X.wish fun _ _ => False
theorem Cx.Ok.wish {X : Cx} (ok : X.Ok) (E : Value → Shared → Prop) : (X.wish E).Ok :=
  ⟨ok.mod, ok.kind, ok.glob, ok.blt, ok.above, ok.inj, ok.has, ok.cab, ok.hd, ok.frames, ok.stk, ok.exf, ok.bs, ok.bsz, ok.noex, ok.exfs, ok.funs, ok.frf⟩
theorem Cx.Ok.unwish {X : Cx} {E : Value → Shared → Prop} (ok : (X.wish E).Ok) : X.Ok :=
  ⟨ok.mod, ok.kind, ok.glob, ok.blt, ok.above, ok.inj, ok.has, ok.cab, ok.hd, ok.frames, ok.stk, ok.exf, ok.bs, ok.bsz, ok.noex, ok.exfs, ok.funs, ok.frf⟩
section
variable {X : Cx} {pins : List (Addr × Obj)} {σ : St} {H : Hp} {s : Shared} {E : Value → Shared → Prop}
theorem Inv.wish (I : Inv X pins σ H s) (E : Value → Shared → Prop) : Inv (X.wish E) pins σ H s := ⟨I.ok.wish E, I.os, I.bare, I.base, I.loc, I.cell, I.free, I.freeC, I.pin, I.hok, I.len⟩
theorem Inv.unwish (I : Inv (X.wish E) pins σ H s) : Inv X pins σ H s := ⟨I.ok.unwish, I.os, I.bare, I.base, I.loc, I.cell, I.free, I.freeC, I.pin, I.hok, I.len⟩
theorem SP.unwish {D : Ends} {f : Flow} {s' : Shared} (h : SP (X.wish E) pins D f s') : SP X pins D f s' := by
  cases f with
  | next => obtain ⟨σ', H', I, q⟩ := h; exact ⟨σ', H', I.unwish, q⟩
  | brk => obtain ⟨σ', H', I, q⟩ := h; exact ⟨σ', H', I.unwish, q⟩
  | cont => obtain ⟨σ', H', I, q⟩ := h; exact ⟨σ', H', I.unwish, q⟩
  | ret u => obtain ⟨v, σ', H', I, r, q⟩ := h; exact ⟨v, σ', H', I.unwish, r, q⟩
theorem PSs.nox {st : List Stmt} {t : TS} (h : PSs X.nox st t) : PSs X st t := fun pins s σ H D I hw =>
  wpAny_mono (h pins s σ H D (I.wish _) hw) (fun _ _ q => q.unwish) fun _ _ z => False.elim z
end

section
variable {X : Cx} {st : Stmt} {rest : List Stmt} {t u : TS} {e : Expr} {te : TE} {pos : Pos}
noncomputable def tNext : TS := fun D σ H => D.nx σ H
noncomputable def tSeq (t u : TS) : TS := fun D σ H => t { D with nx := u D } σ H
theorem pss_nil : PSs X [] tNext := fun _ _ σ H _ I h => wpAny_execs_nil ⟨σ, H, I, h⟩
theorem pss_cons (h1 : PS X st t) (h2 : PSs X rest u) : PSs X (st :: rest) (tSeq t u) := by
  intro pins s σ H D I h
  refine wpAny_execs_cons (thn (h1 pins s σ H { D with nx := u D } I h) fun f s1 q => ?_)
  cases f with
  | next =>
    obtain ⟨σ', H', I', q⟩ := q
    exact h2 pins s1 σ' H' D I' q
  | ret v => exact q
  | brk => exact q
  | cont => exact q
theorem pss_one (h1 : PS X st t) : PSs X [st] t := by
  intro pins s σ H D I h
  refine wpAny_execs_cons (thn (h1 pins s σ H D I h) fun f s1 q => ?_)
  cases f with
  | next => exact wpAny_execs_nil q
  | ret v => exact q
  | brk => exact q
  | cont => exact q
theorem Inv.quiet {pins : List (Addr × Obj)} {σ : St} {H : Hp} {s : Shared} (I : Inv X pins σ H s) : interactive X.env = false := by simp [interactive, I.ok.kind]
noncomputable def tDrop (te : TE) : TS := fun D σ H => te σ H fun _ H1 => D.nx σ H1
theorem ps_expr (he : PE X e te) (hs : swapsWith e none pos.line X.env = pure false := by rfl) : PS X (.Expr e pos) (tDrop te) := by
  intro pins s σ H D I h
  exact wpAny_Expr_any (thn (he pins s σ H _ I h) fun v s1 ⟨x, H1, I1, r1, q1⟩ => ⟨σ, H1, I1, q1⟩) I.quiet hs
noncomputable def tRet (te : TE) : TS := fun D σ H => te σ H D.rt
theorem ps_ret (he : PE X e te) : PS X (.Return (some e) pos) (tRet te) := by
  intro pins s σ H D I h
  exact wpAny_Return_some (thn (he pins s σ H _ I h) fun v s1 ⟨x, H1, I1, r1, q1⟩ => ⟨x, σ, H1, I1, r1, q1⟩)
noncomputable def tNever : TS := fun _ _ _ => False
theorem ps_never : PS X st tNever := fun _ _ _ _ _ _ h => h.elim
end

noncomputable abbrev TG := V → St → Hp → (St → Hp → Prop) → Prop
noncomputable abbrev TGs := List V → St → Hp → (St → Hp → Prop) → Prop
noncomputable def PG (X : Cx) (target : Expr) (t : TG) : Prop :=
  ∀ (pins : List (Addr × Obj)) (s : Shared) (σ : St) (H : Hp) (v : V) (u : Value) (Q : St → Hp → Prop), Inv X pins σ H s → RelV v u → t v σ H Q →
    wpAny (model X.prog X.w) X.A (assign target X.env u) (fun _ s' => ∃ σ' H', Inv X pins σ' H' s' ∧ Q σ' H') X.xe s
noncomputable def PGs (X : Cx) (ts : List Expr) (t : TGs) : Prop :=
  ∀ (pins : List (Addr × Obj)) (s : Shared) (σ : St) (H : Hp) (vs : List V) (us : List Value) (Q : St → Hp → Prop), Inv X pins σ H s → Vals vs us → t vs σ H Q →
    wpAny (model X.prog X.w) X.A (assignInOrder ((assignEach ts X.env).map (·.2)) us) (fun _ s' => ∃ σ' H', Inv X pins σ' H' s' ∧ Q σ' H') X.xe s
section
variable {X : Cx} {pos : Pos}
noncomputable def gName (i : Nat) : TG := fun v σ H Q => Q (σ.set i (some v)) H
theorem pg_name {i : Nat} {x : Str} (hN : X.N.Nodup) (hi : X.N[i]? = some x) (hx : Loc X.env.scope x) (hf : X.fn x = true ∨ X.env.scope.names.lookup x = some .local := by first | exact .inl rfl | exact .inr rfl | assumption) : PG X (.Name x pos) (gName i) := by
  intro pins s σ H v u Q I r h
  exact wpAny_assign_Name (store_ok I hN hi hx r (fun s' I' => ⟨_, H, I', h⟩) hf)
noncomputable def gNil : TGs := fun vs σ H Q => vs = [] ∧ Q σ H
noncomputable def gCons (t : TG) (u : TGs) : TGs := fun vs σ H Q => ∃ v r, vs = v :: r ∧ t v σ H fun σ' H' => u r σ' H' Q
theorem pgs_nil : PGs X [] gNil := by
  intro pins s σ H vs us Q I r h
  obtain ⟨e, h⟩ := h
  subst e
  cases r
  exact assignInOrder_nil ⟨σ, H, I, h⟩
theorem pgs_cons {e : Expr} {es : List Expr} {t : TG} {u : TGs} (h1 : PG X e t) (h2 : PGs X es u)
    (hs : (assignEach (e :: es) X.env).map (·.2) = assign e X.env :: (assignEach es X.env).map (·.2) := by rfl) : PGs X (e :: es) (gCons t u) := by
  intro pins s σ H vs us Q I r h
  obtain ⟨v, vr, e1, h⟩ := h
  subst e1
  cases r with
  | cons r rr =>
    rw [hs]
    refine assignInOrder_cons (thn (h1 pins s σ H _ _ _ I r h) fun _ s1 ⟨σ1, H1, I1, q1⟩ => ?_)
    exact h2 pins s1 σ1 H1 _ _ Q I1 rr q1
noncomputable def gTup (K : PySem.W.Frag) (n : Nat) (t : TGs) : TG := fun v σ H Q => ∃ a xs, v = .ref a ∧ SqT K H a xs ∧ xs.length = n ∧ t xs σ H Q
theorem pg_tup {es : List Expr} {k : Nat} {t : TGs} {n : Nat} (hc : X.calm = true) (h : PGs X es t)
    (hn : (assignEach es X.env).length = n := by rfl) (hst : (assignEach es X.env).findIdx? (·.1) = none := by rfl) : PG X (.Tuple es k pos) (gTup X.K n t) := by
  intro pins s σ H v u Q I r hw
  obtain ⟨a, xs, e1, hq, hl, hw⟩ := hw
  subst e1
  cases r
  obtain ⟨its, rv, ht, hz⟩ := I.tuple hq
  refine assign_Tuple_tuple (I.ok.hd hc) ht (by simp [hn, ← hl, rv.length]) hst fun h' hx => ?_
  have I1 : Inv X pins σ H { s with heap := h' } := I.kept (t' := s.toks) fun b o e => hx b o (Nat.ne_of_lt (Heap.lt_size e)) e
  exact h pins _ σ H xs _ Q I1 (by simpa using rv) hw
noncomputable def tAsg (te : TE) (g : TG) : TS := fun D σ H => te σ H fun x H1 => g x σ H1 D.nx
theorem ps_set {i : Nat} {x : Str} {e : Expr} {te : TE} {pos' : Pos} (hN : X.N.Nodup) (hi : X.N[i]? = some x) (hx : Loc X.env.scope x) (he : PE X e te) (hs : swapsWith e (some (.Name x pos')) pos.line X.env = pure false := by rfl) (hf : X.fn x = true ∨ X.env.scope.names.lookup x = some .local := by first | exact .inl rfl | exact .inr rfl | assumption) :
    PS X (.Assign [.Name x pos'] e pos) (tAsg te (gName i)) := by
  intro pins s σ H D I h
  refine wpAny_Assign_Name (thn (he pins s σ H _ I h) fun v s1 ⟨y, H1, I1, r1, q1⟩ => ?_) hs
  exact store_ok I1 hN hi hx r1 (fun s2 I2 => ⟨_, H1, I2, q1⟩) hf
noncomputable def tPar (i j : Nat) (ta : TA) : TS := fun D σ H => ta σ H fun vs H1 => ∃ v w, vs = [v, w] ∧ D.nx ((σ.set i (some v)).set j (some w)) H1
theorem ps_par {i j : Nat} {x y : Str} {a b : Expr} {ta : TA} {px py pt : Pos} {kt k2 pt2} (hc : X.calm = true) (hN : X.N.Nodup) (hi : X.N[i]? = some x) (hj : X.N[j]? = some y) (hij : i ≠ j)
    (hx : X.env.scope.names.lookup x = some .local) (hy : X.env.scope.names.lookup y = some .local) (ha : PA X [a, b] ta)
    (hw : swappedStores [.Tuple [.Name x px, .Name y py] kt pt] (.Tuple [a, b] k2 pt2) X.env = pure (some [x, y]))
    (hs : swapsWithSole [.Tuple [.Name x px, .Name y py] kt pt] (.Tuple [a, b] k2 pt2) pos.line X.env = pure false := by rfl) :
    PS X (.Assign [.Tuple [.Name x px, .Name y py] kt pt] (.Tuple [a, b] k2 pt2) pos) (tPar i j ta) := by
  intro pins s σ H D I h
  rw [exec_Assign_arm]
  refine wpAny_bind (wpAny_standAt ?_)
  rw [hs]
  refine wpAny_bind (wpAny_pure ?_)
  rw [if_neg (by decide)]
  refine wpAny_bind (Tuple_ (thn (ha _ pins s σ H _ I h) fun us s1 ⟨vs, H1, I1, r1, q1⟩ => ?_))
  obtain ⟨v, w, e1, q1⟩ := q1
  subst e1
  obtain ⟨u1, u2, rfl, rv, rw'⟩ : ∃ u1 u2, us = [u1, u2] ∧ RelV v u1 ∧ RelV w u2 := by
    cases r1 with
    | cons p q =>
      cases q with
      | cons p' q' =>
        cases q'
        exact ⟨_, _, rfl, p, p'⟩
  refine wpAny_newObj_type ?_ (by show 2 ≤ sizeLine; decide)
  have I2 : Inv X pins σ H1 { s1 with heap := s1.heap.push { cls := .type "tuple", data := .seq [u1, u2].toArray } } := I1.kept (t' := s1.toks) fun b o e => Heap.get?_push_of_some _ e
  rw [hw]
  refine wpAny_bind (wpAny_pure ?_)
  show wpAny (model X.prog X.w) X.A (do rule "assign.swapped-stores"; let items ← unpackItems (.ref s1.heap.objs.size) 2 none; assignInOrder [fun v => bindName X.env y v, fun v => bindName X.env x v] items.reverse; pure Flow.next) _ _ _
  refine wpAny_bind (wpAny_rule (wpAny_bind (unpackItems_tuple (items := #[u1, u2]) (I.ok.hd hc) (IsTup.new s1.heap _) fun h' hx' => ?_)))
  have I3 := I2.kept (h' := h') (t' := s1.toks) fun b o e => hx' b o (Nat.ne_of_lt (Heap.lt_size e)) e
  show wpAny _ _ (assignInOrder [fun v => bindName X.env y v, fun v => bindName X.env x v] [u2, u1] >>= fun _ => pure Flow.next) _ _ _
  refine wpAny_bind (assignInOrder_cons (wpAny_bindName (store_ok I3 hN hj (.inl hy) rw' (fun s2 I4 => ?_) (.inr hy))))
  refine assignInOrder_cons (wpAny_bindName (store_ok I4 hN hi (.inl hx) rv (fun s3 I5 => assignInOrder_nil (wpAny_pure ?_)) (.inr hx)))
  rw [List.set_comm _ _ (Ne.symm hij)] at I5
  exact ⟨_, H1, I5, q1⟩
end

section
variable {X : Cx} {pos : Pos}
end

structure It where
  go : Nat → Hp → Prop
  yld : Nat → Hp → V → Hp → Prop
  stop : Nat → Hp → Prop
noncomputable def FpOk (X : Cx) (pins : List (Addr × Obj)) (H : Hp) (b : Addr) : Prop :=
  H b = none ∧ b ≠ X.env.locals ∧ b ∉ X.fs ∧ (b ∈ X.ex ∨ X.s₀.heap.objs.size ≤ b) ∧ (∀ x c, X.env.cells.lookup x = some c → c ≠ b) ∧ ∀ p ∈ X.pn ++ pins, p.1 ≠ b
theorem Inv.fpOk {X : Cx} {pins : List (Addr × Obj)} {σ : St} {H H' : Hp} {s : Shared} {b : Addr} (I : Inv X pins σ H s) (hb : s.heap.objs.size ≤ b) (hn : H' b = none) : FpOk X pins H' b := by
  refine ⟨hn, Nat.ne_of_gt (Nat.lt_of_lt_of_le I.lt hb), I.nofs hb, .inr (Nat.le_trans I.sz hb), fun x c e z => ?_, fun p hp z => ?_⟩
  · obtain ⟨v, q⟩ := I.cell x c e
    exact absurd (Nat.lt_of_lt_of_le q.lt (by rw [z]; exact hb)) (Nat.lt_irrefl _)
  · exact absurd (Nat.lt_of_lt_of_le (Heap.lt_size (I.pin p hp).1) (by rw [z]; exact hb)) (Nat.lt_irrefl _)
structure Turn (P : Program) (w : World) (K : PySem.W.Frag) (tg : Expr) (J : It) (fp : List Addr) (it : Addr) (tn : Nat → Heap → Prop) : Prop where
  mem : it ∈ fp
  obj : ∀ i h, tn i h → ∀ b ∈ fp, ∃ o, h.get? b = some o ∧ ∀ v, o.data ≠ .cell v
  keep : ∀ i h h', tn i h → (∀ b ∈ fp, ∀ o, h.get? b = some o → h'.get? b = some o) → tn i h'
  item : ∀ (X : Cx), X.prog = P → X.w = w → X.K = K → X.calm = true → ∀ (i : Nat) (pins : List (Addr × Obj)) (s : Shared) (σ : St) (H : Hp) (E : Value → Shared → Prop), Inv X pins σ H s → (∀ b ∈ fp, FpOk X pins H b) → tn i s.heap → J.go i H →
    wpAny (model P w) X.A (pyNext (.ref it)) (fun r s1 => ∃ u, r = some u ∧
      wpAny (model P w) X.A (letOwnedTupleGo tg (.ref it) u) (fun _ s2 => ∃ x H', Inv X pins σ H' s2 ∧ RelV x u ∧ J.yld i H x H' ∧ tn (i + 1) s2.heap ∧ ∀ b ∈ fp, H' b = none) E s1) E s
  done : ∀ (X : Cx), X.prog = P → X.w = w → X.K = K → X.calm = true → ∀ (i : Nat) (pins : List (Addr × Obj)) (s : Shared) (σ : St) (H : Hp) (E : Value → Shared → Prop), Inv X pins σ H s → (∀ b ∈ fp, FpOk X pins H b) → tn i s.heap → J.stop i H →
    wpAny (model P w) X.A (pyNext (.ref it)) (fun r s1 => r = none ∧ Inv X pins σ H s1) E s
  self : ∀ (A : Around) (i : Nat) (s : Shared) (Q : Value → Shared → Prop) (E : Value → Shared → Prop), tn i s.heap → Q (.ref it) s → wpAny (model P w) A (pyIter (.ref it)) Q E s
noncomputable abbrev TI := St → Hp → (It → Hp → Prop) → Prop
noncomputable def PIE (X : Cx) (pins : List (Addr × Obj)) (σ : St) (tg : Expr) (R : It → Hp → Prop) (itv : Value) (s2 : Shared) : Prop :=
  ∃ (it : Addr) (fp : List Addr) (tn : Nat → Heap → Prop) (J : It) (H' : Hp), itv = .ref it ∧ Inv X pins σ H' s2 ∧ Turn X.prog X.w X.K tg J fp it tn ∧ tn 0 s2.heap ∧ (∀ b ∈ fp, FpOk X pins H' b) ∧ R J H'
noncomputable def PI (X : Cx) (tg iter : Expr) (wi : TI) : Prop :=
  ∀ (pins : List (Addr × Obj)) (s : Shared) (σ : St) (H : Hp) (R : It → Hp → Prop), Inv X pins σ H s → wi σ H R →
    wpAny (model X.prog X.w) X.A (eval iter X.env) (fun v s1 => wpAny (model X.prog X.w) X.A (pyIter v) (PIE X pins σ tg R) X.xe s1) X.xe s

theorem go_of {M : Model} {A : Around} {E : Value → Shared → Prop} {s : Shared} {tg : Expr} {it : Addr} {u : Value} {o : Obj} {n : String} {vs : Array Value} {Q : Unit → Shared → Prop} (ho : s.heap.get? it = some o) (hc : o.cls = .type n) (hd : o.data = .fields vs)
    (hn : ["enumerate", "zip", "dict_itemiterator", "dict_reverseitemiterator", "odict_iterator", "itertools.zip_longest", "itertools.pairwise"].contains n = false) (hQ : Q () s) : wpAny M A (letOwnedTupleGo tg (.ref it) u) Q E s := by
  unfold letOwnedTupleGo
  cases tg <;> first
    | exact wpAny_pure hQ
    | (cases u <;> first
        | exact wpAny_pure hQ
        | (refine wpAny_bind (wpAny_load ho ?_)
           rw [hc, hd]
           show wpAny M A (if (["enumerate", "zip", "dict_itemiterator", "dict_reverseitemiterator", "odict_iterator", "itertools.zip_longest", "itertools.pairwise"].contains n && vs[0]? == some (rawInt _)) = true then _ else _) Q E s
           rw [if_neg (by intro h; rw [hn, Bool.false_and] at h; cases h)]
           exact wpAny_pure hQ))

noncomputable def Itl (K : PySem.W.Frag) (a : Addr) : It :=
  ⟨fun i H => ∃ xs x, SqL K H a xs ∧ xs[i]? = some x, fun i H x H' => H' = H ∧ ∀ xs, SqL K H a xs → xs[i]? = some x, fun i H => ∃ xs, SqL K H a xs ∧ xs.length ≤ i⟩
noncomputable def Itt (K : PySem.W.Frag) (a : Addr) : It :=
  ⟨fun i H => ∃ xs x, SqT K H a xs ∧ xs[i]? = some x, fun i H x H' => H' = H ∧ ∀ xs, SqT K H a xs → xs[i]? = some x, fun i H => ∃ xs, SqT K H a xs ∧ xs.length ≤ i⟩
noncomputable def Itr (lo : Int) (n : Nat) : It := ⟨fun i _ => i < n, fun i H x H' => H' = H ∧ x = .int (lo + i), fun i _ => n ≤ i⟩
theorem turn_list {P : Program} {w : World} {K : PySem.W.Frag} {tg : Expr} (a it : Addr) : Turn P w K tg (Itl K a) [it] it (fun i h => h.IsListIter it a i) where
  mem := by simp
  obj := fun i h st b hb => by
    have e : b = it := by simpa using hb
    subst e
    obtain ⟨o, e, c, d⟩ := st
    exact ⟨o, e, fun v z => by rw [d] at z; cases z⟩
  keep := fun i h h' st k => st.at fun o e => k it (by simp) o e
  item := by
    intro X hP hw hK hc i pins s σ H E I hf st hg
    subst hP hw hK
    obtain ⟨xs, x, hq, hx⟩ := hg
    obtain ⟨its, rv, p, hz⟩ := I.list hq
    obtain ⟨u, hu, ru⟩ := rv.get hx
    obtain ⟨f0, f1, f2, f3, f4, f5⟩ := hf it (by simp)
    refine wpAny_pyNext_list_item st p.isList (x := u) (by simpa using hu) fun h' st' sb => ?_
    have I1 : Inv X pins σ H { s with heap := h' } := I.turned (t' := s.toks) (fun b o hb e => (sb.2 b hb).trans e) f0 f1 f3 f4 f5
    obtain ⟨o, e, c, d⟩ := id st'
    exact ⟨u, rfl, go_of (s := { s with heap := h' }) e c d (by decide) ⟨x, H, I1, ru, ⟨rfl, fun ys hy => by rw [I.list_inj hy hq]; exact hx⟩, st', fun b hb => (hf b hb).1⟩⟩
  done := by
    intro X hP hw hK hc i pins s σ H E I hf st hg
    subst hP hw hK
    obtain ⟨xs, hq, hx⟩ := hg
    obtain ⟨its, rv, p, hz⟩ := I.list hq
    obtain ⟨f0, f1, f2, f3, f4, f5⟩ := hf it (by simp)
    have hl := rv.length
    exact wpAny_pyNext_list_end (I.ok.hd hc) st p.isList (by simp; omega) fun h' eb => ⟨rfl, I.turned (t' := s.toks) (fun b o hb e => eb b o hb e) f0 f1 f3 f4 f5⟩
  self := fun _ _ _ _ _ st h => wpAny_pyIter_listiter st h
theorem turn_tuple {P : Program} {w : World} {K : PySem.W.Frag} {tg : Expr} (a it : Addr) : Turn P w K tg (Itt K a) [it] it (fun i h => h.IsTupleIter it a i) where
  mem := by simp
  obj := fun i h st b hb => by
    have e : b = it := by simpa using hb
    subst e
    obtain ⟨o, e, c, d⟩ := st
    exact ⟨o, e, fun v z => by rw [d] at z; cases z⟩
  keep := fun i h h' st k => st.at fun o e => k it (by simp) o e
  item := by
    intro X hP hw hK hc i pins s σ H E I hf st hg
    subst hP hw hK
    obtain ⟨xs, x, hq, hx⟩ := hg
    obtain ⟨its, rv, p, hz⟩ := I.tuple hq
    obtain ⟨u, hu, ru⟩ := rv.get hx
    obtain ⟨f0, f1, f2, f3, f4, f5⟩ := hf it (by simp)
    refine wpAny_pyNext_tuple_item st (show s.heap.IsTuple a its.toArray from p) (x := u) (by simpa using hu) fun h' st' sb => ?_
    have I1 : Inv X pins σ H { s with heap := h' } := I.turned (t' := s.toks) (fun b o hb e => (sb.2 b hb).trans e) f0 f1 f3 f4 f5
    obtain ⟨o, e, c, d⟩ := id st'
    exact ⟨u, rfl, go_of (s := { s with heap := h' }) e c d (by decide) ⟨x, H, I1, ru, ⟨rfl, fun ys hy => by rw [I.tuple_inj hy hq]; exact hx⟩, st', fun b hb => (hf b hb).1⟩⟩
  done := by
    intro X hP hw hK hc i pins s σ H E I hf st hg
    subst hP hw hK
    obtain ⟨xs, hq, hx⟩ := hg
    obtain ⟨its, rv, p, hz⟩ := I.tuple hq
    obtain ⟨f0, f1, f2, f3, f4, f5⟩ := hf it (by simp)
    have hl := rv.length
    exact wpAny_pyNext_tuple_end (I.ok.hd hc) st (show s.heap.IsTuple a its.toArray from p) (by simp; omega) fun h' eb => ⟨rfl, I.turned (t' := s.toks) (fun b o hb e => eb b o hb e) f0 f1 f3 f4 f5⟩
  self := fun _ _ _ _ _ st h => wpAny_pyIter_tupleiter st h
theorem turn_range {P : Program} {w : World} {K : PySem.W.Frag} {tg : Expr} (it : Addr) (lo : Int) (n : Nat) : Turn P w K tg (Itr lo n) [it] it (fun i h => IsRangeIter h it (lo + (i : Nat) * 1) ((n : Int) - (i : Nat)) 1) where
  mem := by simp
  obj := fun i h st b hb => by
    have e : b = it := by simpa using hb
    subst e
    exact ⟨_, st, fun v z => by
      have z' : Data.fields _ = Data.cell v := z
      cases z'⟩
  keep := fun i h h' st k => k it (by simp) _ st
  item := by
    intro X hP hw hK hc i pins s σ H E I hf st hg
    subst hP hw hK
    obtain ⟨f0, f1, f2, f3, f4, f5⟩ := hf it (by simp)
    have W := Walks.range (prog := X.prog) (w := X.w) (I.ok.hd hc) it lo 1 n
    refine W.item i s _ _ hg st fun v h' tk hv st' kk => ?_
    obtain ⟨t, rfl⟩ := hv
    have I1 : Inv X pins σ H { s with heap := h', toks := tk } := I.turned (fun b o hb e => kk b o (by simpa using hb) e) f0 f1 f3 f4 f5
    refine ⟨_, rfl, go_of (s := { s with heap := h', toks := tk }) (n := "range_iterator") st' rfl rfl (by decide) ⟨.int (lo + i), H, I1, ⟨t, ?_⟩, ⟨rfl, rfl⟩, st', fun b hb => (hf b hb).1⟩⟩
    rw [Int.mul_one]
  done := by
    intro X hP hw hK hc i pins s σ H E I hf st hg
    subst hP hw hK
    obtain ⟨f0, f1, f2, f3, f4, f5⟩ := hf it (by simp)
    exact wpAny_pyNext_range_end (I.ok.hd hc) st (by have : n ≤ i := hg; omega) fun h' eb => ⟨rfl, I.turned (t' := s.toks) (fun b o hb e => eb b o hb e) f0 f1 f3 f4 f5⟩
  self := fun _ _ _ _ _ st h => wpAny_pyIter_rangeiter st h
end L2

namespace L2
open PySem PySem.Spec PyProof.Rows
section
variable {X : Cx} {tg : Expr}
theorem range_it {pins : List (Addr × Obj)} {σ : St} {H : Hp} {s : Shared} {R : It → Hp → Prop} {E : Value → Shared → Prop} {lo hi : Int} {t u v : Tok} {tk : Nat} (I : Inv X pins σ H s) (h1 : -(2 ^ 62) ≤ lo) (h2 : lo < 2 ^ 62) (h3 : -(2 ^ 62) ≤ hi) (h4 : hi < 2 ^ 62)
    (q : R (Itr lo (hi - lo).toNat) H) : wpAny (model X.prog X.w) X.A (pyIter (.ref s.heap.objs.size)) (PIE X pins σ tg R) E { s with heap := s.heap.push { cls := .type "range", data := .fields #[.int lo t, .int hi u, .int 1 v] }, toks := tk } := by
  refine wpAny_pyIter_range (IsRange.new ..) (small_one h1 h2 h3 h4) ?_
  have I1 : Inv X pins σ H { s with heap := s.heap.push { cls := .type "range", data := .fields #[.int lo t, .int hi u, .int 1 v] }, toks := tk } := I.kept fun b o e => Heap.get?_push_of_some _ e
  refine ⟨(s.heap.push { cls := .type "range", data := .fields #[.int lo t, .int hi u, .int 1 v] }).objs.size, [(s.heap.push { cls := .type "range", data := .fields #[.int lo t, .int hi u, .int 1 v] }).objs.size], _, _, H, rfl,
    I1.kept (t' := tk) fun b o e => Heap.get?_push_of_some _ e, turn_range _ lo (hi - lo).toNat, ?_, fun b hb => ?_, q⟩
  · have e1 : lo + ((0 : Nat) : Int) * 1 = lo := by simp
    have e2 : (((hi - lo).toNat : Nat) : Int) - ((0 : Nat) : Int) = Builtin.Range.rangeSize lo hi 1 := by rw [rangeSize_one]; split <;> omega
    show IsRangeIter _ _ (lo + ((0 : Nat) : Int) * 1) ((((hi - lo).toNat : Nat) : Int) - ((0 : Nat) : Int)) 1
    rw [e1, e2]
    exact Heap.get?_push_size _ rfl
  · have e : b = (s.heap.push { cls := .type "range", data := .fields #[.int lo t, .int hi u, .int 1 v] }).objs.size := by simpa using hb
    subst e
    exact I1.fpOk (Nat.le_refl _) (I1.hok.fresh (Nat.le_refl _))
noncomputable def iRng1 (ta : TA) : TI := fun σ H R => ta σ H fun vs H1 => ∃ j : Int, vs = [.int j] ∧ -(2 ^ 62) ≤ j ∧ j < 2 ^ 62 ∧ R (Itr 0 j.toNat) H1
noncomputable def iRng2 (ta : TA) : TI := fun σ H R => ta σ H fun vs H1 => ∃ i j : Int, vs = [.int i, .int j] ∧ (-(2 ^ 62) ≤ i ∧ i < 2 ^ 62 ∧ -(2 ^ 62) ≤ j ∧ j < 2 ^ 62) ∧ R (Itr i (j - i).toNat) H1
theorem pi_range1 {a : Expr} {ta : TA} {p pos : Pos} (hg : Gl X "range") (hm : X.mg "range" = none) (ha : PA X [a] ta) (hs : starEach [a] X.env = [(false, eval a X.env)] := by rfl) : PI X tg (.Call (.Name "range" p) [a] [] pos) (iRng1 ta) := by
  intro pins s σ H R I h
  refine Call_ (ld_blt I hg hm boot_range (PyProof.Rows.callWith_type1 (thn (ha pos pins s σ H _ I h) fun us s1 ⟨vs, H1, I1, r1, q1⟩ => ?_) hs rfl))
  obtain ⟨j, e, q1, q2, q⟩ := q1
  subst e
  cases r1 with
  | cons r rr =>
    cases rr
    obtain ⟨t, rfl⟩ := r
    exact call_range_1 (range_it I1 (by omega) (by omega) q1 q2 (by simpa using q))
theorem pi_range2 {a b : Expr} {ta : TA} {p pos : Pos} (hg : Gl X "range") (hm : X.mg "range" = none) (ha : PA X [a, b] ta) (hs : starEach [a, b] X.env = [(false, eval a X.env), (false, eval b X.env)] := by rfl) (hs2 : starEach [b] X.env = [(false, eval b X.env)] := by rfl) :
    PI X tg (.Call (.Name "range" p) [a, b] [] pos) (iRng2 ta) := by
  intro pins s σ H R I h
  refine Call_ (ld_blt I hg hm boot_range (PyProof.Rows.callWith_type1 (thn (ha pos pins s σ H _ I h) fun us s1 ⟨vs, H1, I1, r1, q1⟩ => ?_) (by rw [hs, hs2]) (by rw [hs2]; rfl)))
  obtain ⟨i, j, e, ⟨q1, q2, q3, q4⟩, q⟩ := q1
  subst e
  cases r1 with
  | cons r rr =>
    cases rr with
    | cons r' rr =>
      cases rr
      obtain ⟨t, rfl⟩ := r
      obtain ⟨t', rfl⟩ := r'
      exact call_range_2 (range_it I1 q1 q2 q3 q4 q)

noncomputable def tFor (wi : TI) (g : TG) (tb : TS) : TS := fun D σ H => wi σ H fun J H1 => ∃ W : Nat → Nat → St → Hp → Prop, (∃ m, W 0 m σ H1) ∧ ∀ i m σ H, W i m σ H →
  (J.stop i H ∧ D.nx σ H) ∨ (J.go i H ∧ ∃ N : St → Hp → Prop, (∀ σ' H', N σ' H' → ∃ m', m' < m ∧ W (i + 1) m' σ' H') ∧ ∀ x H', J.yld i H x H' → g x σ H' fun σ2 H2 => tb { D with nx := N, ct := N, bk := D.nx } σ2 H2)
noncomputable def pinsAt (fp : List Addr) (h : Heap) : List (Addr × Obj) := fp.filterMap fun b => (h.get? b).map fun o => (b, o)
theorem mem_pinsAt {fp : List Addr} {h : Heap} {b : Addr} {o : Obj} (hb : b ∈ fp) (e : h.get? b = some o) : (b, o) ∈ pinsAt fp h := List.mem_filterMap.mpr ⟨b, hb, by rw [e]; rfl⟩
theorem of_pinsAt {fp : List Addr} {h : Heap} {p : Addr × Obj} (hp : p ∈ pinsAt fp h) : p.1 ∈ fp ∧ h.get? p.1 = some p.2 := by
  obtain ⟨b, hb, e⟩ := List.mem_filterMap.mp hp
  cases q : h.get? b with
  | none => rw [q] at e; cases e
  | some o =>
    rw [q] at e
    have e' : (b, o) = p := Option.some.inj e
    subst e'
    exact ⟨hb, q⟩
theorem Inv.pinned {pins : List (Addr × Obj)} {σ : St} {H : Hp} {s : Shared} {fp : List Addr} (I : Inv X pins σ H s) (hf : ∀ b ∈ fp, FpOk X pins H b) (ho : ∀ b ∈ fp, ∃ o, s.heap.get? b = some o ∧ ∀ v, o.data ≠ .cell v) : Inv X (pins ++ pinsAt fp s.heap) σ H s :=
  I.pins_of fun p hp => (List.mem_append.mp hp).elim (fun z => I.pin p (List.mem_append_right _ z)) fun z => by
    obtain ⟨hb, e⟩ := of_pinsAt z
    obtain ⟨f0, f1, f2, _⟩ := hf p.1 hb
    obtain ⟨o, e', d⟩ := ho p.1 hb
    rw [e] at e'; cases e'
    exact ⟨e, f0, f1, f2, d⟩
theorem Inv.unpinned {pins pl : List (Addr × Obj)} {σ : St} {H : Hp} {s : Shared} (I : Inv X (pins ++ pl) σ H s) : Inv X pins σ H s := I.pins_of fun p hp => I.pin p (List.mem_append_right _ (List.mem_append_left _ hp))
theorem ps_for {iter : Expr} {body : List Stmt} {wi : TI} {g : TG} {tb : TS} {pos : Pos} (hp : PassesOwn (model X.prog X.w) X.A X.env X.xe) (hc : X.calm = true) (hi : PI X tg iter wi) (hg : PG X tg g) (hb : PSs X body tb)
    (hs : ∀ x, foldedSetIterable iter X.env x = pure x := by intro _; rfl) : PS X (.For tg iter body [] pos) (tFor wi g tb) := by
  intro pins s σ H D I h
  refine wpAny_For (thn (hi pins s σ H _ I h) fun v s1 h1 => thn h1 fun itv s2 h2 => ?_) hs
  obtain ⟨it, fp, tn, J, H2, e, I2, T, st2, f2, W, ⟨m0, w0⟩, turn⟩ := h2
  subst e
  -- what stays true of the iterator's objects through the loop
  have stat : ∀ {H' : Hp}, (∀ b ∈ fp, H' b = none) → ∀ b ∈ fp, FpOk X pins H' b := fun hn b hb => ⟨hn b hb, (f2 b hb).2⟩
  refine codeAny_forLoop_any (fun n s' => ∃ i σ' H', Inv X pins σ' H' s' ∧ tn i s'.heap ∧ (∀ b ∈ fp, H' b = none) ∧ W i n σ' H') ?_ m0 ⟨0, σ, H2, I2, st2, fun b hb => (f2 b hb).1, w0⟩
  rintro n s3 ⟨i, σ3, H3, I3, st3, fr3, w3⟩
  rcases turn i n σ3 H3 w3 with ⟨stop, qn⟩ | ⟨go, N, hN, step⟩
  · refine wpAny_passesOwn hp (thn (T.done X rfl rfl rfl hc i pins s3 σ3 H3 X.xe I3 (stat fr3) st3 stop) fun r s4 ⟨hr, I4⟩ => ?_)
    subst hr
    exact wpAny_execs_nil ⟨σ3, H3, I4, qn⟩
  · refine wpAny_passesOwn hp (thn (T.item X rfl rfl rfl hc i pins s3 σ3 H3 X.xe I3 (stat fr3) st3 go) fun r s4 ⟨u, hr, h4⟩ => ?_)
    subst hr
    refine wpAny_passesOwn hp (thn h4 fun _ s5 ⟨x, H5, I5, r5, y5, st5, fr5⟩ => ?_)
    have I5' := I5.pinned (stat fr5) (T.obj _ _ st5)
    refine wpAny_passesOwn hp (thn (hg _ s5 σ3 H5 x u _ I5' r5 (step x H5 y5)) fun _ s6 ⟨σ6, H6, I6, q6⟩ => ?_)
    refine wpAny_passesOwn hp (thn (hb _ s6 σ6 H6 _ I6 q6) fun f s7 q7 => ?_)
    have again : ∀ {σ7 : St} {H7 : Hp}, Inv X (pins ++ pinsAt fp s5.heap) σ7 H7 s7 → N σ7 H7 → ∃ m, m < n ∧ ∃ i σ' H', Inv X pins σ' H' s7 ∧ tn i s7.heap ∧ (∀ b ∈ fp, H' b = none) ∧ W i m σ' H' := fun {σ7 H7} I7 n7 => by
      obtain ⟨m', hm, w7⟩ := hN σ7 H7 n7
      refine ⟨m', hm, i + 1, σ7, H7, I7.unpinned, T.keep _ _ _ st5 fun b hb o e => (I7.pin (b, o) (List.mem_append_right _ (List.mem_append_right _ (mem_pinsAt hb e)))).1, fun b hb => ?_, w7⟩
      obtain ⟨o, e, d⟩ := T.obj _ _ st5 b hb
      exact (I7.pin (b, o) (List.mem_append_right _ (List.mem_append_right _ (mem_pinsAt hb e)))).2.1
    cases f with
    | next => obtain ⟨σ7, H7, I7, n7⟩ := q7; exact again I7 n7
    | cont => obtain ⟨σ7, H7, I7, n7⟩ := q7; exact again I7 n7
    | brk => obtain ⟨σ7, H7, I7, q7⟩ := q7; exact ⟨σ7, H7, I7.unpinned, q7⟩
    | ret v => obtain ⟨x7, σ7, H7, I7, r7, q7⟩ := q7; exact ⟨x7, σ7, H7, I7.unpinned, r7, q7⟩
end

theorem for_list {K : PySem.W.Frag} {a : Addr} {xs : List V} {g : TG} {tb : TS} {D : Ends} {σ : St} {H : Hp} (Pv : Nat → St → Hp → Prop) (h0 : Pv 0 σ H) (hl : ∀ i σ H, i ≤ xs.length → Pv i σ H → SqL K H a xs)
    (hs : ∀ i x σ H, xs[i]? = some x → Pv i σ H → g x σ H fun σ2 H2 => tb { D with nx := Pv (i + 1), ct := Pv (i + 1), bk := D.nx } σ2 H2) (hd : ∀ σ H, Pv xs.length σ H → D.nx σ H) :
    ∃ W : Nat → Nat → St → Hp → Prop, (∃ m, W 0 m σ H) ∧ ∀ i m σ H, W i m σ H →
      ((Itl K a).stop i H ∧ D.nx σ H) ∨ ((Itl K a).go i H ∧ ∃ N : St → Hp → Prop, (∀ σ' H', N σ' H' → ∃ m', m' < m ∧ W (i + 1) m' σ' H') ∧ ∀ x H', (Itl K a).yld i H x H' → g x σ H' fun σ2 H2 => tb { D with nx := N, ct := N, bk := D.nx } σ2 H2) := by
  refine ⟨fun i m σ H => m = xs.length - i ∧ i ≤ xs.length ∧ Pv i σ H, ⟨xs.length, by simp, Nat.zero_le _, h0⟩, ?_⟩
  rintro i m σ H ⟨rfl, hi, p⟩
  have q := hl i σ H hi p
  by_cases hlt : i < xs.length
  · refine .inr ⟨⟨xs, xs[i], q, by simp [hlt]⟩, Pv (i + 1), fun σ' H' p' => ⟨xs.length - (i + 1), by omega, rfl, hlt, p'⟩, fun x H' y => ?_⟩
    obtain ⟨e, y⟩ := y
    subst e
    exact hs i x σ _ (y xs q) p
  · have e : i = xs.length := by omega
    subst e
    exact .inl ⟨⟨xs, q, Nat.le_refl _⟩, hd σ H p⟩
theorem for_tup {K : PySem.W.Frag} {a : Addr} {xs : List V} {g : TG} {tb : TS} {D : Ends} {σ : St} {H : Hp} (Pv : Nat → St → Hp → Prop) (h0 : Pv 0 σ H) (hl : ∀ i σ H, i ≤ xs.length → Pv i σ H → SqT K H a xs)
    (hs : ∀ i x σ H, xs[i]? = some x → Pv i σ H → g x σ H fun σ2 H2 => tb { D with nx := Pv (i + 1), ct := Pv (i + 1), bk := D.nx } σ2 H2) (hd : ∀ σ H, Pv xs.length σ H → D.nx σ H) :
    ∃ W : Nat → Nat → St → Hp → Prop, (∃ m, W 0 m σ H) ∧ ∀ i m σ H, W i m σ H →
      ((Itt K a).stop i H ∧ D.nx σ H) ∨ ((Itt K a).go i H ∧ ∃ N : St → Hp → Prop, (∀ σ' H', N σ' H' → ∃ m', m' < m ∧ W (i + 1) m' σ' H') ∧ ∀ x H', (Itt K a).yld i H x H' → g x σ H' fun σ2 H2 => tb { D with nx := N, ct := N, bk := D.nx } σ2 H2) := by
  refine ⟨fun i m σ H => m = xs.length - i ∧ i ≤ xs.length ∧ Pv i σ H, ⟨xs.length, by simp, Nat.zero_le _, h0⟩, ?_⟩
  rintro i m σ H ⟨rfl, hi, p⟩
  have q := hl i σ H hi p
  by_cases hlt : i < xs.length
  · refine .inr ⟨⟨xs, xs[i], q, by simp [hlt]⟩, Pv (i + 1), fun σ' H' p' => ⟨xs.length - (i + 1), by omega, rfl, hlt, p'⟩, fun x H' y => ?_⟩
    obtain ⟨e, y⟩ := y
    subst e
    exact hs i x σ _ (y xs q) p
  · have e : i = xs.length := by omega
    subst e
    exact .inl ⟨⟨xs, q, Nat.le_refl _⟩, hd σ H p⟩
theorem for_range {lo : Int} {n : Nat} {g : TG} {tb : TS} {D : Ends} {σ : St} {H : Hp} (Pv : Nat → St → Hp → Prop) (h0 : Pv 0 σ H)
    (hs : ∀ i σ H, i < n → Pv i σ H → g (.int (lo + i)) σ H fun σ2 H2 => tb { D with nx := Pv (i + 1), ct := Pv (i + 1), bk := D.nx } σ2 H2) (hd : ∀ σ H, Pv n σ H → D.nx σ H) :
    ∃ W : Nat → Nat → St → Hp → Prop, (∃ m, W 0 m σ H) ∧ ∀ i m σ H, W i m σ H →
      ((Itr lo n).stop i H ∧ D.nx σ H) ∨ ((Itr lo n).go i H ∧ ∃ N : St → Hp → Prop, (∀ σ' H', N σ' H' → ∃ m', m' < m ∧ W (i + 1) m' σ' H') ∧ ∀ x H', (Itr lo n).yld i H x H' → g x σ H' fun σ2 H2 => tb { D with nx := N, ct := N, bk := D.nx } σ2 H2) := by
  refine ⟨fun i m σ H => m = n - i ∧ i ≤ n ∧ Pv i σ H, ⟨n, by simp, Nat.zero_le _, h0⟩, ?_⟩
  rintro i m σ H ⟨rfl, hi, p⟩
  by_cases hlt : i < n
  · refine .inr ⟨hlt, Pv (i + 1), fun σ' H' p' => ⟨n - (i + 1), by omega, rfl, hlt, p'⟩, fun x H' y => ?_⟩
    obtain ⟨e, y⟩ := y
    subst e y
    exact hs i σ _ hlt p
  · have e : i = n := by omega
    subst e
    exact .inl ⟨Nat.le_refl _, hd σ H p⟩
end L2

namespace L2
open PySem PySem.Spec PyProof.Rows

noncomputable abbrev R2 := V → V → Hp → VK → Prop
noncomputable def OpR (X : Cx) (f : Value → Value → Sem Value) (r : R2) : Prop :=
  ∀ (pins : List (Addr × Obj)) (s : Shared) (σ : St) (H : Hp) (x y : V) (v u : Value) (Q : VK), Inv X pins σ H s → RelV x v → RelV y u → r x y H Q →
    wpAny (model X.prog X.w) X.A (f v u) (EP X pins σ Q) X.xe s
noncomputable def UnR (X : Cx) (f : Value → Sem Value) (r : V → Hp → VK → Prop) : Prop :=
  ∀ (pins : List (Addr × Obj)) (s : Shared) (σ : St) (H : Hp) (x : V) (v : Value) (Q : VK), Inv X pins σ H s → RelV x v → r x H Q →
    wpAny (model X.prog X.w) X.A (f v) (EP X pins σ Q) X.xe s
noncomputable def CallR (X : Cx) (f : Value) (r : List V → Hp → VK → Prop) : Prop :=
  ∀ (pins : List (Addr × Obj)) (s : Shared) (σ : St) (H : Hp) (xs : List V) (us : List Value) (Q : VK), Inv X pins σ H s → Vals xs us → r xs H Q →
    wpAny (model X.prog X.w) X.A (call f us) (EP X pins σ Q) X.xe s
noncomputable def TruR (X : Cx) (r : V → Hp → (Bool → Hp → Prop) → Prop) : Prop :=
  ∀ (pins : List (Addr × Obj)) (s : Shared) (σ : St) (H : Hp) (x : V) (v : Value) (Q : Bool → Hp → Prop), Inv X pins σ H s → RelV x v → r x H Q →
    wpAny (model X.prog X.w) X.A (truthy v) (TP X pins σ Q) X.xe s

noncomputable def tOp (r : R2) (ta tb : TE) : TE := fun σ H Q => ta σ H fun x H1 => tb σ H1 fun y H2 => r x y H2 Q
noncomputable def tUn (r : V → Hp → VK → Prop) (ta : TE) : TE := fun σ H Q => ta σ H fun x H1 => r x H1 Q
noncomputable def rI (C : Int → Int → Prop) (g : Int → Int → V) : R2 := fun x y H Q => ∃ i j, x = .int i ∧ y = .int j ∧ C i j ∧ Q (g i j) H
noncomputable def rI0 (g : Int → Int → V) : R2 := fun x y H Q => ∃ i j, x = .int i ∧ y = .int j ∧ Q (g i j) H
noncomputable def rU (g : Int → V) : V → Hp → VK → Prop := fun x H Q => ∃ i, x = .int i ∧ Q (g i) H

section
variable {X : Cx} {a b c : Expr} {ta tb tc : TE} {pos : Pos}

theorem binT (ha : PE X a ta) (hb : PE X b tb) {pins : List (Addr × Obj)} {s : Shared} {σ : St} {H : Hp} {R : V → V → Hp → Prop} (I : Inv X pins σ H s)
    (h : ta σ H fun x H1 => tb σ H1 fun y H2 => R x y H2) {Q : Value → Shared → Prop} {f : Value → Value → Sem Value}
    (hf : ∀ v u s2 x y H2, Inv X pins σ H2 s2 → RelV x v → RelV y u → R x y H2 → wpAny (model X.prog X.w) X.A (f v u) Q X.xe s2) :
    wpAny (model X.prog X.w) X.A (eval a X.env) (fun v s₁ => wpAny (model X.prog X.w) X.A (eval b X.env) (fun u s₂ => wpAny (model X.prog X.w) X.A (f v u) Q X.xe s₂) X.xe s₁) X.xe s := by
  refine thn (ha pins s σ H _ I h) fun v s1 ⟨x, H1, I1, r1, q1⟩ => ?_
  refine thn (hb pins s1 σ H1 _ I1 q1) fun u s2 ⟨y, H2, I2, r2, q2⟩ => ?_
  exact hf v u s2 x y H2 I2 r1 r2 q2

theorem pe_op {op : Operator} {r : R2} (ho : OpR X (binaryOp op) r) (ha : PE X a ta) (hb : PE X b tb) : PE X (.BinOp a op b pos) (tOp r ta tb) := by
  intro pins s σ H Q I h
  exact wpAny_BinOp (binT ha hb I h fun v u s2 x y H2 I2 rx ry q => ho pins s2 σ H2 x y v u Q I2 rx ry q)
theorem pe_un {op : UnaryOp} {r : V → Hp → VK → Prop} (ho : UnR X (unaryOp op) r) (ha : PE X a ta) : PE X (.UnaryOp op a pos) (tUn r ta) := by
  intro pins s σ H Q I h
  exact UnaryOp_ (thn (ha pins s σ H _ I h) fun v s1 ⟨x, H1, I1, r1, q1⟩ => ho pins s1 σ H1 x v Q I1 r1 q1)
theorem opI {f : Value → Value → Sem Value} {C : Int → Int → Prop} {g : Int → Int → Int}
    (rule : ∀ (i j : Int) (t u : Tok) (s : Shared) (Q : Value → Shared → Prop) (E : Value → Shared → Prop), C i j → Q (.int (g i j) s.toks) { s with toks := s.toks + 1 } → wpAny (model X.prog X.w) X.A (f (.int i t) (.int j u)) Q E s) :
    OpR X f (rI C fun i j => .int (g i j)) := by
  intro pins s σ H x y v u Q I rx ry h
  obtain ⟨i, j, rfl, rfl, hc, q⟩ := h
  obtain ⟨t, rfl⟩ := rx
  obtain ⟨t', rfl⟩ := ry
  exact rule i j t t' s _ _ hc ⟨.int (g i j), H, I.tok _, ⟨_, rfl⟩, q⟩
theorem opI0 {f : Value → Value → Sem Value} {g : Int → Int → Int}
    (rule : ∀ (i j : Int) (t u : Tok) (s : Shared) (Q : Value → Shared → Prop) (E : Value → Shared → Prop), Q (.int (g i j) s.toks) { s with toks := s.toks + 1 } → wpAny (model X.prog X.w) X.A (f (.int i t) (.int j u)) Q E s) :
    OpR X f (rI0 fun i j => .int (g i j)) := by
  intro pins s σ H x y v u Q I rx ry h
  obtain ⟨i, j, rfl, rfl, q⟩ := h
  obtain ⟨t, rfl⟩ := rx
  obtain ⟨t', rfl⟩ := ry
  exact rule i j t t' s _ _ ⟨.int (g i j), H, I.tok _, ⟨_, rfl⟩, q⟩
theorem opB0 {f : Value → Value → Sem Value} {g : Int → Int → Bool}
    (rule : ∀ (i j : Int) (t u : Tok) (s : Shared) (Q : Value → Shared → Prop) (E : Value → Shared → Prop), Q (.bool (g i j)) s → wpAny (model X.prog X.w) X.A (f (.int i t) (.int j u)) Q E s) :
    OpR X f (rI0 fun i j => .bl (g i j)) := by
  intro pins s σ H x y v u Q I rx ry h
  obtain ⟨i, j, rfl, rfl, q⟩ := h
  obtain ⟨t, rfl⟩ := rx
  obtain ⟨t', rfl⟩ := ry
  exact rule i j t t' s _ _ ⟨.bl (g i j), H, I, rfl, q⟩

noncomputable def CPow (i j : Int) : Prop := 0 ≤ j ∧ j ≤ 1000000 ∧ i.natAbs < 2 ^ 64
theorem two_pow_nn (k : Nat) : (0 : Int) ≤ 2 ^ k := by
  rw [two_pow_cast]
  exact Int.natCast_nonneg _

theorem op_add : OpR X (binaryOp .Add) (rI0 fun i j => .int (i + j)) := opI0 fun _ _ _ _ _ _ _ q => add_int q
theorem op_sub : OpR X (binaryOp .Sub) (rI0 fun i j => .int (i - j)) := opI0 fun _ _ _ _ _ _ _ q => sub_int q
theorem op_mod : OpR X (binaryOp .Mod) (rI (fun _ j => 0 < j) fun i j => .int (i % j)) := opI fun i j _ _ _ _ _ hc q => by
  have h1 : (0 : Int) < j := hc
  exact mod_int' (by omega) (by rw [Int.fmod_eq_emod_of_nonneg i (by omega)]; exact q)
theorem op_pow : OpR X (binaryOp .Pow) (rI CPow fun i j => .int (i ^ j.toNat)) := opI fun _ _ _ _ _ _ _ hc q => pow_int_small hc.1 hc.2.1 hc.2.2 q
theorem op_shl : OpR X (binaryOp .LShift) (rI CPow fun i j => .int (i * 2 ^ j.toNat)) := opI fun _ _ _ _ _ _ _ hc q => lshift_int_small hc.1 hc.2.1 hc.2.2 q
theorem op_shr : OpR X (binaryOp .RShift) (rI (fun _ j => 0 ≤ j) fun i j => .int (i / 2 ^ j.toNat)) := opI fun i j _ _ _ _ _ hc q =>
  rshift_int hc (by rw [Int.fdiv_eq_ediv_of_nonneg i (two_pow_nn _)]; exact q)
theorem op_and : OpR X (binaryOp .BitAnd) (rI0 fun i j => .int (Builtin.bitAnd i j)) := opI0 fun _ _ _ _ _ _ _ q => and_int q
theorem op_xor : OpR X (binaryOp .BitXor) (rI0 fun i j => .int (Builtin.bitXor i j)) := opI0 fun _ _ _ _ _ _ _ q => xor_int q

theorem unI {f : Value → Sem Value} {g : Int → Int}
    (rule : ∀ (i : Int) (t : Tok) (s : Shared) (Q : Value → Shared → Prop) (E : Value → Shared → Prop), Q (.int (g i) s.toks) { s with toks := s.toks + 1 } → wpAny (model X.prog X.w) X.A (f (.int i t)) Q E s) :
    UnR X f (rU fun i => .int (g i)) := by
  intro pins s σ H x v Q I rx h
  obtain ⟨i, rfl, q⟩ := h
  obtain ⟨t, rfl⟩ := rx
  exact rule i t s _ _ ⟨.int (g i), H, I.tok _, ⟨_, rfl⟩, q⟩
theorem un_neg : UnR X (unaryOp .USub) (rU fun i => .int (-i)) := unI fun _ _ _ _ _ q => neg_int q
end

noncomputable def scal : V → V → Bool
  | .non, .non => true | .non, .int _ => true | .int _, .non => true | .non, .bl _ => true | .bl _, .non => true | .non, .str _ => true | .str _, .non => true
  | .int _, .int _ => true | .bl _, .bl _ => true | .str _, .str _ => true | .byt _, .byt _ => true
  | .int _, .str _ => true | .str _, .int _ => true | .bl _, .str _ => true | .str _, .bl _ => true
  | _, _ => false
noncomputable def rEq : R2 := fun x y H Q => scal x y = true ∧ Q (.bl (decide (x = y))) H
noncomputable def rNe : R2 := fun x y H Q => scal x y = true ∧ Q (.bl (!decide (x = y))) H

theorem dec_int {i j : Int} : decide (V.int i = V.int j) = (i == j) := by
  rw [Bool.eq_iff_iff]
  simp
theorem dec_bl {i j : Bool} : decide (V.bl i = V.bl j) = (i == j) := by
  rw [Bool.eq_iff_iff]
  simp
theorem dec_str {i j : Str} : decide (V.str i = V.str j) = (i == j) := by
  rw [Bool.eq_iff_iff]
  simp
theorem dec_byt {i j : Array UInt8} : decide (V.byt i = V.byt j) = (i.toList == j.toList) := by
  rw [Bool.eq_iff_iff]
  cases i
  cases j
  simp

section
variable {X : Cx} {a b c : Expr} {ta tb tc : TE} {pos : Pos}
theorem fin_bl {pins : List (Addr × Obj)} {σ : St} {H : Hp} {s : Shared} {Q : VK} {k k' : Bool} (I : Inv X pins σ H s) (q : Q (.bl k) H) (e : k = k') : EP X pins σ Q (.bool k') s := by
  subst e
  exact ⟨.bl k, H, I, rfl, q⟩
theorem op_eq : OpR X (compareOp .Eq) rEq := by
  intro pins s σ H x y v u Q I rx ry h
  obtain ⟨hs, q⟩ := h
  cases x with
  | non =>
    cases rx
    cases y with
    | non => cases ry; exact PySem.EqNone.eq_none_none (fin_bl I q (by simp))
    | bl j => cases ry; exact PySem.EqNone.eq_none_bool (fin_bl I q (by simp))
    | int j => obtain ⟨t', rfl⟩ := ry; exact PySem.EqNone.eq_none_int (fin_bl I q (by simp))
    | str j => obtain ⟨t', rfl⟩ := ry; exact PySem.EqNone.eq_none_str (fin_bl I q (by simp))
    | _ => exact absurd (show false = true from hs) Bool.false_ne_true
  | bl i =>
    cases rx
    cases y with
    | non => cases ry; exact PySem.EqNone.eq_bool_none (fin_bl I q (by simp))
    | bl j => cases ry; exact eq_bool (fin_bl I q dec_bl)
    | str j => obtain ⟨t', rfl⟩ := ry; exact PySem.EqMixed.eq_bool_str (fin_bl I q (by simp))
    | _ => exact absurd (show false = true from hs) Bool.false_ne_true
  | int i =>
    obtain ⟨t, rfl⟩ := rx
    cases y with
    | non => cases ry; exact PySem.EqNone.eq_int_none (fin_bl I q (by simp))
    | int j => obtain ⟨t', rfl⟩ := ry; exact eq_int (fin_bl I q dec_int)
    | str j => obtain ⟨t', rfl⟩ := ry; exact PySem.EqMixed.eq_int_str (fin_bl I q (by simp))
    | _ => exact absurd (show false = true from hs) Bool.false_ne_true
  | str i =>
    obtain ⟨t, rfl⟩ := rx
    cases y with
    | non => cases ry; exact PySem.EqNone.eq_str_none (fin_bl I q (by simp))
    | bl j => cases ry; exact PySem.EqMixed.eq_str_bool (fin_bl I q (by simp))
    | int j => obtain ⟨t', rfl⟩ := ry; exact PySem.EqMixed.eq_str_int (fin_bl I q (by simp))
    | str j => obtain ⟨t', rfl⟩ := ry; exact eq_str (fin_bl I q dec_str)
    | _ => exact absurd (show false = true from hs) Bool.false_ne_true
  | byt i =>
    obtain ⟨t, rfl⟩ := rx
    cases y with
    | byt j => obtain ⟨t', rfl⟩ := ry; exact PySem.W.eq_bytes (fin_bl I q dec_byt)
    | _ => exact absurd (show false = true from hs) Bool.false_ne_true
  | _ => cases y <;> exact absurd (show false = true from hs) Bool.false_ne_true
theorem op_ne : OpR X (compareOp .NotEq) rNe := by
  intro pins s σ H x y v u Q I rx ry h
  obtain ⟨hs, q⟩ := h
  cases x with
  | non =>
    cases rx
    cases y with
    | non => cases ry; exact PySem.EqNone.ne_none_none (fin_bl I q (by simp))
    | bl j => cases ry; exact PySem.EqNone.ne_none_bool (fin_bl I q (by simp))
    | int j => obtain ⟨t', rfl⟩ := ry; exact PySem.EqNone.ne_none_int (fin_bl I q (by simp))
    | str j => obtain ⟨t', rfl⟩ := ry; exact PySem.EqNone.ne_none_str (fin_bl I q (by simp))
    | _ => exact absurd (show false = true from hs) Bool.false_ne_true
  | bl i =>
    cases rx
    cases y with
    | non => cases ry; exact PySem.EqNone.ne_bool_none (fin_bl I q (by simp))
    | bl j => cases ry; exact ne_bool (fin_bl I q (congrArg not dec_bl))
    | str j => obtain ⟨t', rfl⟩ := ry; exact PySem.EqMixed.ne_bool_str (fin_bl I q (by simp))
    | _ => exact absurd (show false = true from hs) Bool.false_ne_true
  | int i =>
    obtain ⟨t, rfl⟩ := rx
    cases y with
    | non => cases ry; exact PySem.EqNone.ne_int_none (fin_bl I q (by simp))
    | int j => obtain ⟨t', rfl⟩ := ry; exact ne_int (fin_bl I q (congrArg not dec_int))
    | str j => obtain ⟨t', rfl⟩ := ry; exact PySem.EqMixed.ne_int_str (fin_bl I q (by simp))
    | _ => exact absurd (show false = true from hs) Bool.false_ne_true
  | str i =>
    obtain ⟨t, rfl⟩ := rx
    cases y with
    | non => cases ry; exact PySem.EqNone.ne_str_none (fin_bl I q (by simp))
    | bl j => cases ry; exact PySem.EqMixed.ne_str_bool (fin_bl I q (by simp))
    | int j => obtain ⟨t', rfl⟩ := ry; exact PySem.EqMixed.ne_str_int (fin_bl I q (by simp))
    | str j => obtain ⟨t', rfl⟩ := ry; exact ne_str (fin_bl I q (congrArg not dec_str))
    | _ => exact absurd (show false = true from hs) Bool.false_ne_true
  | byt i =>
    obtain ⟨t, rfl⟩ := rx
    cases y with
    | byt j => obtain ⟨t', rfl⟩ := ry; exact PySem.W.ne_bytes (fin_bl I q (congrArg not dec_byt))
    | _ => exact absurd (show false = true from hs) Bool.false_ne_true
  | _ => cases y <;> exact absurd (show false = true from hs) Bool.false_ne_true

theorem op_lt : OpR X (compareOp .Lt) (rI0 fun i j => .bl (decide (i < j))) := opB0 fun _ _ _ _ _ _ _ q => lt_int q
theorem op_le : OpR X (compareOp .LtE) (rI0 fun i j => .bl (decide (i ≤ j))) := opB0 fun _ _ _ _ _ _ _ q => le_int q
theorem op_in_str : OpR X (compareOp .In) (fun x y H Q => ∃ i j, x = .str i ∧ y = .str j ∧ Q (.bl (!(Builtin.Str.occurrences j i 0 j.length 1).isEmpty)) H) := by
  intro pins s σ H x y v u Q I rx ry h
  obtain ⟨i, j, rfl, rfl, q⟩ := h
  obtain ⟨t, rfl⟩ := rx
  obtain ⟨t', rfl⟩ := ry
  exact in_str (fin_bl I q rfl)

theorem op_isN : OpR X (compareOp .Is) (fun x y H Q => y = .non ∧ Q (.bl (decide (x = .non))) H) := by
  intro pins s σ H x y v u Q I rx ry h
  obtain ⟨rfl, q⟩ := h
  cases ry
  refine is_none_gen (fin_bl I q ?_)
  cases x <;> first
    | (cases rx; rfl)
    | (obtain ⟨t, rfl⟩ := rx; rfl)
theorem OpR.or {f : Value → Value → Sem Value} {r r' : R2} (h : OpR X f r) (h' : OpR X f r') : OpR X f (fun x y H Q => r x y H Q ∨ r' x y H Q) := by
  intro pins s σ H x y v u Q I rx ry q
  rcases q with q | q
  · exact h pins s σ H x y v u Q I rx ry q
  · exact h' pins s σ H x y v u Q I rx ry q

theorem nomark (b : Expr) {op : CmpOp} (h : op ≠ .In := by decide) (h2 : op ≠ .NotIn := by decide) : behindInMarks op b = false := by
  have e1 : (op == CmpOp.In) = false := by cases op <;> first | rfl | exact absurd rfl h
  have e2 : (op == CmpOp.NotIn) = false := by cases op <;> first | rfl | exact absurd rfl h2
  cases b <;> simp [behindInMarks, e1, e2]
theorem pe_cmpR {op : CmpOp} {r : R2} (ho : OpR X (compareOp op) r) (ha : PE X a ta) (hb : PE X b tb) (hm : behindInMarks op b = false) : PE X (.Compare a [op] [b] pos) (tOp r ta tb) := by
  intro pins s σ H Q I h
  exact wpAny_Compare1 (binT ha hb I h fun v u s2 x y H2 I2 rx ry q => ho pins s2 σ H2 x y v u Q I2 rx ry q) hm
noncomputable def TruV (K : PySem.W.Frag) (x : V) (H : Hp) (k : Bool) : Prop :=
  match x with
  | .non => k = false
  | .bl b => k = b
  | .int i => k = (i != 0)
  | .str y => y.length ≤ sizeLine ∧ k = ((y.length : Int) != 0)
  | .byt y => y.size ≤ sizeLine ∧ k = ((y.size : Int) != 0)
  | .ref p => (∃ xs, SqL K H p xs ∧ k = !xs.isEmpty) ∨ (∃ xs, SqT K H p xs ∧ k = !xs.isEmpty) ∨ ∃ kvs, H p = some (.dK kvs) ∧ k = !kvs.isEmpty
  | _ => False
theorem isEmpty_kv {κ : Type} {kvs : List (κ × V)} {vs : List (κ × Value)} (r : KV kvs vs) : (!vs.isEmpty) = !kvs.isEmpty := by
  cases r <;> rfl
theorem isEmpty_of {xs : List V} {its : List Value} (r : Vals xs its) : (!its.toArray.isEmpty) = !xs.isEmpty := by
  cases r <;> simp
theorem line63 : (sizeLine : Nat) < 2 ^ 63 := by rw [sizeLine_eq]; decide
theorem tru_ok : TruR X (fun x H Q => ∃ k, TruV X.K x H k ∧ Q k H) := by
  intro pins s σ H x v Q I rx h
  obtain ⟨k, e, q⟩ := h
  have hl := line63
  have hs : sizeLine = 16777216 := sizeLine_eq
  cases x with
  | non =>
    cases rx
    have e' : k = false := e
    subst e'
    exact truthy_none ⟨H, I, q⟩
  | bl b =>
    cases rx
    have e' : k = b := e
    subst e'
    exact wpAny_truthy_bool ⟨H, I, q⟩
  | int i =>
    obtain ⟨t, rfl⟩ := rx
    have e' : k = (i != 0) := e
    subst e'
    exact PySem.P.truthy_int ⟨H, I, q⟩
  | str y =>
    obtain ⟨t, rfl⟩ := rx
    obtain ⟨hy, e'⟩ : y.length ≤ sizeLine ∧ k = ((y.length : Int) != 0) := e
    subst e'
    exact PySem.P.truthy_str (by omega) ⟨H, I.tok _, q⟩
  | byt y =>
    obtain ⟨t, rfl⟩ := rx
    obtain ⟨hy, e'⟩ : y.size ≤ sizeLine ∧ k = ((y.size : Int) != 0) := e
    subst e'
    exact PySem.W.truthy_bytes (by omega) ⟨H, I.tok _, q⟩
  | ref p =>
    cases rx
    have e' : (∃ xs, SqL X.K H p xs ∧ k = !xs.isEmpty) ∨ (∃ xs, SqT X.K H p xs ∧ k = !xs.isEmpty) ∨ ∃ kvs, H p = some (.dK kvs) ∧ k = !kvs.isEmpty := e
    rcases e' with ⟨xs, hx, e'⟩ | ⟨xs, hx, e'⟩ | ⟨kvs, hx, e'⟩
    · subst e'
      obtain ⟨its, r, pl, hz⟩ := I.list hx
      have hlen := r.length
      exact wpAny_truthy_list pl.isList (by simp only [List.size_toArray]; omega) ⟨H, I.tok _, by rw [isEmpty_of r]; exact q⟩
    · subst e'
      obtain ⟨its, r, pl, hz⟩ := I.tuple hx
      have hlen := r.length
      exact truthy_tuple pl (by simp only [List.size_toArray]; omega) ⟨H, I.tok _, by rw [isEmpty_of r]; exact q⟩
    · subst e'
      obtain ⟨hz, hS, vs, r, m⟩ : kvs.length ≤ sizeLine ∧ (p == sysModules) = false ∧ ∃ vs, KV kvs vs ∧ s.heap.DictOf (mixKind X.prog X.w) p vs := I.hok p _ hx
      have hlen : kvs.length = vs.length := Paired.length r
      exact wpAny_truthy_dict hS m (by omega) ⟨H, I.tok _, by rw [isEmpty_kv r]; exact q⟩
  | _ => exact (show False from e).elim
theorem op_add_str : OpR X (binaryOp .Add) (fun x y H Q => ∃ i j, x = .str i ∧ y = .str j ∧ i.length + j.length ≤ sizeLine ∧ Q (.str (i ++ j)) H) := by
  intro pins s σ H x y v u Q I rx ry h
  obtain ⟨i, j, rfl, rfl, hz, q⟩ := h
  obtain ⟨t, rfl⟩ := rx
  obtain ⟨t', rfl⟩ := ry
  exact add_str (fun t' tk => ⟨.str (i ++ j), H, I.tok _, ⟨_, rfl⟩, q⟩) hz
theorem vals1 {x : V} {us : List Value} (r : Vals [x] us) : ∃ u, us = [u] ∧ RelV x u := by
  cases r with
  | cons r1 r2 => cases r2; exact ⟨_, rfl, r1⟩
theorem vals2 {x y : V} {us : List Value} (r : Vals [x, y] us) : ∃ u w', us = [u, w'] ∧ RelV x u ∧ RelV y w' := by
  cases r with
  | cons r1 r2 =>
    cases r2 with
    | cons r3 r4 => cases r4; exact ⟨_, _, rfl, r1, r3⟩
theorem call_max2 (hc : X.calm = true) : CallR X (.builtin "max") (fun xs H Q => ∃ i j, xs = [.int i, .int j] ∧ Q (.int (if j > i then j else i)) H) := by
  intro pins s σ H xs us Q I r h
  obtain ⟨i, j, rfl, q⟩ := h
  obtain ⟨u, w', rfl, ⟨t, rfl⟩, ⟨t', rfl⟩⟩ := vals2 r
  refine max_two_ints (I.ok.hd hc) fun h' tk k => ⟨_, H, I.kept k, ?_, q⟩
  by_cases hj : j > i
  · rw [if_pos hj, if_pos hj]; exact ⟨_, rfl⟩
  · rw [if_neg hj, if_neg hj]; exact ⟨_, rfl⟩
theorem call_min2 (hc : X.calm = true) : CallR X (.builtin "min") (fun xs H Q => ∃ i j, xs = [.int i, .int j] ∧ Q (.int (if j < i then j else i)) H) := by
  intro pins s σ H xs us Q I r h
  obtain ⟨i, j, rfl, q⟩ := h
  obtain ⟨u, w', rfl, ⟨t, rfl⟩, ⟨t', rfl⟩⟩ := vals2 r
  refine min_two_ints (I.ok.hd hc) fun h' tk k => ⟨_, H, I.kept k, ?_, q⟩
  by_cases hj : j < i
  · rw [if_pos hj, if_pos hj]; exact ⟨_, rfl⟩
  · rw [if_neg hj, if_neg hj]; exact ⟨_, rfl⟩
theorem call_str_int : CallR X (.type "str") (fun xs H Q => ∃ i, xs = [.int i] ∧ i.natAbs.log2 < 1920 ∧ Q (.str (toString i)) H) := by
  intro pins s σ H xs us Q I r h
  obtain ⟨i, rfl, hz, q⟩ := h
  obtain ⟨u, rfl, t, rfl⟩ := vals1 r
  exact PySem.P.str_of_int hz ⟨.str _, H, I.tok _, ⟨_, rfl⟩, q⟩
noncomputable def LenV (K : PySem.W.Frag) (x : V) (H : Hp) (n : Nat) : Prop :=
  match x with
  | .str y => y.length ≤ sizeLine ∧ n = y.length
  | .byt y => y.size ≤ sizeLine ∧ n = y.size
  | .ref p => (∃ xs, SqL K H p xs ∧ n = xs.length) ∨ ∃ xs, SqT K H p xs ∧ n = xs.length
  | _ => False
theorem call_len : CallR X (.builtin "len") (fun xs H Q => ∃ x n, xs = [x] ∧ LenV X.K x H n ∧ Q (.int n) H) := by
  intro pins s σ H xs us Q I r h
  obtain ⟨x, n, rfl, e, q⟩ := h
  obtain ⟨u, rfl, rx⟩ := vals1 r
  have hl := line63
  have hs : sizeLine = 16777216 := sizeLine_eq
  cases x with
  | str y =>
    obtain ⟨t, rfl⟩ := rx
    obtain ⟨hy, e'⟩ : y.length ≤ sizeLine ∧ n = y.length := e
    subst e'
    exact len_str (by omega) ⟨.int _, H, I.tok _, ⟨_, rfl⟩, q⟩
  | byt y =>
    obtain ⟨t, rfl⟩ := rx
    obtain ⟨hy, e'⟩ : y.size ≤ sizeLine ∧ n = y.size := e
    subst e'
    exact PySem.W.len_bytes (by omega) ⟨.int _, H, I.tok _, ⟨_, rfl⟩, q⟩
  | ref p =>
    cases rx
    have e' : (∃ xs, SqL X.K H p xs ∧ n = xs.length) ∨ ∃ xs, SqT X.K H p xs ∧ n = xs.length := e
    rcases e' with ⟨xs, hx, e'⟩ | ⟨xs, hx, e'⟩
    · subst e'
      obtain ⟨its, r', pl, hz⟩ := I.list hx
      have hlen := r'.length
      exact Calls.call_len_list pl.isList (by simp only [List.size_toArray]; omega) ⟨.int xs.length, H, I.tok _, ⟨_, by simp only [List.size_toArray]; rw [hlen]⟩, q⟩
    · subst e'
      obtain ⟨its, r', pl, hz⟩ := I.tuple hx
      have hlen := r'.length
      exact len_tuple pl (by simp only [List.size_toArray]; omega) ⟨.int xs.length, H, I.tok _, ⟨_, by simp only [List.size_toArray]; rw [hlen]⟩, q⟩
  | _ => exact (show False from e).elim
end
end L2

namespace L2
open PySem PySem.Spec PyProof.Rows

structure ObjM (h : Heap) (x dx C : Addr) (mA : Str → Option Value) : Prop where
  obj : h.get? x = some (PySem.W.instObj C dx)
  ns : h.Ns1 dx mA
  ne : dx ≠ x

theorem lookIn_ns {h : Heap} {dx : Addr} {mA : Str → Option Value} (n : h.Ns1 dx mA) : ∃ od, h.get? dx = some od ∧ ∀ name, PySem.W.lookIn name od = some (mA name) := by
  obtain ⟨o, es, ep, ho, hd, hk, _, hm⟩ := n
  refine ⟨o, ho, fun name => ?_⟩
  have e := hm name
  unfold nsFind findBy at e
  rw [← Array.find?_toList] at e
  unfold PySem.W.lookIn
  rw [hd]
  dsimp only
  split
  · rename_i y q
    rw [q] at e
    exact congrArg some e
  · rename_i q
    rw [q] at e
    have a : es.toList.any (·.refKey) = false := by
      rw [List.any_eq_false]
      intro y hy
      obtain ⟨z, t, hkey⟩ := hk y (Array.mem_toList_iff.mp hy)
      simp [DictEntry.refKey, hkey]
    have a' : ¬ es.toList.any (·.refKey) = true := by rw [a]; exact Bool.false_ne_true
    rw [if_neg a']
    exact congrArg some e

theorem ObjM.look {h : Heap} {x dx C : Addr} {mA : Str → Option Value} (I : ObjM h x dx C mA) : ∃ od, PySem.W.InstAt h x (PySem.W.instObj C dx) C (some od) ∧ ∀ name, PySem.W.lookIn name od = some (mA name) :=
  let ⟨od, ho, hl⟩ := lookIn_ns I.ns
  ⟨od, ⟨I.obj, rfl, rfl, ho⟩, hl⟩

section
variable {prog : Program} {w : World} {A : Around} {E : Value → Shared → Prop} {s : Shared} {K : PySem.W.Frag} {x dx C f : Addr} {mA : Str → Option Value} {name : Str} {v : Value}

end

theorem RelO.some_of {v : V} {o : Option Value} (r : RelO (some v) o) : ∃ u, o = some u ∧ RelV v u := by
  cases o with
  | none => exact (show False from r).elim
  | some u => exact ⟨u, rfl, r⟩
theorem RelO.none_of {o : Option Value} (r : RelO none o) : o = none := by
  cases o with
  | none => rfl
  | some u => exact (show False from r).elim
section
variable {P : Program} {w : World} {H H' : Hp} {h h' : Heap} {a C dx : Addr} {fs fs' : List (Str × V)}
theorem ins_get (hok : HOk P w H h) (e : H a = some (.ins C dx fs)) : ∃ mA, ObjM h a dx C mA ∧ (∀ f, RelO (fs.lookup f) (mA f)) ∧ PySem.Within mA (fs.map (·.1)) ∧ fs.length ≤ 1000 ∧ H dx = some (.own a) := by
  obtain ⟨d, z, ne, ob, mA, n, r, q⟩ := (show ObjOk P w H h a (.ins C dx fs) from hok a _ e)
  exact ⟨mA, ⟨ob, n, ne⟩, r, q, z, d⟩
end

structure Cls (K : PySem.W.Frag) (C : Addr) : Prop where
  pg : PySem.W.plainGet K C Str.empty = true
  hd : PySem.W.hasDictIn K C = true
  po : PySem.W.plainOver K C = true
  sa : PySem.W.findIn K (.ref C) "__setattr__" = some (some (.builtin "object.__setattr__"))
theorem Cls.get {K : PySem.W.Frag} {C : Addr} (c : Cls K C) (f : Str) : PySem.W.plainGet K C f = true := c.pg
section
variable {X : Cx} {pins : List (Addr × Obj)} {σ : St} {H : Hp} {s : Shared} {a C dx : Addr} {fs : List (Str × V)} {f : Str} {v : V} {A : Around} {E : Value → Shared → Prop}

end

section
variable {X : Cx} {o e value : Expr} {f : Str} {pos pos' tpos : Pos} {ta tv : TE}
end

section
variable {X : Cx} {pins : List (Addr × Obj)} {σ : St} {H : Hp} {s : Shared} {A : Around} {E : Value → Shared → Prop} {Q : Value → Shared → Prop} {c : Value} {b : Bool}
inductive TyOf (K : PySem.W.Frag) (H : Hp) : V → Value → Prop where
  | non : TyOf K H .non (.type "NoneType")
  | bl (x : Bool) : TyOf K H (.bl x) (.type "bool")
  | int (i : Int) : TyOf K H (.int i) (.type "int")
  | str (x : Str) : TyOf K H (.str x) (.type "str")
  | flt (x : UInt64) : TyOf K H (.flt x) (.type "float")
  | lst {a : Addr} {xs : List V} (e : H a = some (.lst xs)) : TyOf K H (.ref a) (.type "list")
  | frz {a : Addr} {o : Obj} {xs : List V} (e : H a = some (.frz o (.lst xs))) : TyOf K H (.ref a) (.type "list")
  | tup {a : Addr} {xs : List V} (e : H a = some (.tup xs)) : TyOf K H (.ref a) (.type "tuple")
  | dK {a : Addr} {kvs : List (Key × V)} (e : H a = some (.dK kvs)) : TyOf K H (.ref a) (.type "dict")
  | dT {a : Addr} {kvs : List (List Key × V)} (e : H a = some (.dT kvs)) : TyOf K H (.ref a) (.type "dict")
  | ins {a C dx : Addr} {fs : List (Str × V)} (e : H a = some (.ins C dx fs)) (cl : Cls K C) (ha : PySem.W.findIn K (.ref C) "__class__" = some (some (.builtin "object.__class__")))
      (hn : PySem.W.specialIn K (.builtin "object.__class__") "__get__" = some (some (.builtin "getset_descriptor.__get__"))) (htk : PySem.W.takesIn K (.builtin "object.__class__") = some true)
      (hm : PySem.W.mroIn K C (.type "object") = some true) : TyOf K H (.ref a) (.ref C)
theorem isinst_ok {x : V} {u t : Value} (I : Inv X pins σ H s) (rx : RelV x u) (ty : TyOf X.K H x t) (e : PySem.W.kitOne X.K t c = some b) (h : ∀ tk, Q (.bool b) { s with toks := tk }) :
    wpAny (model X.prog X.w) A (call (.builtin "isinstance") [u, c]) Q E s := by
  cases ty with
  | non => cases (show u = Value.none from rx); exact PySem.W.kia_one PySem.W.kitx_none I.kIn True.intro e (fun z => nomatch z) h
  | bl y => cases (show u = Value.bool y from rx); exact PySem.W.kia_one PySem.W.kitx_bool I.kIn True.intro e (fun z => nomatch z) h
  | int i => obtain ⟨t, q⟩ := (show ∃ t, u = Value.int i t from rx); cases q; exact PySem.W.kia_one PySem.W.kitx_int I.kIn True.intro e (fun z => nomatch z) h
  | str y => obtain ⟨t, q⟩ := (show ∃ t, u = Value.str y t from rx); cases q; exact PySem.W.kia_one PySem.W.kitx_str I.kIn True.intro e (fun z => nomatch z) h
  | flt y => obtain ⟨t, q⟩ := (show ∃ t, u = Value.float y t from rx); cases q; exact PySem.W.kia_one PySem.W.kitx_float I.kIn True.intro e (fun z => nomatch z) h
  | @lst a xs ea =>
    cases (show u = Value.ref a from rx)
    obtain ⟨_, _, n, _, h1⟩ := (show ObjOk X.prog X.w H s.heap a (.lst xs) from I.hok a _ ea)
    exact PySem.W.kia_one PySem.W.kitx_list I.kIn ⟨_, h1, rfl⟩ e (fun z => nomatch z) h
  | @frz a ob xs ea =>
    cases (show u = Value.ref a from rx)
    obtain ⟨_, _, _, n, _, h1⟩ := (show ObjOk X.prog X.w H s.heap a (.frz ob (.lst xs)) from I.hok a _ ea)
    exact PySem.W.kia_one PySem.W.kitx_list I.kIn ⟨_, h1, rfl⟩ e (fun z => nomatch z) h
  | @tup a xs ea =>
    cases (show u = Value.ref a from rx)
    obtain ⟨_, _, _, p⟩ := (show ObjOk X.prog X.w H s.heap a (.tup xs) from I.hok a _ ea)
    obtain ⟨o, h1, h2, _⟩ := p
    exact PySem.W.kia_one PySem.W.kitx_tuple I.kIn ⟨o, h1, h2⟩ e (fun z => nomatch z) h
  | @dK a kvs ea =>
    cases (show u = Value.ref a from rx)
    obtain ⟨_, _, vs, _, p⟩ := (show ObjOk X.prog X.w H s.heap a (.dK kvs) from I.hok a _ ea)
    obtain ⟨o, es, ep, h1, h2, _⟩ := p
    exact PySem.W.kia_one PySem.W.kitx_dict I.kIn ⟨o, h1, h2.1⟩ e (fun z => nomatch z) h
  | @dT a kvs ea =>
    cases (show u = Value.ref a from rx)
    obtain ⟨_, _, xs, _, o, es, ep, h1, h2, _⟩ := (show ObjOk X.prog X.w H s.heap a (.dT kvs) from I.hok a _ ea)
    exact PySem.W.kia_one PySem.W.kitx_dict I.kIn ⟨o, h1, h2.1⟩ e (fun z => nomatch z) h
  | @ins a C dx fs ea cl ha hn htk hm =>
    cases (show u = Value.ref a from rx)
    obtain ⟨mA, O, _⟩ := ins_get I.hok ea
    obtain ⟨od, J, _⟩ := O.look
    exact PySem.W.kia_one (PySem.W.kitx_own (cl.get _) cl.hd ha hn htk hm) I.kIn J e (fun z => nomatch z) h
end
end L2

namespace L2
open PySem PySem.Spec PyProof.Rows

structure Room (k : Nat) (A : Around) : Prop where
  hd : A.handled = none
  dp : A.depth + 3 * k + 5 < recursionLimit
  un : A.units + 16 * k + 200 < cLine
theorem Room.mono {j k : Nat} {A : Around} (r : Room k A) (h : j ≤ k) : Room j A := ⟨r.hd, by have := r.dp; omega, by have := r.un; omega⟩
theorem Room.deeper {k : Nat} {A : Around} (r : Room (k + 1) A) (env : Env) : Room k (A.deeper env) :=
  ⟨r.hd, by have := r.dp; show A.depth + 1 + 3 * k + 5 < _; omega, by have := r.un; show A.units + 3 + 16 * k + 200 < _; omega⟩
theorem Room.depth {k : Nat} {A : Around} (r : Room k A) : A.depth < recursionLimit := by have := r.dp; omega
noncomputable def tNil : TA := fun _ H Q => Q [] H
noncomputable def tCons (ta : TE) (tr : TA) : TA := fun σ H Q => ta σ H fun x H1 => tr σ H1 fun xs H2 => Q (x :: xs) H2
section
variable {X : Cx} {e : Expr} {es : List Expr} {te : TE} {t : TA} {pos : Pos}
theorem pa_nil : PA X [] tNil := fun _ _ _ _ H Q I h => Calls.spliced_nil ⟨[], H, I, .nil, h⟩
theorem pa_cons (ha : PE X e te) (hr : PA X es t) (hs : starEach (e :: es) X.env = (false, eval e X.env) :: starEach es X.env := by rfl) : PA X (e :: es) (tCons te t) := by
  intro pos pins s σ H Q I h
  rw [hs]
  show wpAny _ _ (spliced ((false, eval e X.env) :: backTo pos (starEach es X.env))) _ _ s
  refine Calls.spliced_cons (thn (ha pins s σ H _ I h) fun u s1 ⟨x, H1, I1, r1, q1⟩ => ?_)
  exact thn (hr pos pins s1 σ H1 _ I1 q1) fun us s2 ⟨xs, H2, I2, r2, q2⟩ => ⟨x :: xs, H2, I2, .cons r1 r2, q2⟩

noncomputable def tTup (t : TA) : TE := fun σ H Q => t σ H fun xs H1 => xs.length ≤ sizeLine ∧ ∀ p, H1 p = none → Q (.ref p) (upd H1 p (.tup xs))
noncomputable def tLst (t : TA) : TE := fun σ H Q => t σ H fun xs H1 => xs.length ≤ sizeLine ∧ ∀ p, H1 p = none → Q (.ref p) (upd H1 p (.lst xs))
theorem pe_tup {x1} (h : PA X es t) : PE X (.Tuple es x1 pos) (tTup t) := by
  intro pins s σ H Q I hq
  refine wpAny_Tuple_spliced (thn (h pos pins s σ H _ I hq) fun us s1 ⟨xs, H1, I1, r, z, q⟩ => ⟨by rw [← r.length]; exact z, ?_⟩)
  have hf : H1 s1.heap.objs.size = none := I1.hok.fresh (Nat.le_refl _)
  refine ⟨.ref s1.heap.objs.size, upd H1 s1.heap.objs.size (.tup xs), I1.laid (t' := s1.toks) (fun b u e => Heap.get?_push_of_some _ e) (Nat.le_refl _) ?_, rfl, q _ hf⟩
  exact ⟨z, us, r, ⟨_, Heap.get?_push_size _ rfl, rfl, _, rfl⟩⟩
theorem pe_lst (h : PA X es t) : PE X (.List es pos) (tLst t) := by
  intro pins s σ H Q I hq
  refine wpAny_List_spliced (thn (h pos pins s σ H _ I hq) fun us s1 ⟨xs, H1, I1, r, z, q⟩ => ⟨by rw [← r.length]; exact z, ?_⟩)
  have hf : H1 s1.heap.objs.size = none := I1.hok.fresh (Nat.le_refl _)
  refine ⟨.ref s1.heap.objs.size, upd H1 s1.heap.objs.size (.lst xs), I1.laid (t' := s1.toks) (fun b u e => Heap.get?_push_of_some _ e) (Nat.le_refl _) ?_, rfl, q _ hf⟩
  exact ⟨z, us, 0, r, Heap.get?_push_size _ rfl⟩
end

noncomputable abbrev Sp := List V → Hp → VK → XK → Prop
noncomputable abbrev CXT := List Env → Hp → Shared → XK → Value → Shared → Prop

structure Env0 (P : Program) (w : World) (K : PySem.W.Frag) (mg : Str → Option Value) (base : Heap) (A : Around) (outer : List Env) (s : Shared) (H : Hp) : Prop where
  frames : A.frames = some outer
  mod : Mod K mg base
  bs : ∀ b o, base.get? b = some o → s.heap.get? b = some o ∧ H b = none
  bsz : base.objs.size ≤ s.heap.objs.size
  funs : s.heap.FunFrames base outer
  frf : ∀ b ∈ frs outer, H b = none
  hok : HOk P w H s.heap
  bare : AllBare s.gens
noncomputable def CE (outer : List Env) (P : Program) (w : World) (H : Hp) (s : Shared) (Q : VK) (u : Value) (s' : Shared) : Prop :=
  ∃ v H', s'.os = s.os ∧ AllBare s'.gens ∧ Un (frs outer) [] H H' s.heap s'.heap ∧ HOk P w H' s'.heap ∧ RelV v u ∧ Q v H'
noncomputable def CR (CX : CXT) (outer : List Env) (P : Program) (w : World) (H : Hp) (s : Shared) (Q : VK) (E : XK) (r : Result) (s' : Shared) : Prop :=
  match r with
  | .ok (.ret u) => CE outer P w H s Q u s'
  | .ok _ => False
  | .error e => CX outer H s E e s'
structure FnOk (P : Program) (w : World) (K : PySem.W.Frag) (mg : Str → Option Value) (base : Heap) (CX : CXT) (k : Nat) (f : Addr) (fd : FuncData) (ps : List Str) (sp : Sp) : Prop where
  len : ∀ vs H Q E, sp vs H Q E → vs.length = ps.length
  run : ∀ (A : Around) (outer : List Env) (s : Shared) (H : Hp) (args : Args) (us : List Value) (vs : List V) (Q : VK) (E : XK), Room k A → Env0 P w K mg base A outer s H → BindsTo s fd args (ps.zip us) → Vals vs us → sp vs H Q E →
    codeAny (model P w) A (.call (.ref f) args) (CR CX outer P w H s Q E) s
section
variable {X : Cx} {pins : List (Addr × Obj)} {σ : St} {H : Hp} {s s' : Shared}
theorem Inv.env0 (I : Inv X pins σ H s) : Env0 X.prog X.w X.K X.mg X.base X.A X.stack s H :=
  ⟨I.ok.frames, I.ok.mod, I.bs, Nat.le_trans I.ok.bsz I.sz, I.stack, I.stkFree, I.hok, I.bare⟩
theorem Inv.after {Q : VK} {u : Value} (I : Inv X pins σ H s) (h : CE X.stack X.prog X.w H s Q u s') : EP X pins σ Q u s' := by
  obtain ⟨v, H', os, bare, un, hok, r, q⟩ := h
  obtain ⟨hh, g, d, t, os'⟩ := s'
  obtain rfl : os' = s.os := os
  exact ⟨v, H', I.call (h' := hh) (g' := g) (d' := d) (t' := t) (ch := []) un hok bare (fun b z => absurd z (by simp)), r, q⟩
end

noncomputable def Binds (K : PySem.W.Frag) (fd : FuncData) (ps : List Str) (ds : List Value) : Prop :=
  ∀ (s : Shared) (us : List Value), K.In s.heap → (us ++ ds).length = ps.length → BindsTo s fd ⟨us, []⟩ (ps.zip (us ++ ds))
theorem Binds.all {K : PySem.W.Frag} {fd : FuncData} {ps : List Str} (h : ∀ us : List Value, us.length = ps.length → bindArgs fd ⟨us, []⟩ = pure (ps.zip us)) : Binds K fd ps [] := fun s us _ hl => by
  rw [List.append_nil] at hl ⊢
  exact .of_eq (h us hl)

section
variable {X : Cx} {CX : CXT} {k : Nat} {f C : Addr} {fd : FuncData} {ps : List Str} {sp : Sp} {dvs : List V} {ds : List Value} {E : XK} {x m : Str} {p pos apos : Pos} {e o : Expr} {es : List Expr} {ta : TE} {t : TA}

end

noncomputable def PK (X : Cx) (kws : List Keyword) (t : TA) : Prop :=
  ∀ (pos : Pos) (pins : List (Addr × Obj)) (s : Shared) (σ : St) (H : Hp) (Q : List V → Hp → Prop), Inv X pins σ H s → t σ H Q → wpAny (model X.prog X.w) X.A (evalAll ((backToKw pos (keywordEach kws X.env)).map (·.2))) (AP X pins σ Q) X.xe s
section
variable {X : Cx} {CX : CXT} {k : Nat} {f C : Addr} {fd : FuncData} {ps ks : List Str} {sp : Sp} {E : XK} {x m : Str} {p pos apos kpos : Pos} {e o : Expr} {es : List Expr} {kws : List Keyword} {te ta : TE} {t tk : TA} {nm : Option Str}
variable {g : List Value → List Value → List Value} {gV : List V → List V → List V}
end

structure FnScope (N P : List Str) (sc : Scope) : Prop where
  kind : sc.kind = .function
  co : sc.isCoroutine = false
  gen : sc.isGenerator = false
  nd : N.Nodup
  pre : N.take P.length = P
  par : ∀ x ∈ P, sc.names.lookup x = some .local ∨ sc.names.lookup x = some .cell
  nofree : ∀ y ∈ sc.names, y.2 ≠ .free

theorem bindL_out {kindOf : Str → Option NameKind} {x : Str} : ∀ {binds : List (Str × Value)} {m : Str → Option Value}, (∀ v, (x, v) ∉ binds) → bindL kindOf binds m x = m x
  | [], _, _ => rfl
  | (n, v) :: r, m, h => by
    unfold bindL
    rw [bindL_out fun w hw => h w (List.mem_cons_of_mem _ hw)]
    split
    · have : x ≠ n := by rintro rfl; exact h v List.mem_cons_self
      simp [this]
    · rfl
theorem bindC_out {kindOf : Str → Option NameKind} {x : Str} : ∀ {binds : List (Str × Value)} {m : Str → Option Value}, (∀ v, (x, v) ∉ binds) → bindC kindOf binds m x = m x
  | [], _, _ => rfl
  | (n, v) :: r, m, h => by
    unfold bindC
    rw [bindC_out fun w hw => h w (List.mem_cons_of_mem _ hw)]
    split
    · rfl
    · have : x ≠ n := by rintro rfl; exact h v List.mem_cons_self
      simp [this]
theorem bindL_get {kindOf : Str → Option NameKind} {x : Str} {v : Value} : ∀ {P : List Str} {vs : List Value} {i : Nat} {m : Str → Option Value}, P.Nodup → P[i]? = some x → vs[i]? = some v → kindOf x = some .local →
    bindL kindOf (P.zip vs) m x = some v
  | [], _, _, _, _, h, _, _ => by simp at h
  | _ :: _, [], _, _, _, _, h, _ => by simp at h
  | p :: P, w :: vs, 0, m, nd, h1, h2, hk => by
    simp at h1 h2; subst h1; subst h2
    show bindL kindOf ((p, w) :: P.zip vs) m p = _
    unfold bindL
    rw [bindL_out fun v hv => (List.nodup_cons.mp nd).1 (List.of_mem_zip hv).1, if_pos hk]
    simp
  | p :: P, w :: vs, i + 1, m, nd, h1, h2, hk => by
    show bindL kindOf ((p, w) :: P.zip vs) m x = _
    unfold bindL
    exact bindL_get (i := i) (List.nodup_cons.mp nd).2 (by simpa using h1) (by simpa using h2) hk
theorem bindC_get {kindOf : Str → Option NameKind} {x : Str} {v : Value} : ∀ {P : List Str} {vs : List Value} {i : Nat} {m : Str → Option Value}, P.Nodup → P[i]? = some x → vs[i]? = some v → kindOf x ≠ some .local →
    bindC kindOf (P.zip vs) m x = some v
  | [], _, _, _, _, h, _, _ => by simp at h
  | _ :: _, [], _, _, _, _, h, _ => by simp at h
  | p :: P, w :: vs, 0, m, nd, h1, h2, hk => by
    simp at h1 h2; subst h1; subst h2
    show bindC kindOf ((p, w) :: P.zip vs) m p = _
    unfold bindC
    rw [bindC_out fun v hv => (List.nodup_cons.mp nd).1 (List.of_mem_zip hv).1, if_neg hk]
    simp
  | p :: P, w :: vs, i + 1, m, nd, h1, h2, hk => by
    show bindC kindOf ((p, w) :: P.zip vs) m x = _
    unfold bindC
    exact bindC_get (i := i) (List.nodup_cons.mp nd).2 (by simpa using h1) (by simpa using h2) hk

noncomputable def start (N : List Str) (vs : List V) : St := vs.map some ++ List.replicate (N.length - vs.length) none

noncomputable def cxOf (CX : CXT) (P : Program) (w : World) (K : PySem.W.Frag) (mg : Str → Option Value) (base : Heap) (N : List Str) (qual : Str) (scope : Scope) (f : Addr) (cd : Value) (A : Around) (outer : List Env) (s : Shared) (H : Hp) (E : XK) : Cx where
  prog := P
  w := w
  K := K
  mg := mg
  base := base
  A := A.deeper (envOfC qual scope s.heap.objs.size f cd)
  N := N
  s₀ := s
  H₀ := H
  env := envOfC qual scope s.heap.objs.size f cd
  outer := outer
  stack := envOfC qual scope s.heap.objs.size f cd :: outer
  ex := []
  calm := true
  fn := fun _ => true
  pn := []
  xe := fun e s' => wpAny (model P w) (A.deeper (envOfC qual scope s.heap.objs.size f cd)) (leaving (envOfC qual scope s.heap.objs.size f cd) e) (fun _ s'' => CX outer H s E e s'') (fun e' s'' => CX outer H s E e' s'') s'

theorem cell_has {sc : Scope} {n : Nat} {x : Str} (h : sc.names.lookup x = some .cell) : ∃ c, (cellsFrom n sc.names []).lookup x = some c := by
  have q := PySem.W.cellsFrom_some sc.names n [] (.inl h)
  exact Option.isSome_iff_exists.mp q

theorem inv_start {CX : CXT} {P : Program} {w : World} {K : PySem.W.Frag} {mg : Str → Option Value} {base : Heap} {N ps : List Str} {qual : Str} {scope : Scope} {f : Addr} {cd : Value} {A : Around} {outer : List Env} {s s1 : Shared} {H : Hp} {E : XK} {us : List Value} {vs : List V}
    (S : FnScope N ps scope) (hd : A.handled = none) (e0 : Env0 P w K mg base A outer s H) (hl : vs.length = ps.length) (r : Vals vs us)
    (x : InCallC s s.heap.objs.size (bindL (envOfC qual scope s.heap.objs.size f cd).kindOf (ps.zip us) fun _ => none) (cellsFrom (s.heap.objs.size + 1) scope.names []) (bindC (envOfC qual scope s.heap.objs.size f cd).kindOf (ps.zip us) fun _ => none) s1) :
    Inv (cxOf CX P w K mg base N qual scope f cd A outer s H E) [] (start N vs) H s1 := by
  have hpl : ps.length ≤ N.length := by have := congrArg List.length S.pre; rw [List.length_take] at this; omega
  obtain ⟨h1, tk, rfl, hk⟩ := x.done
  have noA : ∀ b : Addr, b ∉ (cxOf CX P w K mg base N qual scope f cd A outer s H E).ex := fun b z => absurd (show b ∈ ([] : List Addr) from z) (by simp)
  refine ⟨⟨e0.mod, S.kind, rfl, rfl, Nat.le_refl _, fun y z c h1 h2 => ?_, fun y hy => ?_, fun y c _ h => ?_, fun _ => hd, Around.frames_deeper e0.frames, .inr ⟨rfl, rfl⟩, fun b z => absurd z (noA b), e0.bs, e0.bsz, fun b _ _ => noA b, fun b z => absurd z (noA b), e0.funs, e0.frf⟩,
    rfl, e0.bare, Un.kept hk, ⟨_, x.toInCall.ns, fun i y v h1 h2 h3 => ?_⟩, fun y c h => ⟨_, x.cell y c h⟩, e0.hok.fresh (Nat.le_refl _), fun y c h => ?_, fun p hp => absurd (show p ∈ ([] : List (Addr × Obj)) from hp) (by simp), e0.hok.kept hk, ?_⟩
  · exact name_of_addr x.apart (PySem.mem_of_lookup h1) (PySem.mem_of_lookup h2)
  · have hy : scope.names.lookup y = some .cell ∨ scope.names.lookup y = some .free := hy
    rcases hy with hy | hy
    · exact cell_has hy
    · exact absurd rfl (S.nofree _ (PySem.mem_of_lookup hy))
  · exact Nat.le_of_lt (x.above y c (PySem.mem_of_lookup h))
  · have hi : i < vs.length := by
      unfold start at h2
      by_cases hi : i < vs.length
      · exact hi
      · rw [List.getElem?_append_right (by simpa using hi)] at h2
        rw [List.getElem?_replicate] at h2
        split at h2 <;> cases h2
    have ha : vs[i]? = some v := by
      unfold start at h2
      rw [List.getElem?_append_left (by simpa using hi), List.getElem?_map] at h2
      cases e : vs[i]? with
      | none => rw [e] at h2; cases h2
      | some a => rw [e] at h2; cases h2; rfl
    obtain ⟨u, hu, rv⟩ := r.get ha
    have hp : ps[i]? = some y := by
      rw [← S.pre, List.getElem?_take_of_lt (by omega)]; exact h1
    have ndP : ps.Nodup := by rw [← S.pre]; exact S.nd.sublist (List.take_sublist _ _)
    refine ⟨u, rv, ?_⟩
    rcases S.par y (List.mem_of_getElem? hp) with k | k
    · exact .inl ⟨k, bindL_get ndP hp hu k⟩
    · obtain ⟨c, e⟩ := cell_has (n := s.heap.objs.size + 1) k
      refine .inr ⟨.inl k, c, e, ?_⟩
      have q := x.cell y c e
      rw [bindC_get ndP hp hu (by show scope.names.lookup y ≠ _; rw [k]; decide)] at q
      exact q
  · exact e0.hok.fresh (Nat.le_of_lt (x.above y c (PySem.mem_of_lookup h)))
  · unfold start
    show _ = N.length
    rw [List.length_append, List.length_map, List.length_replicate]
    omega

theorem fn_of {CX : CXT} {P : Program} {w : World} {K : PySem.W.Frag} {mg : Str → Option Value} {base : Heap} {k : Nat} {f : Addr} {name qual : Str} {params : Arguments} {body : List Stmt} {scope : Scope} {dV kV doc pm cdv ct oc : Value} {an od : Option Addr}
    {osl : Array (Option Value)} {N ps : List Str} {sp : Sp} (lk : K.lookup f = some ⟨oc, od, .func (PySem.W.fnOf name qual params body scope dV kV doc pm an cdv ct), osl⟩) (hcd : PySem.W.codeIn K cdv qual = true) (S : FnScope N ps scope)
    (len : ∀ vs H Q E, sp vs H Q E → vs.length = ps.length)
    (hbody : ∀ (A : Around) (outer : List Env) (s : Shared) (H : Hp) (vs : List V) (Q : VK) (E : XK), Room k (A.deeper (envOfC qual scope s.heap.objs.size f cdv)) → sp vs H Q E →
      ∃ t, PSs (cxOf CX P w K mg base N qual scope f cdv A outer s H E) body t ∧ t { nx := fun _ H' => Q .non H', rt := Q } (start N vs) H) :
    FnOk P w K mg base CX (k + 1) f (PySem.W.fnOf name qual params body scope dV kV doc pm an cdv ct) ps sp := by
  refine ⟨len, fun A outer s H args us vs Q E hr e0 hb r hsp => ?_⟩
  have hl := len _ _ _ _ hsp
  have KX : K.In s.heap := e0.mod.kin.keeps fun b o e => (e0.bs b o e).1
  have lim : s.heap.NoLimit := e0.mod.nolimit.keeps fun b o e => (e0.bs b o e).1
  have hkind : ∀ y ∈ ps.zip us, scope.names.lookup y.1 = some .local ∨ (scope.names.lookup y.1 = some .cell ∧ ((cellsFrom (s.heap.objs.size + 1) scope.names []).lookup y.1).isSome = true) := fun ⟨n, v⟩ hy => by
    rcases S.par n (List.of_mem_zip hy).1 with q | q
    · exact .inl q
    · exact .inr ⟨q, PySem.W.cellsFrom_some _ _ _ (.inl q)⟩
  refine codeAny_call_function hr.depth (KX _ _ lk) rfl S.co S.gen rfl (PySem.W.codeRec_of KX hcd) (hb _ _ _ _ ?_)
  refine wpAny_newFunctionEnv_cells S.kind hkind fun env he s1 x => ?_
  subst he
  refine ⟨lim.keeps x.toInCall.keep, codeAny_func ?_⟩
  obtain ⟨t, ht, hq⟩ := hbody A outer s H vs Q E (hr.deeper _) hsp
  have I : Inv (cxOf CX P w K mg base N qual scope f cdv A outer s H E) [] (start N vs) H s1 := inv_start S hr.hd e0 hl r x
  refine wpAny_mono (ht [] s1 (start N vs) H _ I hq) (fun fl s' hs => ?_) fun e s' hs => hs
  have fin : ∀ {σ' : St} {H' : Hp} {v : V} {u : Value}, Inv (cxOf CX P w K mg base N qual scope f cdv A outer s H E) [] σ' H' s' → RelV v u → Q v H' → CE outer P w H s Q u s' :=
    fun {σ' H' v u} J rv q => ⟨v, H', J.os, J.bare, J.base, J.hok, rv, q⟩
  cases fl with
  | ret u =>
    obtain ⟨v, σ', H', J, rv, q⟩ := hs
    exact fin J rv q
  | next =>
    obtain ⟨σ', H', J, q⟩ := hs
    exact fin (v := V.non) (u := Value.none) J rfl q
  | brk =>
    obtain ⟨_, _, _, q⟩ := hs
    exact False.elim q
  | cont =>
    obtain ⟨_, _, _, q⟩ := hs
    exact False.elim q
end L2

namespace L2
open PySem PySem.Spec PyProof.Rows
section
variable {X : Cx} {x : Str} {p pos : Pos} {e : Expr} {es : List Expr} {t : TA} {id T : String} {r : List V → Hp → VK → Prop}

noncomputable def tCB (r : List V → Hp → VK → Prop) (t : TA) : TE := fun σ H Q => t σ H fun vs H1 => r vs H1 Q
theorem pe_callB (hc : CallR X (.builtin id) r) (hg : Gl X x) (hm : X.mg x = none) (hv : bootBuiltins x = some (.builtin id)) (ha : PA X (e :: es) t) (hn : x ≠ "__name__" := by decide) (hdb : (x == ("__debug__" : Str)) = false := by decide)
    (he : starEach (e :: es) X.env = (false, eval e X.env) :: starEach es X.env := by rfl) (hpl : (backTo pos (starEach es X.env)).any (·.1) = false := by rfl) : PE X (.Call (.Name x p) (e :: es) [] pos) (tCB r t) := by
  intro pins s σ H Q I h
  refine wpAny_Call_Name_kw (ld_blt I hg hm hv ?_ hn hdb)
  exact PyProof.Rows.callWith_builtin1 (thn (ha pos pins s σ H _ I h) fun us s1 ⟨vs, H1, I1, r1, q1⟩ => hc pins s1 σ H1 vs us Q I1 r1 q1) he hpl
theorem pe_callTy (hc : CallR X (.type T) r) (hg : Gl X x) (hm : X.mg x = none) (hv : bootBuiltins x = some (.type T)) (ha : PA X (e :: es) t) (hn : x ≠ "__name__" := by decide) (hdb : (x == ("__debug__" : Str)) = false := by decide)
    (he : starEach (e :: es) X.env = (false, eval e X.env) :: starEach es X.env := by rfl) (hpl : (backTo pos (starEach es X.env)).any (·.1) = false := by rfl) : PE X (.Call (.Name x p) (e :: es) [] pos) (tCB r t) := by
  intro pins s σ H Q I h
  refine wpAny_Call_Name_kw (ld_blt I hg hm hv ?_ hn hdb)
  exact PyProof.Rows.callWith_type1 (thn (ha pos pins s σ H _ I h) fun us s1 ⟨vs, H1, I1, r1, q1⟩ => hc pins s1 σ H1 vs us Q I1 r1 q1) he hpl
end
end L2

namespace HT
open PySem PyProof.Rows

section
open PySem.SeqAt
open PySem.AutoSeq1 (wpAny_loadPart')
open PySem.MeetsSeq PySem.MeetsSeq2 PySem.MeetsSeq3

end

section
variable {prog : Program} {w : World} {A : Around} {E : Value → Shared → Prop} {s : Shared}

theorem cat_tup {t b : Addr} {vs ws : List Value} {Q : Value → Shared → Prop} (ht : IsTup s.heap t vs.toArray) (hb : IsTup s.heap b ws.toArray) (hv : vs ≠ [])
    (h1 : ws = [] → Q (.ref t) s) (h2 : ws ≠ [] → Q (.ref s.heap.objs.size) { s with heap := s.heap.push { cls := .type "tuple", data := .seq (vs ++ ws).toArray } })
    (hsz : vs.length + ws.length ≤ sizeLine) : wpAny (model prog w) A (binaryOp .Add (.ref t) (.ref b)) Q E s := by
  obtain ⟨⟨cls, dd, data, sl⟩, ho, hc, n, hd⟩ := id ht
  obtain ⟨⟨cls2, dd2, data2, sl2⟩, ho2, hc2, n2, hd2⟩ := id hb
  simp only at hc hd hc2 hd2
  subst hc hd hc2 hd2
  have e : vs.toArray ++ ws.toArray = (vs ++ ws).toArray := by simp
  by_cases hw : ws = []
  · exact concat_meets ⟨_, ho, rfl⟩ ⟨_, ho2, rfl⟩ noFill_tuple_add seq_tuple_add PySem.F.slot_tuple_add PySem.F.entry_tuple_add (PySem.F.args_tuple_add_2 _ _)
      (tuple_addW1 t b vs.toArray ws.toArray n n2 dd dd2 sl sl2 (by simpa using hv) (by simp [hw])) ⟨ho, ho2, h1 hw⟩
  · refine concat_meets ⟨_, ho, rfl⟩ ⟨_, ho2, rfl⟩ noFill_tuple_add seq_tuple_add PySem.F.slot_tuple_add PySem.F.entry_tuple_add (PySem.F.args_tuple_add_2 _ _)
      (tuple_addW2 t b vs.toArray ws.toArray n n2 dd dd2 sl sl2 (by simpa using hv) (by simpa using hw) (by rw [List.size_toArray, List.size_toArray]; exact hsz)) ⟨ho, ho2, ?_⟩
    rw [e]
    exact h2 hw

noncomputable def sIx (n d : Nat) : Option Int → Nat
  | none => d
  | some v => if v < 0 then (v + (n : Int)).toNat else min v.toNat n
theorem sIx_none (n d : Nat) : sIx n d none = d := rfl
theorem sIx_nat (n d k : Nat) : sIx n d (some (k : Int)) = min k n := by
  show (if (k : Int) < 0 then ((k : Int) + (n : Int)).toNat else min (k : Int).toNat n) = min k n
  rw [if_neg (by omega), Int.toNat_natCast]
theorem sIx_le (n d : Nat) (hd : d ≤ n) (o : Option Int) : sIx n d o ≤ n := by
  cases o with
  | none => exact hd
  | some v =>
    show (if v < 0 then (v + (n : Int)).toNat else min v.toNat n) ≤ n
    by_cases hv : v < 0
    · rw [if_pos hv]; omega
    · rw [if_neg hv]; exact Nat.min_le_right _ _
theorem clip_eq (v : Int) (n d : Nat) : (if v < 0 then max (v + (n : Int)) 0 else min v (n : Int)) = ((sIx n d (some v) : Nat) : Int) := by
  show (if v < 0 then max (v + (n : Int)) 0 else min v (n : Int)) = (((if v < 0 then (v + (n : Int)).toNat else min v.toNat n) : Nat) : Int)
  by_cases hv : v < 0
  · simp only [if_pos hv]; omega
  · simp only [if_neg hv]; omega
theorem adjust_gen (lo hi : Option Int) (n : Nat) : Builtin.Slice.sliceAdjust lo hi 1 (n : Int) = (((sIx n 0 lo : Nat) : Int), ((sIx n n hi : Nat) : Int)) := by
  have h1 : ¬ ((1 : Int) < 0) := by omega
  unfold Builtin.Slice.sliceAdjust
  simp only [h1, if_false]
  refine Prod.ext ?_ ?_
  · cases lo with
    | none => rfl
    | some v => exact clip_eq v n 0
  · cases hi with
    | none => rfl
    | some v => exact clip_eq v n n
theorem places_gen (i j : Nat) : Builtin.Slice.slicePlaces (i : Int) (j : Int) 1 = j - i := by
  unfold Builtin.Slice.slicePlaces
  have h1 : (1 : Int) > 0 := by omega
  simp only [h1, if_true, Int.ediv_one]
  split <;> omega
theorem slicePart_ {v : Value} {o : Option Int} {Q : Option Int → Shared → Prop} (p : IsPart v o) (h : Q o s) : wpAny (model prog w) A (Builtin.Slice.slicePartIndex v) Q E s := by
  cases p with
  | none => exact slicePart_none h
  | int i t => exact slicePart_int h
theorem sliceApplied_gen {sl : Addr} {vl vu : Value} {lo hi : Option Int} {n : Nat} {Q : Int × Int × Nat → Shared → Prop} (hs : s.heap.IsSliceOf sl vl vu .none) (pl : IsPart vl lo) (pu : IsPart vu hi)
    (h : Q (((sIx n 0 lo : Nat) : Int), 1, sIx n n hi - sIx n 0 lo) s) : wpAny (model prog w) A (Builtin.Slice.sliceApplied (.ref sl) (pure (n : Int))) Q E s := by
  obtain ⟨os, hos, hcs, hds⟩ := id hs
  unfold Builtin.Slice.sliceApplied Builtin.Slice.sliceFields
  refine wpAny_bind (wpAny_bind (wpAny_field hos hds (x := vl) rfl (wpAny_bind (wpAny_field hos hds (x := vu) rfl (wpAny_bind (wpAny_field hos hds (x := .none) rfl (wpAny_pure ?_)))))))
  refine wpAny_bind (slicePart_none ?_)
  show wpAny _ _ (if ((1 : Int) == 0) = true then _ else _) _ _ s
  rw [if_neg (by decide)]
  refine wpAny_bind (slicePart_ pl (wpAny_bind (slicePart_ pu (wpAny_bind (wpAny_pure ?_)))))
  show wpAny _ _ (match Builtin.Slice.sliceAdjust lo hi 1 (n : Int) with | (lo, hi) => pure (lo, (1 : Int), Builtin.Slice.slicePlaces lo hi 1)) _ _ s
  rw [adjust_gen lo hi n]
  show wpAny _ _ (pure (((sIx n 0 lo : Nat) : Int), (1 : Int), Builtin.Slice.slicePlaces ((sIx n 0 lo : Nat) : Int) ((sIx n n hi : Nat) : Int) 1)) _ _ s
  rw [places_gen]
  exact wpAny_pure h
theorem pick_gen (xs : Array Value) (i k : Nat) : ((List.range k).filterMap fun (m : Nat) => xs[((i : Int) + (m : Int) * 1).toNat]?).toArray = ((xs.toList.drop i).take k).toArray := by
  have e : (fun (m : Nat) => xs[((i : Int) + (m : Int) * 1).toNat]?) = fun m => xs[i + m]? := by
    funext m
    have : ((i : Int) + (m : Int) * 1).toNat = i + m := by omega
    rw [this]
  rw [e]
  have := pick_run xs i k
  rw [List.filterMap_map] at this
  have e2 : ((fun x => xs[x]?) ∘ fun x => i + x) = fun m => xs[i + m]? := rfl
  rw [e2] at this
  rw [this]

theorem getItem_tuple_cut {t sl : Addr} {items : Array Value} {vl vu : Value} {lo hi : Option Int} {Q : Value → Shared → Prop} (ht : IsTup s.heap t items) (hs : s.heap.IsSliceOf sl vl vu .none) (pl : IsPart vl lo) (pu : IsPart vu hi)
    (hw : ¬ (sIx items.size 0 lo = 0 ∧ sIx items.size items.size hi = items.size))
    (h : Q (.ref s.heap.objs.size) { s with heap := s.heap.push { cls := .type "tuple", data := .seq ((items.toList.drop (sIx items.size 0 lo)).take (sIx items.size items.size hi - sIx items.size 0 lo)).toArray } })
    (hsz : items.size ≤ sizeLine) : wpAny (model prog w) A (getItem (.ref t) (.ref sl)) Q E s := by
  have htake : sizeOk (.seq ((items.toList.drop (sIx items.size 0 lo)).take (sIx items.size items.size hi - sIx items.size 0 lo)).toArray) := by
    show ((items.toList.drop (sIx items.size 0 lo)).take (sIx items.size items.size hi - sIx items.size 0 lo)).toArray.size ≤ sizeLine
    rw [List.size_toArray, List.length_take, List.length_drop, Array.length_toList]
    omega
  have hj : sIx items.size items.size hi ≤ items.size := sIx_le _ _ (Nat.le_refl _) hi
  obtain ⟨os, hos, hcs, hds⟩ := id hs
  have hTs : s.TypeIs (.ref sl) "slice" := ⟨os, hos, hcs⟩
  unfold getItem
  try with_reducible refine wpAny_holding ?_
  first | refine wpAny_bind (wpAny_pure ?_) | skip
  refine wpAny_bind (wpAny_sequenceKey ht.typeIs (by decide) ?_)
  refine wpAny_bind (wpAny_callSpecial?_slot (name := Str.ofString "__getitem__") ht.typeIs PyProof.Rows.slot_tuple_getitem
    (wpAny_call_entry PyProof.Rows.slot_tuple_getitem ht.typeIs entry_tuple_getitem ?_ (args_tuple_getitem _ _)))
  show wpAny _ _ (Builtin.Tuple.tupleItemsOf (.ref t) >>= _) _ _ s
  refine wpAny_bind (tupleItemsOf_ ht ?_)
  refine wpAny_bind (wpAny_typeOf hTs ?_)
  rw [if_pos (by decide)]
  refine wpAny_bind (sliceApplied_gen hs pl pu ?_)
  have hno : ¬ ((((sIx items.size 0 lo : Nat) : Int) == 0 && (1 : Int) == 1 && (sIx items.size items.size hi - sIx items.size 0 lo) == items.size) = true) := by
    intro q
    rw [Bool.and_eq_true, Bool.and_eq_true] at q
    have q1 : ((sIx items.size 0 lo : Nat) : Int) = 0 := eq_of_beq q.1.1
    have q2 : sIx items.size items.size hi - sIx items.size 0 lo = items.size := eq_of_beq q.2
    exact hw ⟨by omega, by omega⟩
  show wpAny _ _ (if (((sIx items.size 0 lo : Nat) : Int) == 0 && (1 : Int) == 1 && (sIx items.size items.size hi - sIx items.size 0 lo) == items.size) = true then _ else _) _ _ s
  rw [if_neg hno, pick_gen]
  first
    | exact wpAny_bind (m := Builtin.Tuple.tupleExact _) (wpAny_newObj_type (wpAny_pure ⟨_, rfl, wpAny_pure h⟩) htake)
    | exact wpAny_bind (m := Builtin.Tuple.tupleExact _) (wpAny_newObj_type (wpAny_bind (wpAny_pure (wpAny_pure ⟨_, rfl, wpAny_pure h⟩))) htake)
    | exact wpAny_bind (wpAny_bind (m := Builtin.Tuple.tupleExact _) (wpAny_newObj_type (wpAny_pure (wpAny_pure ⟨_, rfl, wpAny_pure h⟩)) htake))
    | exact wpAny_bind (wpAny_bind (m := Builtin.Tuple.tupleExact _) (wpAny_newObj_type (wpAny_pure ⟨_, rfl, wpAny_pure h⟩) htake))
end
end HT

namespace L2
open PySem PySem.Spec PyProof.Rows

noncomputable abbrev TO := St → Hp → (Option Int → Hp → Prop) → Prop
noncomputable def PO (X : Cx) (e : Option Expr) (t : TO) : Prop :=
  ∀ (pins : List (Addr × Obj)) (s : Shared) (σ : St) (H : Hp) (Q : Option Int → Hp → Prop), Inv X pins σ H s → t σ H Q →
    wpAny (model X.prog X.w) X.A (evalPart e X.env) (fun u s' => ∃ o H', Inv X pins σ H' s' ∧ IsPart u o ∧ Q o H') X.xe s
noncomputable def tNoPart : TO := fun _ H Q => Q none H
noncomputable def tPart (t : TE) : TO := fun σ H Q => t σ H fun x H1 => ∃ i, x = .int i ∧ Q (some i) H1

section
variable {X : Cx} {e : Expr} {te : TE} {lo hi : Option Expr} {tl th : TO} {pos p2 : Pos}

theorem po_none : PO X none tNoPart := by
  intro pins s σ H Q I h
  rw [evalPart_none]
  exact wpAny_pure ⟨none, H, I, .none, h⟩
theorem po_some (h : PE X e te) : PO X (some e) (tPart te) := by
  intro pins s σ H Q I hw
  rw [evalPart_some]
  refine thn (h pins s σ H _ I hw) fun u s1 ⟨x, H1, I1, r1, q1⟩ => ?_
  obtain ⟨i, rfl, q⟩ := q1
  obtain ⟨t, rfl⟩ := r1
  exact ⟨some i, H1, I1, .int i t, q⟩

noncomputable def SlR (X : Cx) (r : V → Option Int → Option Int → Hp → VK → Prop) : Prop :=
  ∀ (pins : List (Addr × Obj)) (s : Shared) (σ : St) (H : Hp) (x : V) (v vl vu : Value) (lo hi : Option Int) (sl : Addr) (Q : VK), Inv X pins σ H s → RelV x v → s.heap.IsSliceOf sl vl vu .none → IsPart vl lo → IsPart vu hi → r x lo hi H Q →
    ∃ T id, typeLookup (.type T) "__getitem__" = pure (some (.builtin id)) ∧ s.TypeIs v T ∧ wpAny (model X.prog X.w) X.A (getItem v (.ref sl)) (EP X pins σ Q) X.xe s
theorem SlR.or {r r' : V → Option Int → Option Int → Hp → VK → Prop} (h : SlR X r) (h' : SlR X r') : SlR X (fun x lo hi H Q => r x lo hi H Q ∨ r' x lo hi H Q) := by
  intro pins s σ H x v vl vu lo hi sl Q I rx hs pl pu q
  rcases q with q | q
  · exact h pins s σ H x v vl vu lo hi sl Q I rx hs pl pu q
  · exact h' pins s σ H x v vl vu lo hi sl Q I rx hs pl pu q
noncomputable def tSl (r : V → Option Int → Option Int → Hp → VK → Prop) (te : TE) (tl th : TO) : TE := fun σ H Q => te σ H fun x H1 => tl σ H1 fun l H2 => th σ H2 fun u H3 => r x l u H3 Q
theorem pe_slice {r : V → Option Int → Option Int → Hp → VK → Prop} (hr : SlR X r) (he : PE X e te) (hl : PO X lo tl) (hu : PO X hi th) : PE X (.Subscript e (.Slice lo hi none p2) pos) (tSl r te tl th) := by
  intro pins s σ H Q I h
  refine Subscript_ (thn (he pins s σ H _ I h) fun v s1 ⟨x, H1, I1, r1, q1⟩ => ?_)
  refine wpAny_Slice (thn (hl pins s1 σ H1 _ I1 q1) fun vl s2 ⟨l, H2, I2, pl, q2⟩ => thn (hu pins s2 σ H2 _ I2 q2) fun vu s3 ⟨u, H3, I3, pu, q3⟩ => ?_)
  rw [evalPart_none]
  refine wpAny_pure ?_
  have I4 : Inv X pins σ H3 { s3 with heap := s3.heap.push { cls := .type "slice", data := .fields #[vl, vu, .none] } } := I3.kept (t' := s3.toks) fun b ob q => Heap.get?_push_of_some _ q
  obtain ⟨T, id, hT, ht, hg⟩ := hr pins { s3 with heap := s3.heap.push { cls := .type "slice", data := .fields #[vl, vu, .none] } } σ H3 x v vl vu l u s3.heap.objs.size Q I4 r1 (Heap.IsSliceOf.new ..) pl pu q3
  show wpAny (model X.prog X.w) X.A (subscriptTail e (.Slice lo hi none p2) v (.ref s3.heap.objs.size)) (EP X pins σ Q) X.xe { s3 with heap := s3.heap.push { cls := .type "slice", data := .fields #[vl, vu, .none] } }
  exact tail_any (ops := [.ref s3.heap.objs.size, v]) ht hT hg (by with_unfolding_all rfl)

noncomputable def cutV (xs : List V) (lo hi : Option Int) : List V := (xs.drop (HT.sIx xs.length 0 lo)).take (HT.sIx xs.length xs.length hi - HT.sIx xs.length 0 lo)
theorem cutV_length (xs : List V) (lo hi : Option Int) : (cutV xs lo hi).length ≤ xs.length := by
  unfold cutV
  rw [List.length_take, List.length_drop]
  omega
noncomputable def rSlT (K : PySem.W.Frag) : V → Option Int → Option Int → Hp → VK → Prop := fun x lo hi H Q => ∃ a xs, x = .ref a ∧ SqT K H a xs ∧
  ¬ (HT.sIx xs.length 0 lo = 0 ∧ HT.sIx xs.length xs.length hi = xs.length) ∧ ∀ p, H p = none → Q (.ref p) (upd H p (.tup (cutV xs lo hi)))
theorem sl_tup : SlR X (rSlT X.K) := by
  intro pins s σ H x v vl vu lo hi sl Q I rx hs pl pu h
  obtain ⟨a, xs, rfl, hx, hw, q⟩ := h
  cases rx
  obtain ⟨its, r, ht, hz⟩ := I.tuple hx
  have hlen : its.toArray.size = xs.length := by rw [List.size_toArray]; exact r.length.symm
  refine ⟨"tuple", _, PyProof.Rows.slot_tuple_getitem.lookup, ht.typeIs, ?_⟩
  refine HT.getItem_tuple_cut ht hs pl pu (by rw [hlen]; exact hw) ?_ (by rw [hlen]; exact hz)
  rw [hlen]
  refine ⟨.ref s.heap.objs.size, _, I.laid (t' := s.toks) (o := .tup (cutV xs lo hi)) (fun b ob q => Heap.get?_push_of_some _ q) (Nat.le_refl _) ?_, rfl, q _ (I.hok.fresh (Nat.le_refl _))⟩
  exact ⟨Nat.le_trans (cutV_length xs lo hi) hz, _, (r.drop (HT.sIx xs.length 0 lo)).take (HT.sIx xs.length xs.length hi - HT.sIx xs.length 0 lo), IsTup.new _ _⟩

noncomputable def rCatT (K : PySem.W.Frag) : R2 := fun x y H Q => ∃ a b xs ys, x = .ref a ∧ y = .ref b ∧ SqT K H a xs ∧ SqT K H b ys ∧ xs ≠ [] ∧ xs.length + ys.length ≤ sizeLine ∧
  (ys = [] → Q (.ref a) H) ∧ (ys ≠ [] → ∀ p, H p = none → Q (.ref p) (upd H p (.tup (xs ++ ys))))
theorem Vals.nil_iff {xs : List V} {us : List Value} (r : Vals xs us) : us = [] ↔ xs = [] := by
  cases r with
  | nil => simp
  | cons _ _ => simp
theorem op_catT : OpR X (binaryOp .Add) (rCatT X.K) := by
  intro pins s σ H x y v u Q I rx ry h
  obtain ⟨a, b, xs, ys, rfl, rfl, ha, hb, hx, hz, q1, q2⟩ := h
  cases rx
  cases ry
  obtain ⟨its, r1, p1, _⟩ := I.tuple ha
  obtain ⟨its2, r2, p2, _⟩ := I.tuple hb
  refine HT.cat_tup p1 p2 (fun z => hx (r1.nil_iff.mp z)) (fun z => ⟨.ref a, H, I, rfl, q1 (r2.nil_iff.mp z)⟩) (fun z => ?_) (by rw [← r1.length, ← r2.length]; exact hz)
  refine ⟨.ref s.heap.objs.size, _, I.laid (t' := s.toks) (o := .tup (xs ++ ys)) (fun b ob q => Heap.get?_push_of_some _ q) (Nat.le_refl _) ?_, rfl, q2 (fun w => z (r2.nil_iff.mpr w)) _ (I.hok.fresh (Nat.le_refl _))⟩
  exact ⟨by rw [List.length_append]; exact hz, _, r1.append r2, IsTup.new _ _⟩
end
end L2

namespace L2
open PySem PySem.Spec PyProof.Rows

noncomputable def ixN (n : Nat) (i : Int) : Option Nat := if 0 ≤ i then (if i < n then some i.toNat else none) else if -(n : Int) ≤ i then some (i + n).toNat else none
noncomputable def atI {α : Type} (xs : List α) (i : Int) : Option α := (ixN xs.length i).bind fun j => xs[j]?
theorem ixN_seq {n : Nat} {i : Int} {j : Nat} (h : ixN n i = some j) : seqIndex? i n = some j ∧ j < n ∧ -(n : Int) ≤ i ∧ i < n := by
  unfold ixN at h
  by_cases h0 : 0 ≤ i
  · rw [if_pos h0] at h
    by_cases h1 : i < n
    · rw [if_pos h1] at h
      have e : i.toNat = j := Option.some.inj h
      exact ⟨by rw [seqIndex_of h0 h1, e], by omega, by omega, h1⟩
    · rw [if_neg h1] at h; cases h
  · rw [if_neg h0] at h
    by_cases h1 : -(n : Int) ≤ i
    · rw [if_pos h1] at h
      have e : (i + n).toNat = j := Option.some.inj h
      exact ⟨by rw [seqIndex_neg (by omega) h1, e], by omega, h1, by omega⟩
    · rw [if_neg h1] at h; cases h
theorem atI_get {α : Type} {xs : List α} {i : Int} {v : α} (h : atI xs i = some v) : ∃ j, seqIndex? i xs.length = some j ∧ xs[j]? = some v ∧ j < xs.length ∧ -(xs.length : Int) ≤ i ∧ i < xs.length := by
  unfold atI at h
  cases e : ixN xs.length i with
  | none => rw [e] at h; cases h
  | some j =>
    rw [e] at h
    obtain ⟨h1, h2, h3, h4⟩ := ixN_seq e
    exact ⟨j, h1, h, h2, h3, h4⟩
theorem atI_nat {α : Type} {xs : List α} {j : Nat} {v : α} (h : xs[j]? = some v) : atI xs (j : Int) = some v := by
  have hj : j < xs.length := (List.getElem?_eq_some_iff.mp h).1
  have e : ixN xs.length (j : Int) = some j := by
    unfold ixN
    rw [if_pos (by omega), if_pos (by omega)]; simp
  unfold atI; rw [e]; exact h
theorem atI_last {α : Type} (xs : List α) (v : α) : atI (xs ++ [v]) (-1) = some v := by
  have hl : (xs ++ [v]).length = xs.length + 1 := by simp
  have e : ixN (xs ++ [v]).length (-1) = some xs.length := by
    unfold ixN
    rw [hl, if_neg (by decide), if_pos (by omega)]
    congr 1
    omega
  unfold atI
  rw [e]
  show (xs ++ [v])[xs.length]? = some v
  simp

noncomputable def PlainIx (b : Expr) : Prop := ∀ o i, subscripted b false o i = operate [o, i] (getItem o i)
noncomputable def IxR (X : Cx) (r : R2) : Prop :=
  ∀ (value slice : Expr) (pins : List (Addr × Obj)) (s : Shared) (σ : St) (H : Hp) (x y : V) (v u : Value) (Q : VK), Inv X pins σ H s → RelV x v → RelV y u → r x y H Q →
    subscripted slice false v u = operate [v, u] (getItem v u) → wpAny (model X.prog X.w) X.A (subscriptTail value slice v u) (EP X pins σ Q) X.xe s
noncomputable def MtR (X : Cx) (id : String) (r : V → List V → Hp → VK → Prop) : Prop :=
  ∀ (pins : List (Addr × Obj)) (s : Shared) (σ : St) (H : Hp) (x : V) (xs : List V) (v : Value) (us : List Value) (Q : VK), Inv X pins σ H s → RelV x v → Vals xs us → r x xs H Q →
    wpAny (model X.prog X.w) X.A (call (.builtin id) (v :: us)) (EP X pins σ Q) X.xe s
section
variable {X : Cx} {a b : Expr} {ta tb : TE} {pos : Pos}
theorem IxR.or {r r' : R2} (h : IxR X r) (h' : IxR X r') : IxR X (fun x y H Q => r x y H Q ∨ r' x y H Q) := by
  intro value slice pins s σ H x y v u Q I rx ry q hs
  rcases q with q | q
  · exact h value slice pins s σ H x y v u Q I rx ry q hs
  · exact h' value slice pins s σ H x y v u Q I rx ry q hs
theorem pe_ix {r : R2} (hr : IxR X r) (ha : PE X a ta) (hb : PE X b tb) (hs : PlainIx b) : PE X (.Subscript a b pos) (tOp r ta tb) := by
  intro pins s σ H Q I h
  exact Subscript_ (binT ha hb I h fun v u s2 x y H2 I2 rx ry q => hr a b pins s2 σ H2 x y v u Q I2 rx ry q (hs _ _))

noncomputable def rIxL (K : PySem.W.Frag) : R2 := fun x y H Q => ∃ p xs i v, x = .ref p ∧ y = .int i ∧ SqL K H p xs ∧ atI xs i = some v ∧ Q v H
noncomputable def rIxT (K : PySem.W.Frag) : R2 := fun x y H Q => ∃ p xs i v, x = .ref p ∧ y = .int i ∧ SqT K H p xs ∧ atI xs i = some v ∧ Q v H
noncomputable def rIxS : R2 := fun x y H Q => ∃ z i c, x = .str z ∧ y = .int i ∧ z.length ≤ sizeLine ∧ atI z.cps.toList i = some c ∧ Q (.str ⟨#[c]⟩) H
theorem ix_list : IxR X (rIxL X.K) := by
  intro value slice pins s σ H x y v u Q I rx ry h hs
  obtain ⟨p, xs, i, z, rfl, rfl, hq, he, q⟩ := h
  cases rx
  obtain ⟨t, rfl⟩ := ry
  obtain ⟨its, r, pl, hz⟩ := I.list hq
  obtain ⟨j, h1, h2, h3, h4, h5⟩ := atI_get he
  obtain ⟨w, ew, rw'⟩ := r.get h2
  have hl := r.length
  have hn := line63
  have fin : EP X pins σ Q w s := ⟨z, H, I, rw', q⟩
  by_cases h0 : 0 ≤ i
  · have hj : i.toNat = j := by
      rw [seqIndex_of h0 h5] at h1
      exact Option.some.inj h1
    exact item_listR pl.isList h0 (by omega) (by rw [hj]; simpa using ew) fin hs
  · have hj : (i + (its.toArray.size : Int)).toNat = j := by
      rw [seqIndex_neg (by omega) h4] at h1
      rw [List.size_toArray, ← hl]
      exact Option.some.inj h1
    exact subscriptTail_builtinR (x := w) pl.isList.typeIs slot_list_getitem.lookup
      (wpAny_getItem_list_neg (Q := fun r s' => r = w ∧ EP X pins σ Q r s') pl.isList (by omega) (by rw [List.size_toArray] <;> omega) (by omega) (by rw [hj]; simpa using ew) ⟨rfl, fin⟩) hs
theorem ix_tup : IxR X (rIxT X.K) := by
  intro value slice pins s σ H x y v u Q I rx ry h hs
  obtain ⟨p, xs, i, z, rfl, rfl, hq, he, q⟩ := h
  cases rx
  obtain ⟨t, rfl⟩ := ry
  obtain ⟨its, r, pl, hz⟩ := I.tuple hq
  obtain ⟨j, h1, h2, h3, h4, h5⟩ := atI_get he
  obtain ⟨w, ew, rw'⟩ := r.get h2
  have hl := r.length
  have hn := line63
  have fin : EP X pins σ Q w s := ⟨z, H, I, rw', q⟩
  exact subscriptTail_builtinR (x := w) pl.typeIs slot_tuple_getitem.lookup
    (getItem_tuple (j := j) (Q := fun r s' => r = w ∧ EP X pins σ Q r s') pl (by omega) (by omega) (by rw [List.size_toArray, ← hl]; exact h1) (by simpa using ew) ⟨rfl, fin⟩) hs
theorem ix_str : IxR X rIxS := by
  intro value slice pins s σ H x y v u Q I rx ry h hs
  obtain ⟨z, i, c, rfl, rfl, hz, he, q⟩ := h
  obtain ⟨t, rfl⟩ := rx
  obtain ⟨t', rfl⟩ := ry
  obtain ⟨j, h1, h2, h3, h4, h5⟩ := atI_get he
  have hl : z.cps.toList.length = z.length := by simp [Str.length]
  rw [hl] at h1 h4 h5
  have hn := line63
  exact tail_any (typeIs_str s z t) slot_str_getitem.lookup (getItem_str (c := c) (by
    have e1 : decide (i < -(2 ^ 63 : Int)) = false := decide_eq_false (by omega)
    have e2 : decide (i ≥ 2 ^ 63) = false := decide_eq_false (by omega)
    rw [e1, e2, Bool.or_false]) (by rw [h1]; simpa using h2) ⟨.str ⟨#[c]⟩, H, I.tok _, ⟨_, rfl⟩, q⟩) hs
noncomputable def rIx (K : PySem.W.Frag) : R2 := fun x y H Q => rIxL K x y H Q ∨ rIxT K x y H Q ∨ rIxS x y H Q
theorem ix_seq : IxR X (rIx X.K) := ix_list.or (ix_tup.or ix_str)

theorem slice_bounds (lo hi : Option Int) (n : Nat) : (sliceBounds lo hi none n).1 = ((HT.sIx n 0 lo : Nat) : Int) ∧ (sliceBounds lo hi none n).2.1 = ((HT.sIx n n hi : Nat) : Int) ∧ (sliceBounds lo hi none n).2.2 = 1 := by
  refine ⟨?_, ?_, rfl⟩
  · cases lo with
    | none => simp [sliceBounds, HT.sIx]
    | some i =>
      simp only [sliceBounds, HT.sIx, Option.getD_none, show (1 : Int) > 0 by decide, if_true]
      by_cases h : i < 0
      · simp only [h, if_true] <;> omega
      · simp only [h, if_false] <;> omega
  · cases hi with
    | none => simp [sliceBounds, HT.sIx]
    | some i =>
      simp only [sliceBounds, HT.sIx, Option.getD_none, show (1 : Int) > 0 by decide, if_true]
      by_cases h : i < 0
      · simp only [h, if_true] <;> omega
      · simp only [h, if_false] <;> omega
theorem slicePick_cut (its : List Value) (lo hi : Option Int) : slicePick its.toArray lo hi none = ((its.drop (HT.sIx its.length 0 lo)).take (HT.sIx its.length its.length hi - HT.sIx its.length 0 lo)).toArray := by
  obtain ⟨h1, h2, h3⟩ := slice_bounds lo hi its.toArray.size
  unfold slicePick
  rw [h1, h2, h3]
  simp only [sliceRange_one, pick_run, List.size_toArray] <;> rfl
noncomputable def rSlL (K : PySem.W.Frag) : V → Option Int → Option Int → Hp → VK → Prop := fun x lo hi H Q => ∃ a xs, x = .ref a ∧ SqL K H a xs ∧ ∀ p, H p = none → Q (.ref p) (upd H p (.lst (cutV xs lo hi)))
theorem sl_list : SlR X (rSlL X.K) := by
  intro pins s σ H x v vl vu lo hi sl Q I rx hs pl pu h
  obtain ⟨a, xs, rfl, hx, q⟩ := h
  cases rx
  obtain ⟨its, r, ht, hz⟩ := I.list hx
  have hlen := r.length
  refine ⟨"list", _, slot_list_getitem.lookup, ht.isList.typeIs, ?_⟩
  refine wpAny_getItem_list_slice ht.isList hs pl pu .none (by simp) ?_ (by rw [List.size_toArray] <;> omega)
  rw [slicePick_cut, ← hlen]
  refine ⟨.ref s.heap.objs.size, _, I.laid (t' := s.toks) (o := .lst (cutV xs lo hi)) (fun b ob q => Heap.get?_push_of_some _ q) (Nat.le_refl _) ?_, rfl, q _ (I.hok.fresh (Nat.le_refl _))⟩
  exact ⟨Nat.le_trans (cutV_length xs lo hi) hz, _, 0, (r.drop (HT.sIx xs.length 0 lo)).take (HT.sIx xs.length xs.length hi - HT.sIx xs.length 0 lo), Heap.get?_push_size _ rfl⟩

theorem CallR.or {f : Value} {r r' : List V → Hp → VK → Prop} (h : CallR X f r) (h' : CallR X f r') : CallR X f (fun xs H Q => r xs H Q ∨ r' xs H Q) := by
  intro pins s σ H xs us Q I rs q
  rcases q with q | q
  · exact h pins s σ H xs us Q I rs q
  · exact h' pins s σ H xs us Q I rs q
theorem call_tuple_of : CallR X (.type "tuple") (fun xs H Q => ∃ p ys, xs = [.ref p] ∧ ((SqL X.K H p ys ∧ ∀ l, H l = none → Q (.ref l) (upd H l (.tup ys))) ∨ (SqT X.K H p ys ∧ Q (.ref p) H))) := by
  intro pins s σ H xs us Q I r h
  obtain ⟨p, ys, rfl, h⟩ := h
  obtain ⟨u, rfl, rx⟩ := vals1 r
  cases rx
  rcases h with ⟨hq, q⟩ | ⟨hq, q⟩
  · obtain ⟨its, r', pl, hz⟩ := I.list hq
    have hlen := r'.length
    refine call_tuple_list pl.isList (fun h' kp => ?_) (by simp only [List.size_toArray] <;> omega)
    have I1 : Inv X pins σ H { s with heap := h' } := I.kept (t' := s.toks) kp
    have I2 : Inv X pins σ (upd H h'.objs.size (.tup ys)) { s with heap := h'.push { cls := .type "tuple", data := .seq its.toArray } } :=
      I1.laid (t' := s.toks) (fun b o e => Heap.get?_push_of_some _ e) (Nat.le_refl _) (show ObjOk X.prog X.w _ _ _ (.tup ys) from ⟨hz, its, r', IsTup.new _ _⟩)
    exact ⟨.ref h'.objs.size, _, I2, rfl, q _ (I1.hok.fresh (Nat.le_refl _))⟩
  · obtain ⟨its, r', pl, hz⟩ := I.tuple hq
    exact call_tuple_same pl ⟨.ref p, H, I, rfl, q⟩

noncomputable def tyV (K : PySem.W.Frag) (T : String) (x : V) (H : Hp) : Prop := match x with
  | .str _ => T = "str"
  | .int _ => T = "int"
  | .ref p => (T = "list" ∧ ∃ xs, SqL K H p xs) ∨ (T = "tuple" ∧ ∃ o, K.lookup p = some o ∧ o.cls = .type "tuple" ∧ o.dict = none) ∨
      (T = "dict" ∧ ((∃ kvs, H p = some (.dK kvs)) ∨ ∃ kvs, H p = some (.dT kvs))) ∨ (T = "set" ∧ ∃ S n, H p = some (.set S n))
  | _ => False
theorem tyV_is {pins : List (Addr × Obj)} {σ : St} {H : Hp} {s : Shared} {T : String} {x : V} {v : Value} (I : Inv X pins σ H s) (r : RelV x v) (ty : tyV X.K T x H) :
    s.TypeIs v T ∧ ∀ a, v = .ref a → ∃ ob, s.heap.get? a = some ob ∧ ob.dict = none := by
  cases x with
  | str z =>
    obtain ⟨t, rfl⟩ := r
    cases (show T = "str" from ty)
    exact ⟨typeIs_str s z t, fun _ e => nomatch e⟩
  | int i =>
    obtain ⟨t, rfl⟩ := r
    cases (show T = "int" from ty)
    exact ⟨typeIs_int s i t, fun _ e => nomatch e⟩
  | ref p =>
    cases r
    rcases ty with ⟨rfl, xs, hq⟩ | ⟨rfl, o, hk, hc, hd⟩ | ⟨rfl, hk⟩ | ⟨rfl, S, n, hk⟩
    · obtain ⟨its, _, pl, _⟩ := I.list hq
      refine ⟨pl.isList.typeIs, fun a e => ?_⟩
      cases e
      obtain ⟨o, n, e, c, hd, _⟩ := pl
      exact ⟨o, e, hd⟩
    · refine ⟨⟨o, I.kIn p o hk, hc⟩, fun a e => ?_⟩
      cases e
      exact ⟨o, I.kIn _ o hk, hd⟩
    · have z : ∃ o, s.heap.get? p = some o ∧ o.ExactDict := by
        rcases hk with ⟨kvs, hk⟩ | ⟨kvs, hk⟩
        · obtain ⟨_, _, _, _, o, _, _, e, ex, _⟩ := I.hok p _ hk
          exact ⟨o, e, ex⟩
        · obtain ⟨_, _, _, _, o, _, _, e, ex, _⟩ := I.hok p _ hk
          exact ⟨o, e, ex⟩
      obtain ⟨o, e, ex⟩ := z
      refine ⟨⟨o, e, ex.1⟩, fun a e2 => ?_⟩
      cases e2
      exact ⟨o, e, ex.2.1⟩
    · obtain ⟨o, _, _, _, e, ex, _⟩ := I.hok p _ hk
      refine ⟨⟨o, e, ex.1⟩, fun a e2 => ?_⟩
      cases e2
      exact ⟨o, e, ex.2.1⟩
  | _ => exact False.elim ty
noncomputable def tBM (K : PySem.W.Frag) (T : String) (r : V → List V → Hp → VK → Prop) (to : TE) (t : TA) : TE := fun σ H Q => to σ H fun x H1 => tyV K T x H1 ∧ t σ H1 fun xs H2 => r x xs H2 Q
variable {o e : Expr} {es : List Expr} {to : TE} {t : TA} {name : Str} {apos cpos : Pos} {T id : String} {r : V → List V → Hp → VK → Prop}
theorem pe_bm (pa : PlainAttrs T) (slot : Slot T name id) (hty : typeOf (.builtin id) = pure (.type "method_descriptor")) (hm : MtR X id r) (ho : PE X o to) (ha : PA X (e :: es) t)
    (hbase : attributeBase o name X.env (eval o X.env) = eval o X.env := by rfl)
    (hfew : ((backTo cpos (starEach (e :: es) X.env)).all (fun x => !x.1) && (backToKw cpos (keywordEach [] X.env)).all (fun x => x.1.isSome)
      && decide ((e :: es).length + ([] : List Keyword).length + (if ([] : List Keyword).isEmpty then 0 else 1) < 30)) = true := by rfl)
    (hline : (apos.endLine == cpos.line) = true := by rfl) (hs : starEach (e :: es) X.env = (false, eval e X.env) :: starEach es X.env := by rfl) (hplain : (backTo cpos (starEach es X.env)).any (·.1) = false := by rfl) :
    PE X (.Call (.Attribute o name apos) (e :: es) [] cpos) (tBM X.K T r to t) := by
  intro pins s σ H Q I h
  refine wpAny_Call_method_late hbase hfew hline rfl (thn (ho pins s σ H _ I h) fun v s1 ⟨x, H1, I1, r1, ty, q1⟩ => ?_)
  obtain ⟨h1, h2⟩ := tyV_is I1 r1 ty
  refine ⟨T, id, pa, slot, hty, h1, h2, ?_⟩
  have hA := ha cpos pins s1 σ H1 _ I1 q1
  rw [hs] at hA ⊢
  refine Calls.callWith_builtin (by show (false || (backTo cpos (starEach es X.env)).any (·.1)) = false; rw [hplain] <;> rfl) (Calls.evalArgs_plain ?_)
  exact thn hA fun us s2 ⟨vs, H2, I2, r2, q2⟩ => hm pins s2 σ H2 x vs v us Q I2 r1 r2 q2
end
end L2

namespace L2
open PySem PySem.Spec PyProof.Rows

noncomputable def MtM (X : Cx) (id : String) (r : V → List V → Hp → VK → Prop) : Prop :=
  ∀ (pins : List (Addr × Obj)) (s : Shared) (σ : St) (H : Hp) (x : V) (xs : List V) (v : Value) (us : List Value) (Q : VK), Inv X pins σ H s → RelV x v → Vals xs us → r x xs H Q →
    wpAny (model X.prog X.w) X.A (call (.builtin id) (v :: us)) (EP X pins σ Q) X.xe s

theorem Vals.one : ∀ {x : V} {us : List Value}, Vals [x] us → ∃ u, us = [u] ∧ RelV x u
  | _, _, .cons r .nil => ⟨_, rfl, r⟩
theorem Vals.rep {xs : List V} {us : List Value} (h : Vals xs us) : ∀ k : Nat, Vals (List.replicate k xs).flatten (List.replicate k us).flatten
  | 0 => .nil
  | k + 1 => by
    rw [List.replicate_succ, List.replicate_succ, List.flatten_cons, List.flatten_cons]
    exact Vals.append h (Vals.rep h k)
theorem foldl_rep (its : List Value) : ∀ (k : Nat) (acc : List Value),
    List.foldl (fun x1 x2 => x1 ++ x2) acc.toArray (List.replicate k its.toArray) = (acc ++ (List.replicate k its).flatten).toArray
  | 0, acc => by simp
  | k + 1, acc => by
    have e : acc.toArray ++ its.toArray = (acc ++ its).toArray := by simp
    have e2 : (acc ++ its) ++ (List.replicate k its).flatten = acc ++ (List.replicate (k + 1) its).flatten := by
      rw [List.replicate_succ, List.flatten_cons, List.append_assoc]
    rw [← e2, ← foldl_rep its k (acc ++ its), ← e, List.replicate_succ, List.foldl_cons]

section
variable {X : Cx} {pins : List (Addr × Obj)} {σ : St} {H : Hp} {s : Shared} {l b : Addr} {xs ys zs : List V}

theorem Inv.lset {its its' : List Value} {n : Nat} {f : Array Value → Array Value} {t' : Nat} (I : Inv X pins σ H s) (hH : H l = some (.lst xs))
    (e : s.heap.get? l = some { cls := .type "list", data := .seq its.toArray n }) (hf : f its.toArray = its'.toArray) (hv : Vals ys its') (hz : ys.length ≤ sizeLine) :
    Inv X pins σ (upd H l (.lst ys)) { s with heap := s.heap.update l (Obj.mapSeq f), toks := t' } := by
  have q := PySem.IsL.update e f
  rw [hf] at q
  refine I.write (x := l) (e := l) (by rw [hH]; exact trivial) (.inl rfl) (fun b' u hb hu => (Heap.get?_update_other s.heap (Obj.mapSeq f) (Ne.symm hb)).trans hu) ⟨_, q⟩ ?_
  exact ⟨hz, its', _, hv, q⟩
theorem Inv.lnew {its : List Value} {t' : Nat} (I : Inv X pins σ H s) (hv : Vals ys its) (hz : ys.length ≤ sizeLine) :
    Inv X pins σ (upd H s.heap.objs.size (.lst ys)) { s with heap := s.heap.push { cls := .type "list", data := .seq its.toArray }, toks := t' } :=
  I.laid (fun _ _ q => Heap.get?_push_of_some _ q) (Nat.le_refl _) ⟨hz, its, 0, hv, Heap.get?_push_size _ rfl⟩
theorem Inv.fresh (I : Inv X pins σ H s) : H s.heap.objs.size = none := I.hok.fresh (Nat.le_refl _)
theorem Inv.lstM (I : Inv X pins σ H s) (hH : H l = some (.lst xs)) : xs.length ≤ sizeLine ∧ ∃ (its : List Value) (n : Nat), Vals xs its ∧ xs.length = its.length ∧ s.heap.get? l = some { cls := .type "list", data := .seq its.toArray n } := by
  obtain ⟨z, its, n, r, e⟩ := I.hok l _ hH
  exact ⟨z, its, n, r, r.length, e⟩

end

section
variable {X : Cx}

noncomputable def rAppend : V → List V → Hp → VK → Prop := fun x vs H Q => ∃ l xs y, x = .ref l ∧ vs = [y] ∧ H l = some (.lst xs) ∧ xs.length < sizeLine ∧ Q .non (upd H l (.lst (xs ++ [y])))
theorem mt_append : MtM X "list.append" rAppend := by
  intro pins s σ H x vs v us Q I rx rv h
  obtain ⟨l, xs, y, rfl, rfl, hH, hz, q⟩ := h
  cases rx
  obtain ⟨u, rfl, ru⟩ := rv.one
  obtain ⟨z, its, n, r, hl, e⟩ := I.lstM hH
  refine call_meets F.slot_list_append ⟨_, e, rfl⟩ F.entry_list_append (F.args_list_append_2 _ _) (PySem.list_append l its.toArray n u (by rw [List.size_toArray]; omega)) ⟨e, ?_⟩
  refine ⟨.non, _, I.lset (its' := its ++ [u]) hH e (by simp) (r.append (.cons ru .nil)) ?_, rfl, q⟩
  rw [List.length_append, List.length_singleton]
  omega

noncomputable def rCat : R2 := fun x y H Q => ∃ l b xs zs, x = .ref l ∧ y = .ref b ∧ H l = some (.lst xs) ∧ H b = some (.lst zs) ∧ xs.length + zs.length ≤ sizeLine ∧ ∀ p, H p = none → Q (.ref p) (upd H p (.lst (xs ++ zs)))
theorem op_cat : OpR X (binaryOp .Add) rCat := by
  intro pins s σ H x y v u Q I rx ry h
  obtain ⟨l, b, xs, zs, rfl, rfl, hH, hB, hz, q⟩ := h
  cases rx
  cases ry
  obtain ⟨z, its, n, r, hl, e⟩ := I.lstM hH
  obtain ⟨z2, its2, n2, r2, hl2, e2⟩ := I.lstM hB
  refine PySem.P.add_list e e2 ?_ (by rw [List.size_toArray, List.size_toArray]; omega)
  have ea : its.toArray ++ its2.toArray = (its ++ its2).toArray := by simp
  rw [ea]
  exact ⟨.ref _, _, I.lnew (t' := s.toks) (r.append r2) (by rw [List.length_append]; omega), rfl, q _ I.fresh⟩
theorem len_rep {α : Type} (xs : List α) (k : Nat) : (List.replicate k xs).flatten.length = k * xs.length := by
  induction k with
  | zero => simp
  | succ k ih => rw [List.replicate_succ, List.flatten_cons, List.length_append, ih, Nat.succ_mul, Nat.add_comm]
end

section
variable {prog : Program} {w : World} {A : Around} {E : Value → Shared → Prop} {s : Shared}
set_option maxRecDepth 100000 in
end

section
variable {X : Cx}
end
end L2

namespace L2
open PySem PySem.Spec PyProof.Rows

section
variable {κ : Type} [DecidableEq κ]
noncomputable def valV (kvs : List (κ × V)) (k : κ) : Option V := (kvs.find? fun kv => decide (kv.1 = k)).map (·.2)
noncomputable def putK (kvs : List (κ × V)) (k : κ) (v : V) : List (κ × V) :=
  if (kvs.any fun kv => decide (kv.1 = k)) = true then kvs.map (fun kv => if kv.1 = k then (kv.1, v) else kv) else kvs ++ [(k, v)]
theorem valV_pos {p : κ × V} {r : List (κ × V)} {k : κ} (e : p.1 = k) : valV (p :: r) k = some p.2 := by simp [valV, List.find?_cons, e]
theorem valV_neg {p : κ × V} {r : List (κ × V)} {k : κ} (e : ¬ p.1 = k) : valV (p :: r) k = valV r k := by simp [valV, List.find?_cons, e]
theorem valV_any (k : κ) : ∀ kvs : List (κ × V), (kvs.any fun kv => decide (kv.1 = k)) = (valV kvs k).isSome
  | [] => rfl
  | p :: r => by
    rw [List.any_cons]
    by_cases e : p.1 = k
    · simp only [valV_pos e, decide_eq_true e, Bool.true_or, Option.isSome_some]
    · rw [valV_neg e, decide_eq_false e, Bool.false_or]; exact valV_any k r
theorem valV_map (k j : κ) (y : V) : ∀ kvs : List (κ × V), valV (kvs.map fun kv => if kv.1 = k then (kv.1, y) else kv) j = (valV kvs j).map fun x => if j = k then y else x
  | [] => rfl
  | p :: r => by
    have ih := valV_map k j y r
    rw [List.map_cons]
    by_cases h : p.1 = k
    · rw [if_pos h]
      by_cases e : p.1 = j
      · rw [valV_pos (p := (p.1, y)) e, valV_pos e, Option.map_some, if_pos (e.symm.trans h)]
      · rw [valV_neg (p := (p.1, y)) e, valV_neg e, ih]
    · rw [if_neg h]
      by_cases e : p.1 = j
      · rw [valV_pos (p := p) e, valV_pos e, Option.map_some, if_neg (fun z => h (e.trans z))]
      · rw [valV_neg (p := p) e, valV_neg e, ih]
theorem valV_snoc (k j : κ) (y : V) : ∀ kvs : List (κ × V), valV kvs k = none → valV (kvs ++ [(k, y)]) j = if j = k then some y else valV kvs j
  | [], _ => by
    by_cases e : k = j
    · rw [if_pos e.symm]; exact valV_pos (p := (k, y)) e
    · rw [if_neg (fun z => e z.symm)]; exact valV_neg (p := (k, y)) e
  | p :: r, hn => by
    rw [List.cons_append]
    have hk : ¬ p.1 = k := fun z => by rw [valV_pos z] at hn; cases hn
    rw [valV_neg hk] at hn
    have ih := valV_snoc k j y r hn
    by_cases e : p.1 = j
    · rw [valV_pos e, valV_pos e, if_neg (fun z => hk (e.trans z))]
    · rw [valV_neg e, valV_neg e, ih]
theorem valV_put (kvs : List (κ × V)) (k j : κ) (y : V) : valV (putK kvs k y) j = if j = k then some y else valV kvs j := by
  unfold putK
  by_cases a : (kvs.any fun kv => decide (kv.1 = k)) = true
  · rw [if_pos a, valV_map]
    rw [valV_any] at a
    by_cases e : j = k
    · obtain ⟨x, hx⟩ := Option.isSome_iff_exists.mp a
      rw [if_pos e, e, hx, Option.map_some, if_pos rfl]
    · rw [if_neg e]
      cases valV kvs j with
      | none => rfl
      | some x => rw [Option.map_some, if_neg e]
  · rw [if_neg a]
    refine valV_snoc k j y kvs ?_
    rw [valV_any] at a
    cases q : valV kvs k with
    | none => rfl
    | some x => rw [q] at a; exact (a rfl).elim
theorem length_putK (kvs : List (κ × V)) (k : κ) (v : V) : (putK kvs k v).length ≤ kvs.length + 1 := by
  unfold putK
  split
  · rw [List.length_map]; omega
  · rw [List.length_append, List.length_cons, List.length_nil]; omega
theorem putK_new {kvs : List (κ × V)} {k : κ} (v : V) (h : valV kvs k = none) : putK kvs k v = kvs ++ [(k, v)] := by
  unfold putK
  rw [valV_any, h]
  exact if_neg (by decide)

theorem RelO.isSome_eq {o : Option V} {u : Option Value} (r : RelO o u) : o.isSome = u.isSome := by
  cases o with
  | none => cases u with
    | none => rfl
    | some _ => exact (show False from r).elim
  | some _ => cases u with
    | none => exact (show False from r).elim
    | some _ => rfl
theorem KV.val {kvs : List (κ × V)} {vs : List (κ × Value)} (r : KV kvs vs) (k : κ) : RelO (valV kvs k) (valueAt vs k) := by
  unfold KV at r
  induction r with
  | nil => exact True.intro
  | @cons p q ps qs h t ih =>
    obtain ⟨h1, h2⟩ := h
    by_cases e : p.1 = k
    · have e' : q.1 = k := h1.symm.trans e
      have b : valueAt (q :: qs) k = some q.2 := by simp [valueAt, List.find?_cons, e']
      rw [valV_pos e, b]; exact h2
    · have e' : ¬ q.1 = k := fun z => e (h1.trans z)
      have b : valueAt (q :: qs) k = valueAt qs k := by simp [valueAt, List.find?_cons, e']
      rw [valV_neg e, b]; exact ih
theorem KV.any {kvs : List (κ × V)} {vs : List (κ × Value)} (r : KV kvs vs) (k : κ) : (kvs.any fun kv => decide (kv.1 = k)) = vs.any fun kv => decide (kv.1 = k) := by
  unfold KV at r
  induction r with
  | nil => rfl
  | cons h t ih => rw [List.any_cons, List.any_cons, ih, h.1]
theorem KV.repl {kvs : List (κ × V)} {vs : List (κ × Value)} (r : KV kvs vs) (k : κ) {y : V} {u : Value} (ry : RelV y u) :
    KV (kvs.map fun kv => if kv.1 = k then (kv.1, y) else kv) (vs.map fun kv => if kv.1 = k then (kv.1, u) else kv) := by
  unfold KV at r ⊢
  induction r with
  | nil => exact .nil
  | @cons p q ps qs h t ih =>
    rw [List.map_cons, List.map_cons]
    refine .cons ?_ ih
    obtain ⟨h1, h2⟩ := h
    by_cases e : p.1 = k
    · rw [if_pos e, if_pos (h1.symm.trans e)]; exact ⟨h1, ry⟩
    · rw [if_neg e, if_neg (fun z => e (h1.trans z))]; exact ⟨h1, h2⟩
theorem KV.put {kvs : List (κ × V)} {vs : List (κ × Value)} (r : KV kvs vs) (k : κ) {y : V} {u : Value} (ry : RelV y u) : KV (putK kvs k y) (stored vs k u) := by
  unfold putK stored
  rw [r.any k]
  by_cases e : (vs.any fun kv => decide (kv.1 = k)) = true
  · rw [if_pos e, if_pos e]; exact r.repl k ry
  · rw [if_neg e, if_neg e]; exact Paired.snoc r ⟨rfl, ry⟩
theorem KV.length {kvs : List (κ × V)} {vs : List (κ × Value)} (r : KV kvs vs) : kvs.length = vs.length := Paired.length r
end


theorem kV_is {P : Program} {w : World} {k : Key} {u : Value} (r : RelV (kV k) u) : (mixKind P w).is k u = true := by
  cases k with
  | inl i => obtain ⟨t, e⟩ := (show ∃ t, u = Value.int i t from r); subst e; exact mixKind_int P w i t
  | inr x => obtain ⟨t, e⟩ := (show ∃ t, u = Value.str x t from r); subst e; exact mixKind_str P w x t
theorem kV_inj {a b : Key} (e : kV a = kV b) : a = b := by
  cases a with
  | inl i => cases b with
    | inl j => have e' : V.int i = V.int j := e; injection e' with e'; rw [e']
    | inr y => exact nomatch (show V.int i = V.str y from e)
  | inr x => cases b with
    | inl j => exact nomatch (show V.str x = V.int j from e)
    | inr y => have e' : V.str x = V.str y := e; injection e' with e'; rw [e']
theorem kVs_inj : ∀ {a b : List Key}, a.map kV = b.map kV → a = b
  | [], [], _ => rfl
  | [], _ :: _, e => by simp at e
  | _ :: _, [], e => by simp at e
  | x :: xs, y :: ys, e => by
    rw [List.map_cons, List.map_cons] at e
    injection e with e1 e2
    rw [kV_inj e1, kVs_inj e2]
theorem items_are {P : Program} {w : World} : ∀ {ks : List Key} {us : List Value}, Vals (ks.map kV) us → ItemsAre (mixKind P w) ks us
  | [], _, r => by rw [List.map_nil] at r; cases r; exact .nil
  | k :: ks, _, r => by
    rw [List.map_cons] at r
    cases r with
    | cons h t => exact .cons (kV_is h) (items_are t)

noncomputable abbrev KT (H : Hp) : List (List Key × V) → List (List Key × Addr × Value) → Prop := Paired fun p q => p.1 = q.1 ∧ H q.2.1 = some (.tup (p.1.map kV)) ∧ RelV p.2 q.2.2
theorem KT.val {H : Hp} {kvs : List (List Key × V)} {xs : List (List Key × Addr × Value)} (r : KT H kvs xs) (k : List Key) : RelO (valV kvs k) ((atKey xs k).map (·.2)) := by
  induction r with
  | nil => exact True.intro
  | @cons p q ps qs h t ih =>
    obtain ⟨h1, _, h2⟩ := h
    by_cases e : p.1 = k
    · have e' : q.1 = k := h1.symm.trans e
      have b : atKey (q :: qs) k = some q.2 := by simp [atKey, List.find?_cons, e']
      rw [valV_pos e, b]; exact h2
    · have e' : ¬ q.1 = k := fun z => e (h1.trans z)
      have b : atKey (q :: qs) k = atKey qs k := by simp [atKey, List.find?_cons, e']
      rw [valV_neg e, b]; exact ih
theorem KT.repl {H : Hp} {kvs : List (List Key × V)} {xs : List (List Key × Addr × Value)} (r : KT H kvs xs) (k : List Key) {y : V} {u : Value} (ry : RelV y u) :
    KT H (kvs.map fun kv => if kv.1 = k then (kv.1, y) else kv) (xs.map (putAt k u)) := by
  induction r with
  | nil => exact .nil
  | @cons p q ps qs h t ih =>
    rw [List.map_cons, List.map_cons]
    refine .cons ?_ ih
    obtain ⟨h1, h2, h3⟩ := h
    unfold putAt
    by_cases e : p.1 = k
    · rw [if_pos e, if_pos (h1.symm.trans e)]; exact ⟨h1, h2, ry⟩
    · rw [if_neg e, if_neg (fun z => e (h1.trans z))]; exact ⟨h1, h2, h3⟩
theorem KT.put {H : Hp} {kvs : List (List Key × V)} {xs : List (List Key × Addr × Value)} (r : KT H kvs xs) (k : List Key) {b : Addr} {y : V} {u : Value} (hb : H b = some (.tup (k.map kV))) (ry : RelV y u) :
    KT H (putK kvs k y) (storedH xs k b u) := by
  have e : (kvs.any fun kv => decide (kv.1 = k)) = (atKey xs k).isSome := by
    rw [valV_any, (r.val k).isSome_eq, Option.isSome_map]
  unfold putK storedH
  rw [e]
  by_cases q : (atKey xs k).isSome = true
  · rw [if_pos q, if_pos q]; exact r.repl k ry
  · rw [if_neg q, if_neg q]; exact Paired.snoc r ⟨rfl, hb, ry⟩
theorem KT.keeps {H H' : Hp} {kvs : List (List Key × V)} {xs : List (List Key × Addr × Value)} (r : KT H kvs xs) (ht : ∀ b ys, H b = some (.tup ys) → H' b = some (.tup ys)) : KT H' kvs xs :=
  Paired.mapP r fun _ _ z => ⟨z.1, ht _ _ z.2.1, z.2.2⟩

section
variable {P : Program} {w : World} {H : Hp} {h : Heap} {a : Addr}
theorem rd_of {u : HO} (ok : HOk P w H h) (e : Rd H a u) : ObjOk P w H h a u := e.ok ok
theorem dk_rd {kvs : List (Key × V)} (ok : HOk P w H h) (e : Rd H a (.dK kvs)) : kvs.length ≤ sizeLine ∧ (a == sysModules) = false ∧ ∃ vs, KV kvs vs ∧ h.DictOf (mixKind P w) a vs :=
  show ObjOk P w H h a (.dK kvs) from rd_of ok e
theorem dk_of {kvs : List (Key × V)} (ok : HOk P w H h) (e : H a = some (.dK kvs)) : kvs.length ≤ sizeLine ∧ (a == sysModules) = false ∧ ∃ vs, KV kvs vs ∧ h.DictOf (mixKind P w) a vs := dk_rd ok (.inl e)
theorem key_of {ks : List Key} (ok : HOk P w H h) (e : H a = some (.tup (ks.map kV))) : (tupleKind (mixKind P w)).is h ks a := by
  obtain ⟨_, its, r, o, h1, h2, n, h3⟩ := (show ObjOk P w H h a (.tup (ks.map kV)) from ok a _ e)
  exact ⟨o, its.toArray, n, h1, h2, h3, by simpa using items_are r⟩
theorem dt_rd {kvs : List (List Key × V)} (ok : HOk P w H h) (e : Rd H a (.dT kvs)) : kvs.length ≤ sizeLine ∧ (a == sysModules) = false ∧
    ∃ xs, KT H kvs xs ∧ h.DictOfH (tupleKind (mixKind P w)) a xs := by
  obtain ⟨z, y, xs, r, o, es, ep, h1, h2, h3, h4, h5⟩ := (show ObjOk P w H h a (.dT kvs) from rd_of ok e)
  refine ⟨z, y, xs, r, o, es, ep, h1, h2, h3, h4, fun x hx => ?_, h5⟩
  have all : ∀ {l : List (List Key × V)} {m : List (List Key × Addr × Value)}, KT H l m → ∀ x ∈ m, (tupleKind (mixKind P w)).is h x.1 x.2.1 := by
    intro l m q
    induction q with
    | nil => intro x hx; exact nomatch hx
    | @cons p q ps qs hq t ih =>
      intro x hx
      rcases List.mem_cons.mp hx with e | hx
      · subst e
        exact key_of ok (by rw [← hq.1]; exact hq.2.1)
      · exact ih x hx
  exact all r x hx
theorem dt_of {kvs : List (List Key × V)} (ok : HOk P w H h) (e : H a = some (.dT kvs)) : kvs.length ≤ sizeLine ∧ (a == sysModules) = false ∧
    ∃ xs, KT H kvs xs ∧ h.DictOfH (tupleKind (mixKind P w)) a xs := dt_rd ok (.inl e)
end

noncomputable def DGet (H : Hp) (a : Addr) (y : V) (r : Option V) : Prop :=
  (∃ kvs k, Rd H a (.dK kvs) ∧ y = kV k ∧ r = valV kvs k) ∨ ∃ kvs k b, Rd H a (.dT kvs) ∧ y = .ref b ∧ H b = some (.tup (k.map kV)) ∧ r = valV kvs k
noncomputable def DPut (H : Hp) (a : Addr) (y v : V) (H' : Hp) : Prop :=
  (∃ kvs k, H a = some (.dK kvs) ∧ y = kV k ∧ kvs.length < sizeLine ∧ H' = upd H a (.dK (putK kvs k v))) ∨
  ∃ kvs k b, H a = some (.dT kvs) ∧ y = .ref b ∧ H b = some (.tup (k.map kV)) ∧ kvs.length < sizeLine ∧ H' = upd H a (.dT (putK kvs k v))
theorem DGet.k {H : Hp} {a : Addr} {kvs : List (Key × V)} {k : Key} (e : H a = some (.dK kvs)) : DGet H a (kV k) (valV kvs k) := .inl ⟨kvs, k, .inl e, rfl, rfl⟩
theorem DGet.t {H : Hp} {a b : Addr} {kvs : List (List Key × V)} {k : List Key} (e : H a = some (.dT kvs)) (eb : H b = some (.tup (k.map kV))) : DGet H a (.ref b) (valV kvs k) := .inr ⟨kvs, k, b, .inl e, rfl, eb, rfl⟩
theorem DPut.k {H : Hp} {a : Addr} {kvs : List (Key × V)} {k : Key} {v : V} (e : H a = some (.dK kvs)) (hl : kvs.length < sizeLine) : DPut H a (kV k) v (upd H a (.dK (putK kvs k v))) := .inl ⟨kvs, k, e, rfl, hl, rfl⟩
section
variable {X : Cx} {pins : List (Addr × Obj)} {σ : St} {H : Hp} {s : Shared} {a : Addr} {y v : V} {u r : Value} {o : Option V} {A : Around} {E : Value → Shared → Prop}

theorem Inv.big (I : Inv X pins σ H s) : sysModules < s.heap.objs.size := by
  have h : mainGlobals < s.heap.objs.size := (I.mod.glob.keeps I.bk).lt
  exact Nat.lt_trans (by decide) h

theorem d_getItem {Q : Value → Shared → Prop} (hu : A.units + 1 < cLine) (I : Inv X pins σ H s) (g : DGet H a y (some v)) (ry : RelV y u) (h : ∀ w' s', Inv X pins σ H s' → RelV v w' → Q w' s') :
    wpAny (model X.prog X.w) A (getItem (.ref a) u) Q E s := by
  rcases g with ⟨kvs, k, e, ey, l⟩ | ⟨kvs, k, b, e, ey, eb, l⟩
  · subst ey
    obtain ⟨z, hd, vs, rel, dd⟩ := dk_rd I.hok e
    obtain ⟨w', hw, rw'⟩ := RelO.some_of (v := v) (o := valueAt vs k) (by rw [l]; exact rel.val k)
    exact wpAny_getItem_of (kV_is ry) dd.mapOf hw (h w' _ (I.tok _) rw')
  · subst ey
    cases (show u = Value.ref b from ry)
    obtain ⟨z, hd, xs, rel, dd⟩ := dt_rd I.hok e
    obtain ⟨w', hw, rw'⟩ := RelO.some_of (v := v) (o := (atKey xs k).map (·.2)) (by rw [l]; exact rel.val k)
    obtain ⟨p, hp, hp2⟩ := Option.map_eq_some_iff.mp hw
    refine wpAny_getItem_heap (tupleKind_room_in1 hu) (key_of I.hok eb) dd hp ?_
    rw [hp2]
    exact h w' _ (I.tok _) rw'
theorem d_in {Q : Value → Shared → Prop} (hu : A.units + 1 < cLine) (I : Inv X pins σ H s) (g : DGet H a y o) (ry : RelV y u) (h : ∀ s', Inv X pins σ H s' → Q (.bool o.isSome) s') :
    wpAny (model X.prog X.w) A (compareOp .In u (.ref a)) Q E s := by
  rcases g with ⟨kvs, k, e, ey, l⟩ | ⟨kvs, k, b, e, ey, eb, l⟩
  · subst ey
    obtain ⟨z, hd, vs, rel, dd⟩ := dk_rd I.hok e
    refine wpAny_in_of (kV_is ry) hd dd.mapOf ?_
    rw [← (rel.val k).isSome_eq, ← l]
    exact h _ (I.tok _)
  · subst ey
    cases (show u = Value.ref b from ry)
    obtain ⟨z, hd, xs, rel, dd⟩ := dt_rd I.hok e
    refine wpAny_in_heap (tupleKind_room_in1 hu) (key_of I.hok eb) hd dd ?_
    have q := (rel.val k).isSome_eq
    rw [Option.isSome_map] at q
    rw [← q, ← l]
    exact h _ (I.tok _)
theorem d_write {h' : Heap} {t' : Nat} {ob : HO} (I : Inv X pins σ H s) (mu : Mut (H a)) (hs : Heap.SameBut a s.heap h') (he : ∃ q, h'.get? a = some q) (new : ObjOk X.prog X.w (upd H a ob) h' a ob) :
    Inv X pins σ (upd H a ob) { s with heap := h', toks := t' } :=
  I.write (x := a) (e := a) mu (.inl rfl) (fun b q hb z => (hs.2 b hb).trans z) he new
theorem dk_new {P : Program} {w : World} {H' : Hp} {h' : Heap} {kvs : List (Key × V)} {vs : List (Key × Value)} (z : kvs.length ≤ sizeLine) (hd : (a == sysModules) = false) (rel : KV kvs vs) (dd : h'.DictOf (mixKind P w) a vs) :
    ObjOk P w H' h' a (.dK kvs) := ⟨z, hd, vs, rel, dd⟩
end

section
variable {X : Cx} {pins : List (Addr × Obj)} {σ : St} {H : Hp} {s : Shared} {a : Addr} {kvs : List (Key × V)} {k : Key} {u : Value} {A : Around} {E : Value → Shared → Prop}
theorem d_len {Q : Value → Shared → Prop} (I : Inv X pins σ H s) (e : Rd H a (.dK kvs)) (h : ∀ t s', Inv X pins σ H s' → Q (.int kvs.length t) s') : wpAny (model X.prog X.w) A (call (.builtin "len") [.ref a]) Q E s := by
  obtain ⟨z, hd, vs, rel, dd⟩ := dk_rd I.hok e
  refine call_len_dict hd dd (by rw [← rel.length]; rw [sizeLine_eq] at z; omega) ?_
  rw [← rel.length]
  exact h _ _ (I.tok _)
end


theorem dict_typeIs {X : Cx} {pins : List (Addr × Obj)} {σ : St} {H : Hp} {s : Shared} {a : Addr} {y : V} {o : Option V} (I : Inv X pins σ H s) (g : DGet H a y o) : s.TypeIs (.ref a) "dict" := by
  rcases g with ⟨kvs, k, e, _, _⟩ | ⟨kvs, k, b, e, _, _, _⟩
  · obtain ⟨_, _, vs, _, dd⟩ := dk_rd I.hok e
    exact dd.typeIs
  · obtain ⟨_, _, xs, _, dd⟩ := dt_rd I.hok e
    exact dd.typeIs
section
variable {X : Cx} {o i e value : Expr} {pos pos' tpos : Pos} {td ty tv : TE}
end


theorem dk_empty {P : Program} {w : World} {H : Hp} (h : Heap) (hb : sysModules < h.objs.size) : ObjOk P w H (h.push { cls := .type "dict", data := .dict #[] }) h.objs.size (.dK []) :=
  ⟨Nat.zero_le _, beq_eq_false_iff_ne.mpr (Ne.symm (Nat.ne_of_lt hb)), [], .nil, Heap.DictOf.new h⟩
theorem dt_empty {P : Program} {w : World} {H : Hp} (h : Heap) (hb : sysModules < h.objs.size) : ObjOk P w H (h.push { cls := .type "dict", data := .dict #[] }) h.objs.size (.dT []) :=
  ⟨Nat.zero_le _, beq_eq_false_iff_ne.mpr (Ne.symm (Nat.ne_of_lt hb)), [], .nil, _, #[], 0, Heap.get?_push_size _ rfl, ⟨rfl, rfl, rfl⟩, rfl, rfl, List.nodup_nil⟩
noncomputable def tDNewK : TE := fun _ H Q => ∀ p, H p = none → Q (.ref p) (upd H p (.dK []))
noncomputable def tDNewT : TE := fun _ H Q => ∀ p, H p = none → Q (.ref p) (upd H p (.dT []))
section
variable {X : Cx} {pos : Pos}
theorem pe_dnewK : PE X (.Dict [] [] pos) tDNewK := fun pins s σ H Q I h =>
  wpAny_Dict_empty ⟨.ref s.heap.objs.size, _, I.laid (a := s.heap.objs.size) (o := .dK []) (t' := s.toks) (fun _ _ q => Heap.get?_push_of_some _ q) (Nat.le_refl _) (dk_empty s.heap I.big), rfl, h _ (I.hok.fresh (Nat.le_refl _))⟩
theorem pe_dnewT : PE X (.Dict [] [] pos) tDNewT := fun pins s σ H Q I h =>
  wpAny_Dict_empty ⟨.ref s.heap.objs.size, _, I.laid (a := s.heap.objs.size) (o := .dT []) (t' := s.toks) (fun _ _ q => Heap.get?_push_of_some _ q) (Nat.le_refl _) (dt_empty s.heap I.big), rfl, h _ (I.hok.fresh (Nat.le_refl _))⟩
end

section
variable {X : Cx} {pins : List (Addr × Obj)} {σ : St} {H : Hp} {s : Shared} {a : Addr} {y d : V} {u r : Value} {o : Option V} {A : Around} {E : Value → Shared → Prop}
end

section
variable {X : Cx} {o e f : Expr} {apos cpos : Pos} {td ty tx : TE}
end

section
variable {X : Cx} {pins : List (Addr × Obj)} {σ : St} {H : Hp} {s : Shared} {a : Addr} {kvs : List (Key × V)} {A : Around} {E : Value → Shared → Prop}
end


section
variable {X : Cx} {pins : List (Addr × Obj)} {σ : St} {H : Hp} {s : Shared} {a : Addr} {y : V} {u : Value} {A : Around} {E : Value → Shared → Prop}
end
end L2

namespace Att
open PySem PySem.W PySem.Calls PyProof.Rows

theorem ints_of_wellAll {P : Params} {h : Heap} : ∀ (ns : List Int) (vs : List Value), WellAll P h vs (ns.map WData.int) → IntsAre vs ns := by
  intro ns
  induction ns with
  | nil =>
    intro vs w
    rw [List.map_nil] at w
    cases w
    exact .nil
  | cons n ns ih =>
    intro vs w
    rw [List.map_cons] at w
    cases w with
    | cons a b =>
      cases a
      exact .cons _ _ (ih _ b)

theorem script_of {l : OpenLaw} {n : Nat} (hn : l.most = some n) {P : Params} {h : Heap} {args : List WData} {vals : List Value}
    (hpre : l.row.toRowW.claim.pre args = true) (hwl : WellAll P h vals args) :
    ∃ a vs ns, vals = [Value.ref a] ∧ args = [WData.list (ns.map WData.int)] ∧ h.get? a = some { cls := .type "list", data := .seq vs.toArray } ∧ IntsAre vs ns ∧ ns.length ≤ n := by
  have hsh : WShape.hasAll [] args [.list .int] = true := (pre_splitW hpre).1
  have hc : l.pre.holds [] { args := args } = true := (pre_splitW hpre).2
  obtain ⟨d, r, rfl, h1, h2⟩ := hasAllW_cons hsh
  obtain rfl := hasAllW_nil h2
  obtain ⟨xs, rfl, h3⟩ := hasW_list h1
  obtain ⟨ns, rfl⟩ := items_int h3
  have hlen : ns.length ≤ n := by
    unfold OpenLaw.pre at hc
    have h4 : (WTm.not (.lt (.lit (.int (n : Int))) (.len (.arg 0)))).holds [] { args := [.list (ns.map .int)] } = true := by
      have h4 := (holds_andW hc).1
      rw [hn] at h4
      exact h4
    have h5 := condW_of h4 (w_not (w_lt w_lit (w_len_list (w_arg rfl))))
    rw [List.length_map] at h5
    refine Nat.le_of_not_lt fun q => ?_
    have q' : (n : Int) < ((ns.length : Nat) : Int) := by omega
    first
      | (rw [decide_eq_true q'] at h5; exact absurd h5 (by decide))
      | (simp at h5; omega)
  cases hwl with
  | cons w1 w2 =>
    cases w2
    cases w1 with
    | list ho hall => exact ⟨_, _, ns, rfl, rfl, ho, ints_of_wellAll ns _ hall, hlen⟩

theorem post_true (l : OpenLaw) (args : List WData) : l.row.toRowW.claim.post args (.bool true) args = true :=
  postW_of (r := l.row.toRowW) (X := (true == true))
    (show WShape.has [] (.bool true) .bool = true by first | rfl | decide | simp [WShape.has, WShape.arms, WShape.armsAll])
    (show (WTm.eq .res (.lit (.bool true))).value [] { args := args, res := some (.bool true), after := args } = some (.bool (true == true)) from w_eq_bool (w_res rfl) w_lit) rfl

theorem attach_call {l : OpenLaw} {n : Nat} {q : Program} {loose : List Str} {XP : (Str → Option Value) → Heap → Prop} {YP : World → Heap → Prop} {d : DefRec}
    (hn : l.most = some n) (hdf : d.params.defaults = [])
    (call : ∀ (w : World) (s₀ s₁ : Shared) (mg mb : Str → Option Value) (fa : Addr) (o : Obj) (pm cd doc : Value) (a : Addr) (vs : List Value) (ns : List Int),
      Ground q loose [] XP w s₀ mg mb s₁.heap → YP w s₁.heap →
      s₁.heap.get? fa = some o → o.data = .func (docDef d.name d.params d.body d.scope pm cd doc) → s₁.heap.CodeRec cd d.name → mg d.name = some (.ref fa) →
      s₁.heap.get? a = some { cls := .type "list", data := .seq vs.toArray } → IntsAre vs ns → ns.length ≤ n → s₁.gens = #[] →
      codeAny (model l.prog w) callerA (.call (.ref fa) ⟨[.ref a], []⟩) (fun r s' => r = .ok (.ret (.bool true)) ∧ OldK s₁.heap s'.heap ∧ s'.os = s₁.os ∧ AllBare s'.gens) s₁) :
    WalkO q loose XP YP l.row.toRowW d [] (fun f vs => PySem.call f vs) := by
  intro w s₀ s₁ mg mb G Y fa o pm cd doc dV kV ho hd hcd hD hmg hg args vals as hpre hlay hrd hwl hlo
  obtain rfl : dV = .none := Dflts.none hD hdf
  obtain rfl : kV = .none := Dflts.noKw hD
  obtain ⟨a, vs, ns, rfl, rfl, hobj, hints, hlen⟩ := script_of hn hpre hwl
  refine enter_call (codeAny_mono (call w s₀ s₁ mg mb fa o pm cd doc a vs ns G Y ho (fd_plain hd) hcd hmg hobj hints hlen hg) fun r s' hq => ?_)
  obtain ⟨rfl, h2, h3, h4⟩ := hq
  exact ⟨.inl ⟨.bool true, .bool true, [], rfl, fun _ => rfl, .bool true, post_true l _, fun _ => ⟨List.Pairwise.nil, fun _ hm => (nomatch hm)⟩⟩, h2, h3, h4⟩

section
variable {prog : Program} {w : World} {A : Around} {E : Value → Shared → Prop} {s : Shared} {K : Frag}

end
end Att

namespace L2
open PySem PySem.Spec PyProof.Rows

theorem vals_ints : ∀ {vs : List Value} {ns : List Int}, IntsAre vs ns → Vals (ns.map V.int) vs
  | _, _, .nil => .nil
  | _, _, .cons n t h => .cons ⟨t, rfl⟩ (vals_ints h)

end L2

namespace L2
open PySem PySem.Spec PyProof.Rows

end L2



namespace L2
open PySem PySem.Spec PyProof.Rows

noncomputable def defArgs (s : Stmt) : Arguments := match s with
  | .FunctionDef _ a _ _ _ _ _ _ _ _ => a
  | _ => { posonlyargs := [], args := [], vararg := none, kwonlyargs := [], kw_defaults := [], kwarg := none, defaults := [] }
noncomputable def defBody (s : Stmt) : List Stmt := match s with
  | .FunctionDef _ _ b _ _ _ _ _ _ _ => b
  | _ => []
noncomputable def defScope (s : Stmt) : Scope := match s with
  | .FunctionDef _ _ _ _ _ _ sc _ _ _ => sc
  | _ => { kind := .function, names := [], isGenerator := false, isCoroutine := false }

noncomputable abbrev E0 : XK := fun _ _ _ => False
structure Fun (K : PySem.W.Frag) (x qual : Str) (st : Stmt) (f : Addr) (fd : FuncData) : Prop where
  ex : ∃ (oc : Value) (od : Option Addr) (kV doc pm : Value) (an : Option Addr) (cdv ct : Value) (osl : Array (Option Value)),
    fd = PySem.W.fnOf x qual (defArgs st) (defBody st) (defScope st) .none kV doc pm an cdv ct ∧ K.lookup f = some ⟨oc, od, .func fd, osl⟩ ∧ PySem.W.codeIn K cdv qual = true
  kp : PySem.W.keepIn K (.ref f) = true
section
variable {P : Program} {w : World} {K : PySem.W.Frag} {mg : Str → Option Value} {base : Heap}
theorem Fun.binds {x qual : Str} {st : Stmt} {f : Addr} {fd : FuncData} {ps : List Str} (F : Fun K x qual st f fd)
    (h : ∀ (kV doc pm : Value) (an : Option Addr) (cdv ct : Value) (us : List Value), us.length = ps.length → bindArgs (PySem.W.fnOf x qual (defArgs st) (defBody st) (defScope st) .none kV doc pm an cdv ct) ⟨us, []⟩ = pure (ps.zip us)) : Binds K fd ps [] := by
  obtain ⟨oc, od, kV, doc, pm, an, cdv, ct, osl, rfl, lk, hcd⟩ := F.ex
  exact .all (h kV doc pm an cdv ct)
theorem fun_mk {x qual : Str} {st : Stmt} {f : Addr} {oc : Value} {od an : Option Addr} {osl : Array (Option Value)} {kV doc pm cdv ct : Value} (l : K.lookup f = some ⟨oc, od, .func (PySem.W.fnOf x qual (defArgs st) (defBody st) (defScope st) .none kV doc pm an cdv ct), osl⟩)
    (c : PySem.W.codeIn K cdv qual = true) (k : PySem.W.keepIn K (.ref f) = true) : Fun K x qual st f (PySem.W.fnOf x qual (defArgs st) (defBody st) (defScope st) .none kV doc pm an cdv ct) := ⟨⟨oc, od, kV, doc, pm, an, cdv, ct, osl, rfl, l, c⟩, k⟩
end
theorem small1000 {n : Nat} (h : n ≤ 1000) : n < sizeLine := Nat.lt_of_le_of_lt h (by decide)

section
variable {X : Cx}
theorem call_lenD : CallR X (.builtin "len") (fun xs H Q => ∃ a kvs, xs = [V.ref a] ∧ H a = some (.dK kvs) ∧ Q (.int kvs.length) H) := by
  intro pins s σ H xs us Q I r h
  obtain ⟨a, kvs, rfl, ha, q⟩ := h
  obtain ⟨u, rfl, ru⟩ := vals1 r
  cases ru
  exact d_len I (.inl ha) fun t s' I' => ⟨.int kvs.length, H, I', ⟨t, rfl⟩, q⟩
end

noncomputable def Same (H H' : Hp) : Prop := ∀ b o, H b = some o → H' b = some o
theorem Same.refl (H : Hp) : Same H H := fun _ _ h => h
theorem Same.trans {H H1 H2 : Hp} (a : Same H H1) (b : Same H1 H2) : Same H H2 := fun c o h => b c o (a c o h)
theorem Same.seq {K : PySem.W.Frag} {H H' : Hp} {a : Addr} {xs : List V} (e : Same H H') (h : SqL K H a xs) : SqL K H' a xs := by
  rcases h with (h | ⟨o, h⟩) | h
  · exact .inl (.inl (e _ _ h))
  · exact .inl (.inr ⟨o, e _ _ h⟩)
  · exact .inr h

section
variable {κ : Type} [DecidableEq κ]
end
end L2
namespace L2
open PySem PySem.Spec PyProof.Rows

end L2
namespace L2
open PySem PySem.Spec PyProof.Rows

section
variable {prog : Program} {w : World} {A : Around} {R : Result → Shared → Prop} {s : Shared}
end
section
variable {X : Cx}
end
end L2
namespace L2
open PySem PySem.Spec PyProof.Rows
section
variable {X : Cx}
end
end L2
namespace L2
open PySem PySem.Spec PyProof.Rows
noncomputable def tyN (H : Hp) : V → Option String
  | .non => some "NoneType"
  | .bl _ => some "bool"
  | .int _ => some "int"
  | .str _ => some "str"
  | .ref a => match H a with
    | some (.lst _) => some "list"
    | some (.frz _ (.lst _)) => some "list"
    | some (.tup _) => some "tuple"
    | some (.dK _) => some "dict"
    | some (.dT _) => some "dict"
    | _ => none
  | _ => none
theorem tyN_of {K : PySem.W.Frag} {H : Hp} {x : V} {t : String} (h : tyN H x = some t) : TyOf K H x (.type t) := by
  cases x with
  | non => cases h; exact .non
  | bl b => cases h; exact .bl b
  | int i => cases h; exact .int i
  | str x => cases h; exact .str x
  | byt _ => cases h
  | flt _ => cases h
  | ty _ => cases h
  | ref a =>
    unfold tyN at h
    dsimp only at h
    split at h
    · rename_i e; cases h; exact .lst e
    · rename_i e; cases h; exact .frz e
    · rename_i e; cases h; exact .tup e
    · rename_i e; cases h; exact .dK e
    · rename_i e; cases h; exact .dT e
    · cases h
noncomputable def tyL : List String := ["NoneType", "bool", "int", "str", "list", "tuple", "dict"]
theorem tyN_in {H : Hp} {x : V} {t : String} (h : tyN H x = some t) : t ∈ tyL := by
  cases x with
  | non => cases h; decide
  | bl b => cases h; decide
  | int i => cases h; decide
  | str x => cases h; decide
  | byt _ => cases h
  | flt _ => cases h
  | ty _ => cases h
  | ref a =>
    unfold tyN at h
    dsimp only at h
    split at h <;> first | (cases h; decide) | cases h
noncomputable def isI (t T : String) : Bool := t == T || (T == "int" && t == "bool")
theorem kit_ty (K : PySem.W.Frag) : ∀ t ∈ tyL, ∀ T ∈ ["int", "bool", "str", "tuple", "list", "dict"], PySem.W.kitOne K (.type t) (.type T) = some (isI t T) := by
  intro t ht T hT
  simp only [tyL, List.mem_cons, List.not_mem_nil, or_false] at ht hT
  rcases ht with rfl | rfl | rfl | rfl | rfl | rfl | rfl <;> rcases hT with rfl | rfl | rfl | rfl | rfl | rfl <;> (unfold PySem.W.kitOne; first | rfl | decide +kernel | (simp only [PySem.W.kitCls]; rfl))
section
variable {X : Cx}
theorem call_isi : CallR X (.builtin "isinstance") (fun xs H Q => ∃ x T t, xs = [x, .ty T] ∧ T ∈ ["int", "bool", "str", "tuple", "list", "dict"] ∧ tyN H x = some t ∧ Q (.bl (isI t T)) H) := by
  intro pins s σ H xs us Q I r h
  obtain ⟨x, T, t, rfl, hT, ht, q⟩ := h
  obtain ⟨u, w', rfl, r1, r2⟩ := vals2 r
  cases r2
  exact isinst_ok I r1 (tyN_of ht) (kit_ty X.K t (tyN_in ht) T hT) fun tk => ⟨.bl _, H, I.tok tk, rfl, q⟩
end
end L2
namespace L2
open PySem PySem.Spec PyProof.Rows
section
variable {X : Cx}
end
end L2
namespace L2
open PySem PySem.Spec PyProof.Rows
@[irreducible] def Sel (b : Bool) (A B : Prop) : Prop := if b = true then A else B
theorem Sel.mk {b : Bool} {A B : Prop} (h1 : b = true → A) (h2 : b = false → B) : Sel b A B := by
  unfold Sel
  cases b with
  | true => exact h1 rfl
  | false => exact h2 rfl
theorem Sel.t {A B : Prop} (h : A) : Sel true A B := .mk (fun _ => h) fun e => by cases e
theorem Sel.f {A B : Prop} (h : B) : Sel false A B := .mk (fun e => by cases e) fun _ => h
theorem Sel.dec {p A B : Prop} [Decidable p] (h1 : p → A) (h2 : ¬ p → B) : Sel (decide p) A B := .mk (fun e => h1 (of_decide_eq_true e)) fun e => h2 (of_decide_eq_false e)
theorem Sel.ndec {p A B : Prop} [Decidable p] (h1 : ¬ p → A) (h2 : p → B) : Sel (!decide p) A B := .mk (fun e => h1 (by simpa using e)) fun e => h2 (by simpa using e)
theorem Sel.yes {b : Bool} {A B : Prop} (e : b = true) (h : A) : Sel b A B := by rw [e]; exact .t h
theorem Sel.no {b : Bool} {A B : Prop} (e : b = false) (h : B) : Sel b A B := by rw [e]; exact .f h
theorem sel_ite {b : Bool} {A B : Prop} (h : Sel b A B) : if b = true then A else B := by unfold Sel at h; exact h
noncomputable def mVar (i : Nat) : TE := fun σ H Q => match σ[i]? with | some (some v) => Q v H | _ => False
section
variable {X : Cx}
theorem PE.imp {e : Expr} {t t' : TE} (h : PE X e t) (i : ∀ σ H Q, t' σ H Q → t σ H Q) : PE X e t' := fun pins s σ H Q I q => h pins s σ H Q I (i _ _ _ q)
theorem OpR.imp {f : Value → Value → Sem Value} {r r' : R2} (h : OpR X f r) (i : ∀ x y H Q, r' x y H Q → r x y H Q) : OpR X f r' := fun pins s σ H x y v u Q I rx ry q => h pins s σ H x y v u Q I rx ry (i _ _ _ _ q)
theorem qv (i : Nat) {x : Str} {pos : Pos} (hN : X.N[i]? = some x := by rfl) (hv : Vis X.env.scope x := by first | exact Or.inl rfl | exact Or.inr (Or.inl rfl) | exact Or.inr (Or.inr rfl)) (hd : (x == ("__debug__" : Str)) = false := by decide)
    (hcd : (x == ("__classdict__" : Str)) = false := by decide) : PE X (.Name x pos) (mVar i) := (pe_var hN hv hd hcd).imp fun σ H Q q => by
  unfold mVar at q
  split at q
  · rename_i v e; exact ⟨v, e, q⟩
  · exact q.elim
theorem qgi {x : Str} {i : Int} {pos : Pos} (hm : ∃ t, X.mg x = some (.int i t)) (hg : Gl X x := by rfl) (hd : (x == ("__debug__" : Str)) = false := by decide) : PE X (.Name x pos) (tC (.int i)) := by
  obtain ⟨t, e⟩ := hm
  exact pe_glob hg e ⟨t, rfl⟩ hd
noncomputable def mSub : R2 := fun x y H Q => match x, y with | .int i, .int j => Q (.int (i - j)) H | _, _ => False
theorem oSub : OpR X (binaryOp .Sub) mSub := op_sub.imp fun x y H Q q => by
  unfold mSub at q
  split at q
  · exact ⟨_, _, rfl, rfl, q⟩
  · exact q.elim
theorem op_mulG : OpR X (binaryOp .Mult) (rI IntMulOk fun i j => .int (i * j)) := opI fun _ _ _ _ _ _ _ hc q => mul_int q hc
noncomputable def mMul : R2 := fun x y H Q => match x, y with
  | .int i, .int j => IntMulOk i j ∧ Q (.int (i * j)) H
  | _, _ => False
theorem oMul : OpR X (binaryOp .Mult) mMul := op_mulG.imp fun x y H Q q => by
  unfold mMul at q
  split at q
  · exact ⟨_, _, rfl, rfl, q.1, q.2⟩
  · exact q.elim
noncomputable def mMod : R2 := fun x y H Q => match x, y with | .int i, .int j => 0 < j ∧ Q (.int (i % j)) H | _, _ => False
theorem oMod : OpR X (binaryOp .Mod) mMod := op_mod.imp fun x y H Q q => by
  unfold mMod at q
  split at q
  · exact ⟨_, _, rfl, rfl, q.1, q.2⟩
  · exact q.elim
noncomputable def mPow : R2 := fun x y H Q => match x, y with | .int i, .int j => (0 ≤ j ∧ j ≤ 1000000 ∧ i.natAbs < 2 ^ 64) ∧ Q (.int (i ^ j.toNat)) H | _, _ => False
theorem oPow : OpR X (binaryOp .Pow) mPow := op_pow.imp fun x y H Q q => by
  unfold mPow at q
  split at q
  · exact ⟨_, _, rfl, rfl, q.1, q.2⟩
  · exact q.elim
noncomputable def mShl : R2 := fun x y H Q => match x, y with | .int i, .int j => (0 ≤ j ∧ j ≤ 1000000 ∧ i.natAbs < 2 ^ 64) ∧ Q (.int (i * 2 ^ j.toNat)) H | _, _ => False
theorem oShl : OpR X (binaryOp .LShift) mShl := op_shl.imp fun x y H Q q => by
  unfold mShl at q
  split at q
  · exact ⟨_, _, rfl, rfl, q.1, q.2⟩
  · exact q.elim
noncomputable def mShr : R2 := fun x y H Q => match x, y with | .int i, .int j => 0 ≤ j ∧ Q (.int (i / 2 ^ j.toNat)) H | _, _ => False
theorem oShr : OpR X (binaryOp .RShift) mShr := op_shr.imp fun x y H Q q => by
  unfold mShr at q
  split at q
  · exact ⟨_, _, rfl, rfl, q.1, q.2⟩
  · exact q.elim
noncomputable def mXor : R2 := fun x y H Q => match x, y with | .int i, .int j => Q (.int (Builtin.bitXor i j)) H | _, _ => False
theorem oXor : OpR X (binaryOp .BitXor) mXor := op_xor.imp fun x y H Q q => by
  unfold mXor at q
  split at q
  · exact ⟨_, _, rfl, rfl, q⟩
  · exact q.elim
noncomputable def mBAnd : R2 := fun x y H Q => match x, y with | .int i, .int j => Q (.int (Builtin.bitAnd i j)) H | _, _ => False
theorem oBAnd : OpR X (binaryOp .BitAnd) mBAnd := op_and.imp fun x y H Q q => by
  unfold mBAnd at q
  split at q
  · exact ⟨_, _, rfl, rfl, q⟩
  · exact q.elim
noncomputable def mLt : R2 := fun x y H Q => match x, y with | .int i, .int j => Q (.bl (decide (i < j))) H | _, _ => False
theorem oLt : OpR X (compareOp .Lt) mLt := op_lt.imp fun x y H Q q => by
  unfold mLt at q
  split at q
  · exact ⟨_, _, rfl, rfl, q⟩
  · exact q.elim
noncomputable def mLe : R2 := fun x y H Q => match x, y with | .int i, .int j => Q (.bl (decide (i ≤ j))) H | _, _ => False
theorem oLe : OpR X (compareOp .LtE) mLe := op_le.imp fun x y H Q q => by
  unfold mLe at q
  split at q
  · exact ⟨_, _, rfl, rfl, q⟩
  · exact q.elim
noncomputable def mEq : R2 := fun x y H Q => match x, y with
  | .int i, .int j => Q (.bl (decide (i = j))) H
  | .str i, .str j => Q (.bl (decide (i = j))) H
  | .bl i, .bl j => Q (.bl (decide (i = j))) H
  | .non, .non => Q (.bl true) H
  | .non, .int _ => Q (.bl false) H | .int _, .non => Q (.bl false) H | .non, .bl _ => Q (.bl false) H | .bl _, .non => Q (.bl false) H | .non, .str _ => Q (.bl false) H | .str _, .non => Q (.bl false) H
  | .int _, .str _ => Q (.bl false) H | .str _, .int _ => Q (.bl false) H | .bl _, .str _ => Q (.bl false) H | .str _, .bl _ => Q (.bl false) H
  | _, _ => False
theorem decV {α : Type} [DecidableEq α] {f : α → V} (hf : ∀ a b, f a = f b → a = b) (a b : α) : decide (f a = f b) = decide (a = b) := by
  by_cases h : a = b
  · subst h; simp
  · rw [decide_eq_false h, decide_eq_false fun e => h (hf a b e)]
theorem oEq : OpR X (compareOp .Eq) mEq := op_eq.imp fun x y H Q q => by
  unfold mEq at q
  split at q
  · exact ⟨rfl, by rw [decV (f := V.int) fun _ _ e => V.int.inj e]; exact q⟩
  · exact ⟨rfl, by rw [decV (f := V.str) fun _ _ e => V.str.inj e]; exact q⟩
  · exact ⟨rfl, by rw [decV (f := V.bl) fun _ _ e => V.bl.inj e]; exact q⟩
  · exact ⟨rfl, by simpa using q⟩
  all_goals first | exact q.elim | exact ⟨rfl, q⟩
noncomputable def mNe : R2 := fun x y H Q => match x, y with
  | .int i, .int j => Q (.bl (!decide (i = j))) H
  | .str i, .str j => Q (.bl (!decide (i = j))) H
  | .bl i, .bl j => Q (.bl (!decide (i = j))) H
  | .non, .non => Q (.bl false) H
  | .non, .int _ => Q (.bl true) H | .int _, .non => Q (.bl true) H | .non, .bl _ => Q (.bl true) H | .bl _, .non => Q (.bl true) H | .non, .str _ => Q (.bl true) H | .str _, .non => Q (.bl true) H
  | .int _, .str _ => Q (.bl true) H | .str _, .int _ => Q (.bl true) H | .bl _, .str _ => Q (.bl true) H | .str _, .bl _ => Q (.bl true) H
  | _, _ => False
theorem oNe : OpR X (compareOp .NotEq) mNe := op_ne.imp fun x y H Q q => by
  unfold mNe at q
  split at q
  · exact ⟨rfl, by rw [decV (f := V.int) fun _ _ e => V.int.inj e]; exact q⟩
  · exact ⟨rfl, by rw [decV (f := V.str) fun _ _ e => V.str.inj e]; exact q⟩
  · exact ⟨rfl, by rw [decV (f := V.bl) fun _ _ e => V.bl.inj e]; exact q⟩
  · exact ⟨rfl, by simpa using q⟩
  all_goals first | exact q.elim | exact ⟨rfl, q⟩
noncomputable def mIsN : R2 := fun x y H Q => match y with | .non => Q (.bl (match x with | .non => true | _ => false)) H | _ => False
theorem oIs : OpR X (compareOp .Is) mIsN := op_isN.imp fun x y H Q q => by
  unfold mIsN at q
  split at q
  · refine ⟨rfl, ?_⟩
    cases x <;> simpa using q
  · exact q.elim
noncomputable def mTest (t : TE) : TT := fun σ H Q => t σ H fun x H' => match x with | .bl k => Q k H' | _ => False
theorem qtc {op : CmpOp} {r : R2} {a b : Expr} {ta tb : TE} {pos : Pos} (ho : OpR X (compareOp op) r) (ha : PE X a ta) (hb : PE X b tb) (hm : behindInMarks op b = false := by first | exact nomark _ | rfl) : PT X (.Compare a [op] [b] pos) (mTest (tOp r ta tb)) := by
  intro pins s σ H Q I h
  refine wpAny_isTrue_Compare1 (thn (ha pins s σ H _ I h) fun v s1 ⟨x, H1, I1, r1, q1⟩ => thn (hb pins s1 σ H1 _ I1 q1) fun u s2 ⟨y, H2, I2, r2, q2⟩ =>
    thn (ho pins s2 σ H2 x y v u _ I2 r1 r2 q2) fun c s3 ⟨z, H3, I3, r3, q3⟩ => ?_) hm
  cases z <;> first | exact q3.elim | (cases r3; exact wpAny_truthy_bool ⟨H3, I3, q3⟩)
theorem qc {op : CmpOp} {r : R2} {a b : Expr} {ta tb : TE} {pos : Pos} (ho : OpR X (compareOp op) r) (ha : PE X a ta) (hb : PE X b tb) (hm : behindInMarks op b = false := by first | exact nomark _ | rfl) : PE X (.Compare a [op] [b] pos) (tOp r ta tb) := pe_cmpR ho ha hb hm
noncomputable def mChain (r r' : R2) (ta tb tc : TE) : TE := fun σ H Q => ta σ H fun x H1 => tb σ H1 fun y H2 => r x y H2 fun z H3 => match z with
  | .bl k => Sel k (tc σ H3 fun w' H4 => r' y w' H4 Q) (Q (.bl false) H3)
  | _ => False
theorem qch {op op' : CmpOp} {r r' : R2} {a b c : Expr} {ta tb tc : TE} {pos : Pos} (ho : OpR X (compareOp op) r) (ho' : OpR X (compareOp op') r') (ha : PE X a ta) (hb : PE X b tb) (hc : PE X c tc)
    (hm : lastMarks [op, op'] [b, c] = false := by with_unfolding_all rfl) : PE X (.Compare a [op, op'] [b, c] pos) (mChain r r' ta tb tc) := by
  intro pins s σ H Q I h
  refine Compare_chain (thn (ha pins s σ H _ I h) fun v s1 ⟨x, H1, I1, r1, q1⟩ => chain_link (thn (hb pins s1 σ H1 _ I1 q1) fun u s2 ⟨y, H2, I2, r2, q2⟩ =>
    thn (ho pins s2 σ H2 x y v u _ I2 r1 r2 q2) fun d s3 ⟨z, H3, I3, r3, q3⟩ => ?_)) hm
  cases z <;> first | exact q3.elim | skip
  rename_i k
  cases r3
  refine wpAny_truthy_bool ?_
  have q3 := sel_ite q3
  cases k with
  | false => exact ite_ff ⟨.bl false, H3, I3, rfl, q3⟩
  | true => exact ite_tt (chain_last (thn (hc pins s3 σ H3 _ I3 q3) fun w' s4 ⟨z', H4, I4, r4, q4⟩ => ho' pins s4 σ H4 y z' u w' Q I4 r2 r4 q4))
theorem qtch {op op' : CmpOp} {r r' : R2} {a b c : Expr} {ta tb tc : TE} {pos : Pos} (ho : OpR X (compareOp op) r) (ho' : OpR X (compareOp op') r') (ha : PE X a ta) (hb : PE X b tb) (hc : PE X c tc)
    (hm : lastMarks [op, op'] [b, c] = false := by with_unfolding_all rfl) : PT X (.Compare a [op, op'] [b, c] pos) (mTest (mChain r r' ta tb tc)) := by
  intro pins s σ H Q I h
  refine isTrue_chain (thn (ha pins s σ H _ I h) fun v s1 ⟨x, H1, I1, r1, q1⟩ => test_link (thn (hb pins s1 σ H1 _ I1 q1) fun u s2 ⟨y, H2, I2, r2, q2⟩ =>
    thn (ho pins s2 σ H2 x y v u _ I2 r1 r2 q2) fun d s3 ⟨z, H3, I3, r3, q3⟩ => ?_)) hm
  cases z <;> first | exact q3.elim | skip
  rename_i k
  cases r3
  refine wpAny_truthy_bool ?_
  have q3 := sel_ite q3
  cases k with
  | false => exact ite_ff ⟨H3, I3, q3⟩
  | true =>
    refine ite_tt (test_last (thn (hc pins s3 σ H3 _ I3 q3) fun w' s4 ⟨z', H4, I4, r4, q4⟩ => thn (ho' pins s4 σ H4 y z' u w' _ I4 r2 r4 q4) fun d' s5 ⟨z2, H5, I5, r5, q5⟩ => ?_))
    cases z2 <;> first | exact q5.elim | (cases r5; exact wpAny_truthy_bool ⟨H5, I5, q5⟩)
noncomputable def mTru (K : PySem.W.Frag) (t : TE) : TT := fun σ H Q => t σ H fun x H' => match x with
  | .bl k => Q k H'
  | .non => Q false H'
  | .int i => Q (i != 0) H'
  | x => ∃ k, TruV K x H' k ∧ Q k H'
theorem qtb {e : Expr} {t : TE} (h : PE X e t) (he : ∀ whole, isTrue e X.env whole = (do let v ← whole; standAt e.pos; holding [v] (truthy v)) := by intro _; rfl) : PT X e (mTru X.K t) := by
  intro pins s σ H Q I q
  refine isTrue_plain (thn (h pins s σ H _ I q) fun v s1 ⟨x, H1, I1, r1, q1⟩ => tru_ok pins s1 σ H1 x v Q I1 r1 ?_) (he _)
  cases x <;> first | exact ⟨_, rfl, q1⟩ | exact q1
noncomputable def mAnd (t u : TT) : TT := fun σ H Q => t σ H fun c H1 => Sel c (u σ H1 Q) (Q false H1)
noncomputable def mOr (t u : TT) : TT := fun σ H Q => t σ H fun c H1 => Sel c (Q true H1) (u σ H1 Q)
variable {a b c : Expr} {ta tb : TE} {tA tB' : TT} {rest : List Expr} {pos : Pos}
theorem qw_and1 (ha : PT X a tA) : PW X (.BoolOp .And [a] pos) tA := pw_and1 ha
theorem qw_or1 (ha : PT X a tA) : PW X (.BoolOp .Or [a] pos) tA := pw_or1 ha
theorem qw_and (ha : PT X a tA) (hb : PW X (.BoolOp .And (b :: rest) pos) tB') : PW X (.BoolOp .And (a :: b :: rest) pos) (mAnd tA tB') := by
  intro wh pins s σ H Q I h
  refine isTrue_and (thn (ha pins s σ H _ I h) fun c s1 ⟨H1, I1, q1⟩ => ?_)
  have q1 := sel_ite q1
  cases c with
  | true => exact hb wh pins s1 σ H1 Q I1 q1
  | false => exact ⟨H1, I1, q1⟩
theorem qw_or (ha : PT X a tA) (hb : PW X (.BoolOp .Or (b :: rest) pos) tB') : PW X (.BoolOp .Or (a :: b :: rest) pos) (mOr tA tB') := by
  intro wh pins s σ H Q I h
  refine isTrue_or (thn (ha pins s σ H _ I h) fun c s1 ⟨H1, I1, q1⟩ => ?_)
  have q1 := sel_ite q1
  cases c with
  | true => exact ⟨H1, I1, q1⟩
  | false => exact hb wh pins s1 σ H1 Q I1 q1
noncomputable def mAndV (ta tb : TE) : TE := fun σ H Q => ta σ H fun x H1 => match x with | .bl c => Sel c (tb σ H1 Q) (Q (.bl false) H1) | _ => False
noncomputable def mNotV (ta : TE) : TE := fun σ H Q => ta σ H fun x H1 => match x with | .bl c => Q (.bl (!c)) H1 | _ => False
theorem qand (ha : PE X a ta) (hb : PE X (.BoolOp .And (b :: rest) pos) tb) : PE X (.BoolOp .And (a :: b :: rest) pos) (mAndV ta tb) := by
  intro pins s σ H Q I h
  refine BoolOp_and (thn (ha pins s σ H _ I h) fun v s1 ⟨x, H1, I1, r1, q1⟩ => ?_)
  cases x <;> first | exact q1.elim | skip
  rename_i c
  cases r1
  refine wpAny_truthy_bool ?_
  have q1 := sel_ite q1
  cases c with
  | true => exact hb pins s1 σ H1 Q I1 q1
  | false => exact ⟨.bl false, H1, I1, rfl, q1⟩
theorem qnotV (ha : PE X a ta) : PE X (.UnaryOp .Not a pos) (mNotV ta) := by
  intro pins s σ H Q I h
  refine UnaryOp_ (thn (ha pins s σ H _ I h) fun v s1 ⟨x, H1, I1, r1, q1⟩ => ?_)
  cases x <;> first | exact q1.elim | skip
  rename_i c
  cases r1
  exact not_of (wpAny_truthy_bool ⟨.bl (!c), H1, I1, rfl, q1⟩)
noncomputable def mIf (t : TT) (ta tb : TE) : TE := fun σ H Q => t σ H fun c H1 => Sel c (ta σ H1 Q) (tb σ H1 Q)
theorem qifx {c : Expr} (hc : PT X c tA) (ha : PE X a ta) (hb : PE X b tb) : PE X (.IfExp c a b pos) (mIf tA ta tb) := by
  intro pins s σ H Q I h
  refine wpAny_IfExp (thn (hc pins s σ H _ I h) fun d s1 ⟨H1, I1, q1⟩ => ?_)
  have q1 := sel_ite q1
  cases d with
  | true => exact ha pins s1 σ H1 Q I1 q1
  | false => exact hb pins s1 σ H1 Q I1 q1
noncomputable def mIfS (c : TT) (t u : TS) : TS := fun D σ H => c σ H fun b H1 => Sel b (t D σ H1) (u D σ H1)
theorem qif {c : Expr} {l m : List Stmt} {tc : TT} {t u : TS} (hc : PT X c tc) (ha : PSs X l t) (hb : PSs X m u) : PS X (.If c l m pos) (mIfS tc t u) := by
  intro pins s σ H D I h
  refine wpAny_If (thn (hc pins s σ H _ I h) fun d s1 ⟨H1, I1, q1⟩ => ?_)
  have q1 := sel_ite q1
  cases d with
  | true => exact ha pins s1 σ H1 D I1 q1
  | false => exact hb pins s1 σ H1 D I1 q1
theorem qlen : CallR X (.builtin "len") (fun xs H Q => match xs with
    | [.str y] => y.length ≤ sizeLine ∧ Q (.int y.length) H
    | [.ref p] => (∃ xs, SqL X.K H p xs ∧ Q (.int xs.length) H) ∨ (∃ xs, SqT X.K H p xs ∧ Q (.int xs.length) H) ∨ ∃ kvs, H p = some (.dK kvs) ∧ Q (.int kvs.length) H
    | _ => False) := by
  intro pins s σ H xs us Q I r h
  split at h
  · rename_i y
    exact call_len pins s σ H _ us Q I r ⟨_, _, rfl, ⟨h.1, rfl⟩, h.2⟩
  · rename_i p
    rcases h with ⟨ys, h1, h2⟩ | ⟨ys, h1, h2⟩ | ⟨kvs, h1, h2⟩
    · exact call_len pins s σ H _ us Q I r ⟨_, _, rfl, .inl ⟨ys, h1, rfl⟩, h2⟩
    · exact call_len pins s σ H _ us Q I r ⟨_, _, rfl, .inr ⟨ys, h1, rfl⟩, h2⟩
    · exact call_lenD pins s σ H _ us Q I r ⟨p, kvs, rfl, h1, h2⟩
  · exact h.elim
end
end L2
namespace L2
open PySem PySem.Spec PyProof.Rows
section
variable {X : Cx} {tg : Expr}
noncomputable def mNeg : V → Hp → VK → Prop := fun x H Q => match x with | .int i => Q (.int (-i)) H | _ => False
theorem uNeg : UnR X (unaryOp .USub) mNeg := fun pins s σ H x v Q I rx q => un_neg pins s σ H x v Q I rx (by
  unfold mNeg at q
  split at q
  · exact ⟨_, rfl, q⟩
  · exact q.elim)
noncomputable def kLen (K : PySem.W.Frag) : List V → Hp → VK → Prop := fun xs H Q => match xs with
    | [.str y] => y.length ≤ sizeLine ∧ Q (.int y.length) H
    | [.ref p] => (∃ xs, SqL K H p xs ∧ Q (.int xs.length) H) ∨ (∃ xs, SqT K H p xs ∧ Q (.int xs.length) H) ∨ ∃ kvs, H p = some (.dK kvs) ∧ Q (.int kvs.length) H
    | _ => False
theorem cLen : CallR X (.builtin "len") (kLen X.K) := qlen
noncomputable def kIsi : List V → Hp → VK → Prop := fun xs H Q => match xs with
  | [x, .ty T] => T ∈ ["int", "bool", "str", "tuple", "list", "dict"] ∧ ∃ t, tyN H x = some t ∧ Q (.bl (isI t T)) H
  | _ => False
theorem cIsi : CallR X (.builtin "isinstance") kIsi := fun pins s σ H xs us Q I r h => by
  unfold kIsi at h
  split at h
  · obtain ⟨h1, t, h2, h3⟩ := h
    exact call_isi pins s σ H _ us Q I r ⟨_, _, t, rfl, h1, h2, h3⟩
  · exact h.elim
noncomputable def kTuple (K : PySem.W.Frag) : List V → Hp → VK → Prop := fun xs H Q => ∃ p ys, xs = [.ref p] ∧ ((SqL K H p ys ∧ ∀ l, H l = none → Q (.ref l) (upd H l (.tup ys))) ∨ (SqT K H p ys ∧ Q (.ref p) H))
theorem cTuple : CallR X (.type "tuple") (kTuple X.K) := call_tuple_of
noncomputable def kStr : List V → Hp → VK → Prop := fun xs H Q => match xs with
  | [.int i] => i.natAbs.log2 < 1920 ∧ Q (.str (toString i)) H
  | _ => False
theorem cStr : CallR X (.type "str") kStr := fun pins s σ H xs us Q I r h => by
  unfold kStr at h
  split at h
  · exact call_str_int pins s σ H _ us Q I r ⟨_, rfl, h.1, h.2⟩
  · exact h.elim
end
end L2
namespace L2
open PySem PySem.Spec PyProof.Rows
structure Items (J : It) (n : Nat) (it : Nat → V) (Pv : Hp → Prop) : Prop where
  go : ∀ i H, i < n → Pv H → J.go i H
  yld : ∀ i H x H', i < n → Pv H → J.yld i H x H' → H' = H ∧ x = it i
  stop : ∀ H, Pv H → J.stop n H
theorem Same.upd {H : Hp} {p : Addr} {o : HO} (h : H p = none) : Same H (upd H p o) := fun b u e => by rw [upd_ne (ne_of_none e h)]; exact e
theorem atI_lt {xs : List V} {i : Int} (h0 : 0 ≤ i) (h1 : i < xs.length) : atI xs i = some (xs.getD i.toNat .non) := by
  unfold atI ixN
  rw [if_pos h0, if_pos h1]
  show xs[i.toNat]? = _
  rw [List.getD_eq_getElem?_getD]
  have : i.toNat < xs.length := by omega
  rw [List.getElem?_eq_getElem this]; rfl
end L2
namespace L2
open PySem PySem.Spec PyProof.Rows
noncomputable def notStar : Expr → Bool
  | .Starred _ _ => false
  | _ => true
theorem starEach_plain {e : Expr} (h : notStar e = true) (rest : List Expr) (env : Env) : starEach (e :: rest) env = (false, eval e env) :: starEach rest env := by
  cases e <;> first | rfl | cases h
noncomputable def noStars : List Expr → Bool
  | [] => true
  | e :: r => notStar e && noStars r
theorem noStars_any : ∀ {es : List Expr} {env : Env} {pos : Pos}, noStars es = true → (backTo pos (starEach es env)).any (·.1) = false
  | [], _, _, _ => rfl
  | e :: r, env, pos, h => by
    have h : (notStar e && noStars r) = true := h
    rw [Bool.and_eq_true] at h
    rw [starEach_plain h.1]
    show (false || (backTo pos (starEach r env)).any (·.1)) = false
    rw [noStars_any h.2]; rfl
section
variable {X : Cx} {e : Expr} {es : List Expr} {te : TE} {t : TA} {pos : Pos}
theorem qa_cons (ha : PE X e te) (hr : PA X es t) (hs : notStar e = true := by rfl) : PA X (e :: es) (tCons te t) := pa_cons ha hr (starEach_plain hs es X.env)
variable {x : Str} {p apos cpos : Pos} {id T : String} {r : List V → Hp → VK → Prop}
theorem q_callB (hc : CallR X (.builtin id) r) (hg : Gl X x) (hm : X.mg x = none) (hv : bootBuiltins x = some (.builtin id)) (ha : PA X (e :: es) t) (hn : x ≠ "__name__" := by decide) (hdb : (x == ("__debug__" : Str)) = false := by decide)
    (hs : noStars (e :: es) = true := by rfl) : PE X (.Call (.Name x p) (e :: es) [] pos) (tCB r t) :=
  have h : (notStar e && noStars es) = true := hs
  pe_callB hc hg hm hv ha hn hdb (starEach_plain (Bool.and_eq_true_iff.mp h).1 es X.env) (noStars_any (Bool.and_eq_true_iff.mp h).2)
theorem q_callTy (hc : CallR X (.type T) r) (hg : Gl X x) (hm : X.mg x = none) (hv : bootBuiltins x = some (.type T)) (ha : PA X (e :: es) t) (hn : x ≠ "__name__" := by decide) (hdb : (x == ("__debug__" : Str)) = false := by decide)
    (hs : noStars (e :: es) = true := by rfl) : PE X (.Call (.Name x p) (e :: es) [] pos) (tCB r t) :=
  have h : (notStar e && noStars es) = true := hs
  pe_callTy hc hg hm hv ha hn hdb (starEach_plain (Bool.and_eq_true_iff.mp h).1 es X.env) (noStars_any (Bool.and_eq_true_iff.mp h).2)
variable {CX : CXT} {k : Nat} {f C : Addr} {fd : FuncData} {ps : List Str} {sp : Sp} {dvs : List V} {ds : List Value} {E : XK} {m : Str} {o : Expr} {ta : TE}
theorem all_noStars : ∀ {es : List Expr} {env : Env} {pos : Pos}, noStars es = true → (backTo pos (starEach es env)).all (fun x => !x.1) = true
  | [], _, _, _ => rfl
  | e :: r, env, pos, h => by
    have h : (notStar e && noStars r) = true := h
    rw [Bool.and_eq_true] at h
    rw [starEach_plain h.1]
    show (true && (backTo pos (starEach r env)).all (fun x => !x.1)) = true
    rw [all_noStars h.2]; rfl
variable {to : TE} {name : Str} {rm : V → List V → Hp → VK → Prop}
theorem q_bm (pa : PlainAttrs T) (slot : Slot T name id) (hty : typeOf (.builtin id) = pure (.type "method_descriptor")) (hm : MtR X id rm) (ho : PE X o to) (ha : PA X (e :: es) t)
    (hbase : attributeBase o name X.env (eval o X.env) = eval o X.env := by rfl) (hfew : decide ((e :: es).length < 30) = true := by rfl)
    (hline : (apos.endLine == cpos.line) = true := by rfl) (hs : noStars (e :: es) = true := by rfl) : PE X (.Call (.Attribute o name apos) (e :: es) [] cpos) (tBM X.K T rm to t) :=
  have h : (notStar e && noStars es) = true := hs
  pe_bm pa slot hty hm ho ha hbase (by rw [all_noStars hs]; exact hfew) hline (starEach_plain (Bool.and_eq_true_iff.mp h).1 es X.env) (noStars_any (Bool.and_eq_true_iff.mp h).2)
end
end L2
namespace L2
open PySem PySem.Spec PyProof.Rows
structure QE (X : Cx) (e : Expr) (t : TE) : Prop where
  out : PE X e t
structure QT (X : Cx) (e : Expr) (t : TT) : Prop where
  out : PT X e t
structure QW (X : Cx) (e : Expr) (t : TT) : Prop where
  out : PW X e t
structure QA (X : Cx) (e : List Expr) (t : TA) : Prop where
  out : PA X e t
structure QS (X : Cx) (e : Stmt) (t : TS) : Prop where
  out : PS X e t
structure QSs (X : Cx) (e : List Stmt) (t : TS) : Prop where
  out : PSs X e t
structure QI (X : Cx) (tg iter : Expr) (t : TI) : Prop where
  out : PI X tg iter t
structure QO (X : Cx) (e : Option Expr) (t : TO) : Prop where
  out : PO X e t
section
variable {X : Cx} {a b c e o : Expr} {es rest : List Expr} {ta tb tc te to tv : TE} {tA tB' : TT} {t : TA} {pos apos cpos p : Pos} {x y : Str}
theorem x_var (i : Nat) (hN : X.N[i]? = some x := by rfl) (hv : Vis X.env.scope x := by first | exact Or.inl rfl | exact Or.inr (Or.inl rfl) | exact Or.inr (Or.inr rfl)) (hd : (x == ("__debug__" : Str)) = false := by decide)
    (hcd : (x == ("__classdict__" : Str)) = false := by decide) : QE X (.Name x pos) (mVar i) := ⟨qv i hN hv hd hcd⟩
theorem x_gi {i : Int} (hm : ∃ t, X.mg x = some (.int i t)) (hg : Gl X x := by rfl) (hd : (x == ("__debug__" : Str)) = false := by decide) : QE X (.Name x pos) (tC (.int i)) := ⟨qgi hm hg hd⟩
theorem x_ty {T : String} (hm : X.mg x = none) (hv : bootBuiltins x = some (.type T)) (hg : Gl X x := by rfl) (hn : x ≠ "__name__" := by decide) (hd : (x == ("__debug__" : Str)) = false := by decide) : QE X (.Name x pos) (tC (.ty T)) := ⟨pe_bltn hg hm hv rfl hn hd⟩
theorem x_int {i : Int} {j} : QE X (.Constant (.int i) j pos) (tC (.int i)) := ⟨pe_int⟩
theorem x_bl {b : Bool} {j} : QE X (.Constant (.bool b) j pos) (tC (.bl b)) := ⟨pe_bl⟩
theorem x_non {j} : QE X (.Constant .none j pos) (tC .non) := ⟨pe_non⟩
theorem x_str {z : Str} {j} : QE X (.Constant (.str z) j pos) (tC (.str z)) := ⟨pe_str⟩
theorem x_neg (ha : QE X a ta) : QE X (.UnaryOp .USub a pos) (tUn mNeg ta) := ⟨pe_un uNeg ha.out⟩
theorem x_not (ha : QE X a ta) : QE X (.UnaryOp .Not a pos) (mNotV ta) := ⟨qnotV ha.out⟩
theorem x_op {op : Operator} {r : R2} (ho : OpR X (binaryOp op) r) (ha : QE X a ta) (hb : QE X b tb) : QE X (.BinOp a op b pos) (tOp r ta tb) := ⟨pe_op ho ha.out hb.out⟩
theorem x_cmp {op : CmpOp} {r : R2} (ho : OpR X (compareOp op) r) (ha : QE X a ta) (hb : QE X b tb) (hm : behindInMarks op b = false := by first | exact nomark _ | rfl) : QE X (.Compare a [op] [b] pos) (tOp r ta tb) := ⟨qc ho ha.out hb.out hm⟩
theorem x_chain {op op' : CmpOp} {r r' : R2} (ho : OpR X (compareOp op) r) (ho' : OpR X (compareOp op') r') (ha : QE X a ta) (hb : QE X b tb) (hc : QE X c tc) (hm : lastMarks [op, op'] [b, c] = false := by with_unfolding_all rfl) :
    QE X (.Compare a [op, op'] [b, c] pos) (mChain r r' ta tb tc) := ⟨qch ho ho' ha.out hb.out hc.out hm⟩
theorem x_one {op} (h : QE X a ta) : QE X (.BoolOp op [a] pos) ta := ⟨pe_one h.out⟩
theorem x_and (ha : QE X a ta) (hb : QE X (.BoolOp .And (b :: rest) pos) tb) : QE X (.BoolOp .And (a :: b :: rest) pos) (mAndV ta tb) := ⟨qand ha.out hb.out⟩
theorem x_if (hc : QT X c tA) (ha : QE X a ta) (hb : QE X b tb) : QE X (.IfExp c a b pos) (mIf tA ta tb) := ⟨qifx hc.out ha.out hb.out⟩
theorem x_nil : QA X [] tNil := ⟨pa_nil⟩
theorem x_cons (ha : QE X e te) (hr : QA X es t) (hs : notStar e = true := by rfl) : QA X (e :: es) (tCons te t) := ⟨qa_cons ha.out hr.out hs⟩
theorem x_lst (h : QA X es t) : QE X (.List es pos) (tLst t) := ⟨pe_lst h.out⟩
theorem x_tup {x1} (h : QA X es t) : QE X (.Tuple es x1 pos) (tTup t) := ⟨pe_tup h.out⟩
theorem x_ix {r : R2} (hr : IxR X r) (ha : QE X a ta) (hb : QE X b tb) (hs : PlainIx b) : QE X (.Subscript a b pos) (tOp r ta tb) := ⟨pe_ix hr ha.out hb.out hs⟩
theorem x_onone : QO X none tNoPart := ⟨po_none⟩
theorem x_osome (h : QE X e te) : QO X (some e) (tPart te) := ⟨po_some h.out⟩
theorem x_slice {r : V → Option Int → Option Int → Hp → VK → Prop} {lo hi : Option Expr} {tl th : TO} {p2 : Pos} (hr : SlR X r) (he : QE X e te) (hl : QO X lo tl) (hu : QO X hi th) : QE X (.Subscript e (.Slice lo hi none p2) pos) (tSl r te tl th) := ⟨pe_slice hr he.out hl.out hu.out⟩
variable {id T : String} {r : List V → Hp → VK → Prop}
theorem x_callB (hc : CallR X (.builtin id) r) (hm : X.mg x = none) (hv : bootBuiltins x = some (.builtin id)) (ha : QA X (e :: es) t) (hg : Gl X x := by rfl) (hn : x ≠ "__name__" := by decide) (hdb : (x == ("__debug__" : Str)) = false := by decide)
    (hs : noStars (e :: es) = true := by rfl) : QE X (.Call (.Name x p) (e :: es) [] pos) (tCB r t) := ⟨q_callB hc hg hm hv ha.out hn hdb hs⟩
theorem x_callTy (hc : CallR X (.type T) r) (hm : X.mg x = none) (hv : bootBuiltins x = some (.type T)) (ha : QA X (e :: es) t) (hg : Gl X x := by rfl) (hn : x ≠ "__name__" := by decide) (hdb : (x == ("__debug__" : Str)) = false := by decide)
    (hs : noStars (e :: es) = true := by rfl) : QE X (.Call (.Name x p) (e :: es) [] pos) (tCB r t) := ⟨q_callTy hc hg hm hv ha.out hn hdb hs⟩
variable {CX : CXT} {k : Nat} {f C : Addr} {fd : FuncData} {ps : List Str} {sp : Sp} {dvs : List V} {ds : List Value} {E : XK} {m : Str}
variable {name : Str} {rm : V → List V → Hp → VK → Prop}
theorem x_bm (pa : PlainAttrs T) (slot : Slot T name id) (hty : typeOf (.builtin id) = pure (.type "method_descriptor")) (hm : MtR X id rm) (ho : QE X o to) (ha : QA X (e :: es) t)
    (hbase : attributeBase o name X.env (eval o X.env) = eval o X.env := by rfl) (hfew : decide ((e :: es).length < 30) = true := by rfl)
    (hline : (apos.endLine == cpos.line) = true := by rfl) (hs : noStars (e :: es) = true := by rfl) : QE X (.Call (.Attribute o name apos) (e :: es) [] cpos) (tBM X.K T rm to t) := ⟨q_bm pa slot hty hm ho.out ha.out hbase hfew hline hs⟩
theorem x_tcmp {op : CmpOp} {r : R2} (ho : OpR X (compareOp op) r) (ha : QE X a ta) (hb : QE X b tb) (hm : behindInMarks op b = false := by first | exact nomark _ | rfl) : QT X (.Compare a [op] [b] pos) (mTest (tOp r ta tb)) := ⟨qtc ho ha.out hb.out hm⟩
theorem x_tchain {op op' : CmpOp} {r r' : R2} (ho : OpR X (compareOp op) r) (ho' : OpR X (compareOp op') r') (ha : QE X a ta) (hb : QE X b tb) (hc : QE X c tc) (hm : lastMarks [op, op'] [b, c] = false := by with_unfolding_all rfl) :
    QT X (.Compare a [op, op'] [b, c] pos) (mTest (mChain r r' ta tb tc)) := ⟨qtch ho ho' ha.out hb.out hc.out hm⟩
theorem x_test (h : QE X e te) (he : ∀ whole, isTrue e X.env whole = (do let v ← whole; standAt e.pos; holding [v] (truthy v)) := by intro _; rfl) : QT X e (mTru X.K te) := ⟨qtb h.out he⟩
theorem x_tnot (ha : QT X a tA) : QT X (.UnaryOp .Not a pos) (tNot tA) := ⟨pt_not ha.out⟩
theorem x_w (h : QW X e tA) : QT X e tA := ⟨h.out.pt⟩
theorem x_wand1 (ha : QT X a tA) : QW X (.BoolOp .And [a] pos) tA := ⟨qw_and1 ha.out⟩
theorem x_wor1 (ha : QT X a tA) : QW X (.BoolOp .Or [a] pos) tA := ⟨qw_or1 ha.out⟩
theorem x_wand (ha : QT X a tA) (hb : QW X (.BoolOp .And (b :: rest) pos) tB') : QW X (.BoolOp .And (a :: b :: rest) pos) (mAnd tA tB') := ⟨qw_and ha.out hb.out⟩
theorem x_wor (ha : QT X a tA) (hb : QW X (.BoolOp .Or (b :: rest) pos) tB') : QW X (.BoolOp .Or (a :: b :: rest) pos) (mOr tA tB') := ⟨qw_or ha.out hb.out⟩
variable {tg iter elt : Expr} {wi : TI} {ifs : List Expr} {scope : Scope} {ys : List Str} {is : List Nat} {px py spos : Pos}
theorem x_range1 (hm : X.mg "range" = none) (ha : QA X [a] t) (hg : Gl X "range" := by rfl) (hs : notStar a = true := by rfl) : QI X tg (.Call (.Name "range" p) [a] [] pos) (iRng1 t) := ⟨pi_range1 hg hm ha.out (starEach_plain hs [] X.env)⟩
theorem x_range2 (hm : X.mg "range" = none) (ha : QA X [a, b] t) (hg : Gl X "range" := by rfl) (hs : notStar a = true := by rfl) (hs2 : notStar b = true := by rfl) : QI X tg (.Call (.Name "range" p) [a, b] [] pos) (iRng2 t) :=
  ⟨pi_range2 hg hm ha.out (by rw [starEach_plain hs, starEach_plain hs2]; rfl) (starEach_plain hs2 [] X.env)⟩
variable {st : Stmt} {sts : List Stmt} {tS uS : TS} {i j : Nat}
theorem x_snil : QSs X [] tNext := ⟨pss_nil⟩
theorem x_sone (h : QS X st tS) : QSs X [st] tS := ⟨pss_one h.out⟩
theorem x_scons (h1 : QS X st tS) (h2 : QSs X sts uS) : QSs X (st :: sts) (tSeq tS uS) := ⟨pss_cons h1.out h2.out⟩
theorem x_ret (h : QE X e te) : QS X (.Return (some e) pos) (tRet te) := ⟨ps_ret h.out⟩
theorem x_ifS {l m : List Stmt} (hc : QT X c tA) (ha : QSs X l tS) (hb : QSs X m uS) : QS X (.If c l m pos) (mIfS tA tS uS) := ⟨qif hc.out ha.out hb.out⟩
theorem x_set (i : Nat) (hN : X.N.Nodup) (he : QE X e te) (hi : X.N[i]? = some x := by rfl) (hx : Loc X.env.scope x := by first | exact .inl rfl | exact .inr rfl)
    (hs : swapsWith e (some (.Name x p)) pos.line X.env = pure false := by rfl) (hf : X.fn x = true ∨ X.env.scope.names.lookup x = some .local := by first | exact .inl rfl | exact .inr rfl) : QS X (.Assign [.Name x p] e pos) (tAsg te (gName i)) := ⟨ps_set hN hi hx he.out hs hf⟩
theorem x_drop (h : QE X e te) (hs : swapsWith e none pos.line X.env = pure false := by rfl) : QS X (.Expr e pos) (tDrop te) := ⟨ps_expr h.out hs⟩
theorem x_for (i : Nat) (hN : X.N.Nodup) {body : List Stmt} (hi : QI X (.Name x px) iter wi) (hb : QSs X body tS) (hp : PassesOwn (model X.prog X.w) X.A X.env X.xe) (hc : X.calm = true := by rfl)
    (hj : X.N[i]? = some x := by rfl) (hx : Loc X.env.scope x := by first | exact .inl rfl | exact .inr rfl) (hf : X.fn x = true ∨ X.env.scope.names.lookup x = some .local := by first | exact .inl rfl | exact .inr rfl)
    (hs : ∀ x, foldedSetIterable iter X.env x = pure x := by intro _; rfl) : QS X (.For (.Name x px) iter body [] pos) (tFor wi (gName i) tS) := ⟨ps_for hp hc hi.out (pg_name hN hj hx hf) hb.out hs⟩
theorem x_never : QS X st tNever := ⟨ps_never⟩
end
end L2
namespace L2
open PySem PySem.Spec PyProof.Rows
structure Fly (P : Program) (w : World) (l : List Env) (H : Hp) (s : Shared) (cls fl : Value) (a : Addr) (H' : Hp) (s' : Shared) : Prop where
  os : s'.os = s.os
  bare : AllBare s'.gens
  un : Un (frs l) [] H H' s.heap s'.heap
  hok : HOk P w H' s'.heap
  new : s.heap.get? a = none
  free : H' a = none
  tr : ∃ oe vs a0 T oT ts, s'.heap.get? a = some oe ∧ oe.cls = cls ∧ oe.data = .fields vs ∧ vs[0]? = some a0 ∧ vs[1]? = some (.ref T) ∧ T ≠ a ∧ s'.heap.get? T = some oT ∧ oT.data = .fields ts ∧ ts[3]? = some fl ∧ s.heap.get? T = none ∧ H' T = none
noncomputable def CX1 (P : Program) (w : World) : CXT := fun outer H s E e s' => ∃ a C H', e = .ref a ∧ Fly P w outer H s (.ref C) .none a H' s' ∧ E (.ref C) none H'

theorem obj_some {P : Program} {w : World} {H : Hp} {h : Heap} {a : Addr} {o : HO} (x : ObjOk P w H h a o) : ∃ u, h.get? a = some u := by
  cases o with
  | lst xs => obtain ⟨_, _, _, _, e⟩ := x; exact ⟨_, e⟩
  | tup xs => obtain ⟨_, _, _, p⟩ := x; obtain ⟨o, e, _⟩ := p; exact ⟨_, e⟩
  | dK kvs => obtain ⟨_, _, _, _, o, _, _, e, _⟩ := x; exact ⟨_, e⟩
  | dT kvs => obtain ⟨_, _, _, _, o, _, _, e, _⟩ := x; exact ⟨_, e⟩
  | set S n => obtain ⟨o, _, _, _, e, _⟩ := x; exact ⟨_, e⟩
  | ins C dx fs => obtain ⟨_, _, _, e, _⟩ := x; exact ⟨_, e⟩
  | own y => exact x
  | xd fs => obtain ⟨_, ⟨_, _, _, e, _⟩, _⟩ := x; exact ⟨_, e⟩
  | rng lo hi => obtain ⟨_, _, _, e⟩ := x; exact ⟨_, e⟩
  | frz ob u => obtain ⟨e, _⟩ := x; exact ⟨_, e⟩
  | tbl ps => exact ⟨_, (show h.get? a = some _ from x)⟩
  | met f y => exact ⟨_, (show h.get? a = some _ from x)⟩
  | ext φ => obtain ⟨_, e, _⟩ := x; exact e
section
variable {P : Program} {w : World} {l : List Env} {H H' : Hp} {s s' : Shared} {cls fl fl' : Value} {a : Addr} {base : Heap}
end
end L2
namespace L2
open PySem PySem.Spec PyProof.Rows
section
variable {X : Cx} {pins : List (Addr × Obj)} {σ : St} {H H' : Hp} {s s' : Shared} {cls fl : Value} {a : Addr}
end

noncomputable def PassS (CX : CXT) (X : Cx) (E : St → XK) : Prop := ∀ (pins : List (Addr × Obj)) (σ : St) (H : Hp) (s : Shared) (e : Value) (s' : Shared), Inv X pins σ H s → CX X.stack H s (E σ) e s' → X.xe e s'
theorem passF {P : Program} {w : World} {X : Cx} : PassS (CX1 P w) X (fun _ => E0) := fun pins σ H s e s' I ⟨_, _, _, _, _, h⟩ => h.elim

section
variable {P : Program} {w : World} {K : PySem.W.Frag} {mg : Str → Option Value} {base : Heap} {N : List Str} {qual : Str} {scope : Scope} {f : Addr} {cd : Value} {A : Around} {outer : List Env} {s : Shared} {H : Hp} {E : XK}
end

noncomputable def tCallX (sp : Sp) (E : St → XK) (t : TA) : TE := fun σ H Q => t σ H fun vs H1 => sp vs H1 Q (E σ)
section
variable {X : Cx} {CX : CXT} {k : Nat} {f : Addr} {fd : FuncData} {ps : List Str} {sp : Sp} {E : St → XK} {x : Str} {p pos : Pos} {e : Expr} {es : List Expr} {t : TA}
theorem run_fnX {pins : List (Addr × Obj)} {σ : St} {H : Hp} {s : Shared} {Q : VK} {us : List Value} {vs : List V} (F : FnOk X.prog X.w X.K X.mg X.base CX k f fd ps sp) (hr : Room k X.A) (hb : Binds X.K fd ps []) (hx : PassS CX X E)
    (I : Inv X pins σ H s) (r : Vals vs us) (h : sp vs H Q (E σ)) : wpAny (model X.prog X.w) X.A (call (.ref f) us) (EP X pins σ Q) X.xe s := by
  have hl : us.length = ps.length := by rw [← r.length]; exact F.len _ _ _ _ h
  have hb' := hb s us I.kIn (by rw [List.append_nil]; exact hl)
  rw [List.append_nil] at hb'
  refine wpAny_call (codeAny_mono (F.run X.A X.stack s H ⟨us, []⟩ us vs Q (E σ) hr I.env0 hb' r h) fun r s' hq => ?_)
  cases r with
  | error e => exact hx pins σ H s e s' I hq
  | ok fl =>
    cases fl with
    | ret u => exact I.after hq
    | next => exact False.elim hq
    | brk => exact False.elim hq
    | cont => exact False.elim hq
theorem x_callX (F : FnOk X.prog X.w X.K X.mg X.base CX k f fd ps sp) (hr : Room k X.A) (hm : X.mg x = some (.ref f)) (hk : PySem.W.keepIn X.K (.ref f) = true) (hb : Binds X.K fd ps []) (hx : PassS CX X E)
    (ha : QA X (e :: es) t) (hg : Gl X x := by rfl) (hdb : (x == ("__debug__" : Str)) = false := by decide) (hs : noStars (e :: es) = true := by rfl) : QE X (.Call (.Name x p) (e :: es) [] pos) (tCallX sp E t) := by
  refine ⟨fun pins s σ H Q I h => ?_⟩
  have h' : (notStar e && noStars es) = true := hs
  refine wpAny_Call_Name_kw (ld_glob I hg hm ?_ hdb)
  refine PySem.W.callWith_K (h₀ := X.base) I.ok.mod.kin hk (thn (ha.out pos pins s σ H _ I h) fun us s1 ⟨vs, H1, I1, r, q⟩ => ⟨I1.kIn, ?_⟩) (starEach_plain (Bool.and_eq_true_iff.mp h').1 es X.env) (noStars_any (Bool.and_eq_true_iff.mp h').2)
  exact run_fnX F hr hb hx I1 r q
end
end L2
namespace L2
open PySem PySem.Spec PyProof.Rows
section
variable {X : Cx} {pins : List (Addr × Obj)} {σ : St} {H H1 H' : Hp} {s s0 : Shared} {a : Addr} {o : HO}
end
section
variable {X : Cx} {pins : List (Addr × Obj)} {σ : St} {H : Hp} {s : Shared} {a : Addr}
end
noncomputable abbrev TH := Ends → St → Addr → Hp → Prop
section
variable {X : Cx}
variable {x n : Str} {np hp : Pos} {Dc : Addr} {b0 : Stmt} {suite : List Stmt} {rest : List ExceptHandler} {ts : TS} {r : TH} {i : Nat}
end
end L2
namespace L2
open PySem PySem.Spec PyProof.Rows
section
variable {X : Cx} {pins pn : List (Addr × Obj)} {σ : St} {H : Hp} {s : Shared} {E' : Value → Shared → Prop}
end
section
variable {X : Cx}
end
end L2
namespace L2
open PySem PySem.Spec PyProof.Rows
section
variable {K : PySem.W.Frag} {prog : Program} {w : World} {A : Around} {E : Value → Shared → Prop} {h : Heap} {g : Array GenState} {d : Drawn} {t : Nat} {os : OsState} {a C : Addr} {o : Obj}
end
section
variable {X : Cx}
end
end L2
namespace HT
open PySem PyProof.Rows
section
variable {prog : Program} {w : World} {A : Around} {E : Value → Shared → Prop} {s : Shared}
theorem getItem_tuple_whole {t sl : Addr} {items : Array Value} {vl vu : Value} {lo hi : Option Int} {Q : Value → Shared → Prop} (ht : IsTup s.heap t items) (hs : s.heap.IsSliceOf sl vl vu .none) (pl : IsPart vl lo) (pu : IsPart vu hi)
    (hw : sIx items.size 0 lo = 0 ∧ sIx items.size items.size hi = items.size) (h : Q (.ref t) s) : wpAny (model prog w) A (getItem (.ref t) (.ref sl)) Q E s := by
  obtain ⟨os, hos, hcs, hds⟩ := id hs
  have hTs : s.TypeIs (.ref sl) "slice" := ⟨os, hos, hcs⟩
  unfold getItem
  try with_reducible refine wpAny_holding ?_
  first | refine wpAny_bind (wpAny_pure ?_) | skip
  refine wpAny_bind (wpAny_sequenceKey ht.typeIs (by decide) ?_)
  refine wpAny_bind (wpAny_callSpecial?_slot (name := Str.ofString "__getitem__") ht.typeIs PyProof.Rows.slot_tuple_getitem
    (wpAny_call_entry PyProof.Rows.slot_tuple_getitem ht.typeIs entry_tuple_getitem ?_ (args_tuple_getitem _ _)))
  show wpAny _ _ (Builtin.Tuple.tupleItemsOf (.ref t) >>= _) _ _ s
  refine wpAny_bind (tupleItemsOf_ ht ?_)
  refine wpAny_bind (wpAny_typeOf hTs ?_)
  rw [if_pos (by decide)]
  refine wpAny_bind (sliceApplied_gen hs pl pu ?_)
  have hyes : (((sIx items.size 0 lo : Nat) : Int) == 0 && (1 : Int) == 1 && (sIx items.size items.size hi - sIx items.size 0 lo) == items.size) = true := by
    rw [hw.1, hw.2]; simp
  show wpAny _ _ (if (((sIx items.size 0 lo : Nat) : Int) == 0 && (1 : Int) == 1 && (sIx items.size items.size hi - sIx items.size 0 lo) == items.size) = true then _ else _) _ _ s
  rw [if_pos hyes]
  have hte : s.TypeIs (.ref t) "tuple" := ht.typeIs
  unfold Builtin.Tuple.tupleIsExact
  repeat (first | exact ⟨_, rfl, wpAny_pure h⟩ | (with_reducible refine wpAny_typeOf hte ?_) | wp_step)
end
end HT
namespace HT
open PySem PyProof.Rows
section
variable {prog : Program} {w : World} {A : Around} {E : Value → Shared → Prop} {s : Shared}
theorem cat_tup0 {t b : Addr} {ws : List Value} {Q : Value → Shared → Prop} (ht : IsTup s.heap t #[]) (hb : IsTup s.heap b ws.toArray) (h1 : Q (.ref b) s) : wpAny (model prog w) A (binaryOp .Add (.ref t) (.ref b)) Q E s := by
  obtain ⟨⟨cls, dd, data, sl⟩, ho, hc, n, hd⟩ := id ht
  obtain ⟨⟨cls2, dd2, data2, sl2⟩, ho2, hc2, n2, hd2⟩ := id hb
  simp only at hc hd hc2 hd2
  subst hc hd hc2 hd2
  exact concat_meets ⟨_, ho, rfl⟩ ⟨_, ho2, rfl⟩ noFill_tuple_add seq_tuple_add PySem.F.slot_tuple_add PySem.F.entry_tuple_add (PySem.F.args_tuple_add_2 _ _)
      (tuple_addW0 t b #[] ws.toArray n n2 dd dd2 sl sl2 (by simp)) ⟨ho, ho2, h1⟩
end
end HT
namespace L2
open PySem PySem.Spec PyProof.Rows
theorem Same.rfl' {H : Hp} : Same H H := fun _ _ e => e
theorem cutV_whole {xs : List V} {lo hi : Option Int} (h : HT.sIx xs.length 0 lo = 0 ∧ HT.sIx xs.length xs.length hi = xs.length) : cutV xs lo hi = xs := by
  unfold cutV
  rw [h.1, h.2, List.drop_zero, Nat.sub_zero, List.take_length]
section
variable {X : Cx}
noncomputable def rSlTG : V → Option Int → Option Int → Hp → VK → Prop := fun x lo hi H Q => ∃ a xs, x = .ref a ∧ H a = some (.tup xs) ∧ ∀ p H', Same H H' → H' p = some (.tup (cutV xs lo hi)) → Q (.ref p) H'
theorem sl_tupG : SlR X rSlTG := by
  intro pins s σ H x v vl vu lo hi sl Q I rx hs pl pu h
  obtain ⟨a, xs, rfl, hx, q⟩ := h
  have hq : SqT X.K H a xs := .inl (.inl hx)
  by_cases hw : HT.sIx xs.length 0 lo = 0 ∧ HT.sIx xs.length xs.length hi = xs.length
  · cases rx
    obtain ⟨its, r, ht, hz⟩ := I.tuple hq
    have hlen : its.toArray.size = xs.length := by rw [List.size_toArray]; exact r.length.symm
    refine ⟨"tuple", _, PyProof.Rows.slot_tuple_getitem.lookup, ht.typeIs, ?_⟩
    refine HT.getItem_tuple_whole ht hs pl pu (by rw [hlen]; exact hw) ?_
    exact ⟨.ref a, H, I, rfl, q a H Same.rfl' (by rw [cutV_whole hw]; exact hx)⟩
  · exact sl_tup pins s σ H _ v vl vu lo hi sl Q I rx hs pl pu ⟨a, xs, rfl, hq, hw, fun p hp => q p _ (Same.upd hp) (upd_same ..)⟩
noncomputable def rCatG : R2 := fun x y H Q => ∃ a b xs ys, x = .ref a ∧ y = .ref b ∧ H a = some (.tup xs) ∧ H b = some (.tup ys) ∧ xs.length + ys.length ≤ sizeLine ∧ ∀ p H', Same H H' → H' p = some (.tup (xs ++ ys)) → Q (.ref p) H'
theorem op_catG : OpR X (binaryOp .Add) rCatG := by
  intro pins s σ H x y v u Q I rx ry h
  obtain ⟨a, b, xs, ys, rfl, rfl, ha, hb, hz, q⟩ := h
  by_cases hx : xs = []
  · subst hx
    cases rx
    cases ry
    obtain ⟨its, r1, p1, _⟩ := I.tuple (.inl (.inl ha))
    obtain ⟨its2, r2, p2, _⟩ := I.tuple (.inl (.inl hb))
    cases r1
    exact HT.cat_tup0 p1 p2 ⟨.ref b, H, I, rfl, q b H Same.rfl' hb⟩
  · refine op_catT pins s σ H _ _ v u Q I rx ry ⟨a, b, xs, ys, rfl, rfl, .inl (.inl ha), .inl (.inl hb), hx, hz, fun e => ?_, fun _ p hp => q p _ (Same.upd hp) (upd_same ..)⟩
    subst e
    exact q a H Same.rfl' (by rw [List.append_nil]; exact ha)
noncomputable def mAddG (K : PySem.W.Frag) : R2 := fun x y H Q => match x, y with
  | .int i, .int j => Q (.int (i + j)) H
  | .str i, .str j => i.length + j.length ≤ sizeLine ∧ Q (.str (i ++ j)) H
  | .ref a, .ref b => rCat (.ref a) (.ref b) H Q ∨ rCatG (.ref a) (.ref b) H Q
  | _, _ => False
theorem oAddG : OpR X (binaryOp .Add) (mAddG X.K) := (op_add.or (op_add_str.or (op_cat.or op_catG))).imp fun x y H Q q => by
  unfold mAddG at q
  split at q
  · exact .inl ⟨_, _, rfl, rfl, q⟩
  · exact .inr (.inl ⟨_, _, rfl, rfl, q.1, q.2⟩)
  · exact .inr (.inr q)
  · exact q.elim
noncomputable def rSlG (K : PySem.W.Frag) : V → Option Int → Option Int → Hp → VK → Prop := fun x lo hi H Q => rSlL K x lo hi H Q ∨ rSlTG x lo hi H Q
theorem sl_any : SlR X (rSlG X.K) := sl_list.or sl_tupG
end
end L2
namespace L2
open PySem PySem.Spec PyProof.Rows
theorem Fun.okN {P : Program} {w : World} {K : PySem.W.Frag} {mg : Str → Option Value} {base : Heap} {CX : CXT} {x qual : Str} {st : Stmt} {f : Addr} {fd : FuncData} {N ps : List Str} {k : Nat} {sp : Sp} (F : Fun K x qual st f fd) (S : FnScope N ps (defScope st)) (len : ∀ vs H Q E, sp vs H Q E → vs.length = ps.length)
    (hbody : ∀ (cdv : Value) (A : Around) (outer : List Env) (s : Shared) (H : Hp) (vs : List V) (Q : VK) (E : XK), Room k (A.deeper (envOfC qual (defScope st) s.heap.objs.size f cdv)) → sp vs H Q E →
      ∃ t, PSs (cxOf CX P w K mg base N qual (defScope st) f cdv A outer s H E).nox (defBody st) t ∧ t { nx := fun _ H' => Q .non H', rt := Q } (start N vs) H) : FnOk P w K mg base CX (k + 1) f fd ps sp := by
  obtain ⟨oc, od, kV, doc, pm, an, cdv, ct, osl, rfl, lk, hcd⟩ := F.ex
  refine fn_of lk hcd S len fun A outer s H vs Q E hr hsp => ?_
  obtain ⟨t, h, q⟩ := hbody cdv A outer s H vs Q E hr hsp
  exact ⟨t, h.nox, q⟩
end L2
namespace L2
open PySem PySem.Spec PyProof.Rows
section
variable {X : Cx}
noncomputable def rSlS : V → Option Int → Option Int → Hp → VK → Prop := fun x lo hi H Q => ∃ z, x = .str z ∧ z.length ≤ sizeLine ∧ Q (.str (Txt.slice z lo hi)) H
theorem sl_str : SlR X rSlS := by
  intro pins s σ H x v vl vu lo hi sl Q I rx hs pl pu h
  obtain ⟨z, rfl, hz, q⟩ := h
  obtain ⟨t, rfl⟩ := (show ∃ t, v = Value.str z t from rx)
  refine ⟨"str", _, F.slot_str_getitem.lookup, typeIs_str _ _ _, ?_⟩
  have fin : ∀ (l u : Option (Int × Tok)), l.map (·.1) = lo → u.map (·.1) = hi → s.heap.IsSlice sl l u none → wpAny (model X.prog X.w) X.A (getItem (.str z t) (.ref sl)) (EP X pins σ Q) X.xe s := fun l u e1 e2 hs' => by
    subst e1 e2
    refine wpAny_getItem_str_slice (l := l) (u := u) (st := none) hs' rfl (post_val_or_str ⟨Nat.le_trans (Txt.slice_le z _ _) hz, fun t' k => ⟨.str _, H, I.tok k, ⟨_, rfl⟩, q⟩⟩)
  obtain ⟨os, hos, hcs, hds⟩ := hs
  cases pl with
  | none => cases pu with
    | none => exact fin none none rfl rfl ⟨os, hos, hcs, hds⟩
    | int j tj => exact fin none (some (j, tj)) rfl rfl ⟨os, hos, hcs, hds⟩
  | int i ti => cases pu with
    | none => exact fin (some (i, ti)) none rfl rfl ⟨os, hos, hcs, hds⟩
    | int j tj => exact fin (some (i, ti)) (some (j, tj)) rfl rfl ⟨os, hos, hcs, hds⟩
noncomputable def rSlA (K : PySem.W.Frag) : V → Option Int → Option Int → Hp → VK → Prop := fun x lo hi H Q => rSlG K x lo hi H Q ∨ rSlS x lo hi H Q
theorem sl_all : SlR X (rSlA X.K) := sl_any.or sl_str
noncomputable def plainP : V → Bool
  | .int _ => true
  | .str _ => true
  | _ => false
theorem eqAt_plain {A : Around} {s : Shared} {x y : V} {u v : Value} (rx : RelV x u) (ry : RelV y v) (hx : plainP x = true) (hy : plainP y = true) : PySem.SeqAt.EqAt A s u v (decide (x = y)) := by
  cases x <;> first | cases hx | skip
  all_goals (cases y <;> first | cases hy | skip)
  · obtain ⟨t, rfl⟩ := rx; obtain ⟨t', rfl⟩ := ry
    have e := PySem.SeqAt.EqAt.int_int (A := A) (s := s) ‹Int› t ‹Int› t'
    rename_i i j
    have e2 : decide (V.int i = V.int j) = (i == j) := by rw [decV (f := V.int) fun _ _ e => V.int.inj e]; rfl
    rw [e2]; exact PySem.SeqAt.EqAt.int_int i t j t'
  · obtain ⟨t, rfl⟩ := rx; obtain ⟨t', rfl⟩ := ry
    exact PySem.SeqAt.EqAt.int_str _ _ _ _
  · obtain ⟨t, rfl⟩ := rx; obtain ⟨t', rfl⟩ := ry
    exact PySem.SeqAt.EqAt.str_int _ _ _ _
  · obtain ⟨t, rfl⟩ := rx; obtain ⟨t', rfl⟩ := ry
    rename_i i j
    have e2 : decide (V.str i = V.str j) = (i == j) := by
      rw [decV (f := V.str) fun _ _ e => V.str.inj e]
      by_cases h : i = j
      · rw [h]; simp
      · rw [decide_eq_false h]; exact (beq_eq_false_iff_ne.mpr h).symm
    rw [e2]; exact PySem.SeqAt.EqAt.str_str i t j t'
theorem eq_by_get {xs ys : List V} : decide (xs = ys) = ((List.range (min xs.length ys.length)).all (fun j => decide (xs[j]? = ys[j]?)) && xs.length == ys.length) := by
  by_cases h : xs = ys
  · subst h; simp
  · rw [decide_eq_false h]
    by_cases hl : xs.length = ys.length
    · rw [hl, Nat.min_self, beq_self_eq_true, Bool.and_true]
      symm
      rw [List.all_eq_false]
      apply Classical.byContradiction
      intro hn
      apply h
      apply List.ext_getElem? fun i => ?_
      by_cases hi : i < ys.length
      · apply Classical.byContradiction
        intro hne
        exact hn ⟨i, List.mem_range.mpr hi, by simpa using hne⟩
      · rw [List.getElem?_eq_none (by omega), List.getElem?_eq_none (by omega)]
    · have : (xs.length == ys.length) = false := by simpa using hl
      rw [this, Bool.and_false]
noncomputable def rEqT (K : PySem.W.Frag) : R2 := fun x y H Q => ∃ a b xs ys, x = .ref a ∧ y = .ref b ∧ SqT K H a xs ∧ SqT K H b ys ∧ xs.all plainP = true ∧ ys.all plainP = true ∧ Q (.bl (decide (xs = ys))) H
theorem op_eqT (hu : X.A.units < cLine) : OpR X (compareOp .Eq) (rEqT X.K) := by
  intro pins s σ H x y v u Q I rx ry h
  obtain ⟨a, b, xs, ys, rfl, rfl, ha, hb, px, py, q⟩ := h
  cases rx
  cases ry
  obtain ⟨its, r1, p1, _⟩ := I.tuple ha
  obtain ⟨its2, r2, p2, _⟩ := I.tuple hb
  have l1 := r1.length
  have l2 := r2.length
  refine PySem.SeqAt.eq_tupleAt (e := fun j => decide (xs[j]? = ys[j]?)) p1 p2 hu (fun j h1 h2 => ?_) ?_
  · have h1 : j < its.length := by simpa using h1
    have h2 : j < its2.length := by simpa using h2
    have e1 : xs[j]? = some xs[j] := List.getElem?_eq_getElem (by omega)
    have e2 : ys[j]? = some ys[j] := List.getElem?_eq_getElem (by omega)
    obtain ⟨u1, g1, ru1⟩ := r1.get e1
    obtain ⟨u2, g2, ru2⟩ := r2.get e2
    have g1' : its.toArray[j] = u1 := by
      rw [List.getElem?_eq_getElem h1] at g1; simpa using Option.some.inj g1
    have g2' : its2.toArray[j] = u2 := by
      rw [List.getElem?_eq_getElem h2] at g2; simpa using Option.some.inj g2
    rw [g1', g2', e1, e2]
    have : decide (some xs[j] = some ys[j]) = decide (xs[j] = ys[j]) := by simp
    rw [this]
    exact eqAt_plain ru1 ru2 (List.all_eq_true.mp px _ (List.getElem_mem _)) (List.all_eq_true.mp py _ (List.getElem_mem _))
  · have e := eq_by_get (xs := xs) (ys := ys)
    rw [l1, l2] at e
    simp only [List.size_toArray]
    rw [← e]
    exact ⟨.bl _, H, I, rfl, q⟩
noncomputable def mInS : R2 := fun x y H Q => match x, y with
  | .str i, .str j => Q (.bl (!(Builtin.Str.occurrences j i 0 j.length 1).isEmpty)) H
  | _, _ => False
theorem oInS : OpR X (compareOp .In) mInS := op_in_str.imp fun x y H Q q => by
  unfold mInS at q
  split at q
  · exact ⟨_, _, rfl, rfl, q⟩
  · exact q.elim
end
end L2
namespace HT
open PySem PyProof.Rows
section
variable {prog : Program} {w : World} {A : Around} {E : Value → Shared → Prop} {s : Shared}
structure ZipAt (h : Heap) (z TI TO i1 i2 t1 t2 : Addr) (xs ys : Array Value) (f0 : Value) (k : Nat) : Prop where
  z : IsZip h z TI TO f0
  ti : IsPair h TI (.ref i1) (.ref i2)
  to : ∃ a b, IsPair h TO a b
  j1 : h.IsTupleIter i1 t1 k
  j2 : h.IsTupleIter i2 t2 k
end
end HT
namespace HT
open PySem PyProof.Rows
section
variable {prog : Program} {w : World} {A : Around} {E : Value → Shared → Prop} {s : Shared}
end
end HT
namespace L2
open PySem PySem.Spec PyProof.Rows
section
variable {X : Cx} {pins : List (Addr × Obj)} {σ : St} {H : Hp} {s : Shared} {h' : Heap}
end
section
variable {X : Cx} {pins : List (Addr × Obj)} {σ : St} {H H1 : Hp} {s s0 : Shared} {a : Addr} {o : HO}
end
end L2
namespace L2
open PySem PySem.Spec PyProof.Rows
section
variable {X : Cx} {a b : Expr} {t : TA} {p pos ep : Pos} {elts : List Expr} {ek : Nat}
end
end L2
namespace L2
open PySem PySem.Spec PyProof.Rows
section
variable {X : Cx} {a b : Expr} {t : TA} {p pos ep px py : Pos} {elts : List Expr} {ek : Nat} {x y : Str} {iter : Expr} {wi : TI} {tS : TS}
theorem x_for2 (i j : Nat) (hN : X.N.Nodup) {body : List Stmt} (hi : QI X (.Tuple [.Name x px, .Name y py] ek ep) iter wi) (hb : QSs X body tS) (hp : PassesOwn (model X.prog X.w) X.A X.env X.xe) (hc : X.calm = true := by rfl)
    (hj : X.N[i]? = some x := by rfl) (hx : Loc X.env.scope x := by first | exact .inl rfl | exact .inr rfl) (hf : X.fn x = true ∨ X.env.scope.names.lookup x = some .local := by first | exact .inl rfl | exact .inr rfl)
    (hj2 : X.N[j]? = some y := by rfl) (hx2 : Loc X.env.scope y := by first | exact .inl rfl | exact .inr rfl) (hf2 : X.fn y = true ∨ X.env.scope.names.lookup y = some .local := by first | exact .inl rfl | exact .inr rfl)
    (hs : ∀ x, foldedSetIterable iter X.env x = pure x := by intro _; rfl) : QS X (.For (.Tuple [.Name x px, .Name y py] ek ep) iter body [] pos) (tFor wi (gTup X.K 2 (gCons (gName i) (gCons (gName j) gNil))) tS) :=
  ⟨ps_for hp hc hi.out (pg_tup hc (pgs_cons (pg_name hN hj hx hf) (pgs_cons (pg_name hN hj2 hx2 hf2) pgs_nil))) hb.out hs⟩
end
end L2
namespace L2
open PySem PySem.Spec PyProof.Rows
section
variable {X : Cx} {CX : CXT} {k : Nat} {f C : Addr} {fd : FuncData} {ps : List Str} {sp : Sp} {E : St → XK} {x m fl : Str} {p pos apos pos' : Pos} {e o value : Expr} {es : List Expr} {ta tv to : TE} {t : TA}
end
end L2
namespace L2
open PySem PySem.Spec PyProof.Rows
mutual
inductive DatV (K : PySem.W.Frag) (H : Hp) : V → PyData → Prop
  | non : DatV K H .non .none
  | bl (b) : DatV K H (.bl b) (.bool b)
  | int (i) : DatV K H (.int i) (.int i)
  | str (z) : DatV K H (.str z) (.str z)
  | lst {a xs ds} : SqL K H a xs → DatVs K H xs ds → DatV K H (.ref a) (.list ds)
  | tup {a xs ds} : SqT K H a xs → DatVs K H xs ds → DatV K H (.ref a) (.tuple ds)
inductive DatVs (K : PySem.W.Frag) (H : Hp) : List V → List PyData → Prop
  | nil : DatVs K H [] []
  | cons {x xs d ds} : DatV K H x d → DatVs K H xs ds → DatVs K H (x :: xs) (d :: ds)
end
section
variable {X : Cx}
mutual
theorem datV_reads {pins : List (Addr × Obj)} {σ : St} {H : Hp} {s : Shared} (I : Inv X pins σ H s) : ∀ {x : V} {d : PyData}, DatV X.K H x d → ∀ {v : Value}, RelV x v → ∃ as, Reads s.heap v d as
  | _, _, .non, _, r => by cases r; exact ⟨_, .none⟩
  | _, _, .bl b, _, r => by cases r; exact ⟨_, .bool b⟩
  | _, _, .int i, _, r => by obtain ⟨t, rfl⟩ := r; exact ⟨_, .int i t⟩
  | _, _, .str z, _, r => by obtain ⟨t, rfl⟩ := r; exact ⟨_, .str z t⟩
  | _, _, .lst h hs, _, r => by
    cases r
    obtain ⟨its, r1, ⟨o, n, h1, h2, _, h3⟩, _⟩ := I.list h
    obtain ⟨as, ra⟩ := datVs_reads I hs r1
    exact ⟨_, .list h1 h2 h3 (by simpa using ra)⟩
  | _, _, .tup h hs, _, r => by
    cases r
    obtain ⟨its, r1, ⟨o, h1, h2, n, h3⟩, _⟩ := I.tuple h
    obtain ⟨as, ra⟩ := datVs_reads I hs r1
    exact ⟨_, .tuple h1 h2 h3 (by simpa using ra)⟩
theorem datVs_reads {pins : List (Addr × Obj)} {σ : St} {H : Hp} {s : Shared} (I : Inv X pins σ H s) : ∀ {xs : List V} {ds : List PyData}, DatVs X.K H xs ds → ∀ {vs : List Value}, Vals xs vs → ∃ as, ReadsAll s.heap vs ds as
  | _, _, .nil, _, r => by cases r; exact ⟨_, .nil⟩
  | _, _, .cons h hs, _, r => by
    cases r with
    | cons r1 r2 =>
      obtain ⟨as, a⟩ := datV_reads I h r1
      obtain ⟨bs, b⟩ := datVs_reads I hs r2
      exact ⟨_, .cons a b⟩
end
noncomputable def rEqD (K : PySem.W.Frag) : R2 := fun x y H Q => ∃ d e, DatV K H x d ∧ DatV K H y e ∧ d.canLay0 = true ∧ e.canLay0 = true ∧ d.depth ≤ 150 ∧ Q (.bl (d.eqv e)) H
noncomputable def rNeD (K : PySem.W.Frag) : R2 := fun x y H Q => ∃ d e, DatV K H x d ∧ DatV K H y e ∧ d.canLay0 = true ∧ e.canLay0 = true ∧ d.depth ≤ 150 ∧ Q (.bl (!d.eqv e)) H
theorem op_eqD (hu : X.A.units + 150 < cLine) : OpR X (compareOp .Eq) (rEqD X.K) := by
  intro pins s σ H x y v u Q I rx ry h
  obtain ⟨d, e, hd, he, cd, ce, dp, q⟩ := h
  obtain ⟨as, ra⟩ := datV_reads I hd rx
  obtain ⟨bs, rb⟩ := datV_reads I he ry
  exact PySem.SeqAt.compareEq_reads ra rb cd ce (by have := Nat.min_le_left d.depth e.depth; omega) ⟨.bl _, H, I, rfl, q⟩
theorem op_neD (hu : X.A.units + 150 < cLine) : OpR X (compareOp .NotEq) (rNeD X.K) := by
  intro pins s σ H x y v u Q I rx ry h
  obtain ⟨d, e, hd, he, cd, ce, dp, q⟩ := h
  obtain ⟨as, ra⟩ := datV_reads I hd rx
  obtain ⟨bs, rb⟩ := datV_reads I he ry
  exact PySem.SeqAt.compareNe_reads ra rb cd ce (by have := Nat.min_le_left d.depth e.depth; omega) ⟨.bl _, H, I, rfl, q⟩
theorem Room.units150 {k : Nat} {A : Around} (r : Room k A) : A.units + 150 < cLine := by have := r.un; omega
noncomputable def mNeB (K : PySem.W.Frag) : R2 := fun x y H Q => match x, y with
  | .ref a, y => rNeD K (.ref a) y H Q
  | x, .ref b => rNeD K x (.ref b) H Q
  | x, y => mNe x y H Q
theorem oNeB (hu : X.A.units + 150 < cLine) : OpR X (compareOp .NotEq) (mNeB X.K) := ((op_neD hu).or oNe).imp fun x y H Q q => by
  unfold mNeB at q
  split at q
  · exact .inl q
  · exact .inl q
  · exact .inr q
noncomputable def kMin : List V → Hp → VK → Prop := fun xs H Q => match xs with | [.int i, .int j] => Q (.int (if j < i then j else i)) H | _ => False
theorem cMin (hc : X.calm = true) : CallR X (.builtin "min") kMin := fun pins s σ H xs us Q I r q => by
  unfold kMin at q
  split at q
  · exact call_min2 hc pins s σ H _ us Q I r ⟨_, _, rfl, q⟩
  · exact q.elim
variable {o : Expr} {to : TE} {name : Str} {apos cpos : Pos} {T id : String} {rm : V → List V → Hp → VK → Prop}
end
noncomputable def dInts (ns : List Int) : List PyData := ns.map PyData.int
theorem datVs_ints {K : PySem.W.Frag} {H : Hp} : ∀ ns : List Int, DatVs K H (ns.map V.int) (dInts ns)
  | [] => .nil
  | i :: r => .cons (.int i) (datVs_ints r)
theorem canLay_ints : ∀ ns : List Int, (PyData.list (dInts ns)).canLay0 = true
  | [] => rfl
  | i :: r => canLay_ints r
theorem depthAll_ints : ∀ ns : List Int, PyData.depthAll (dInts ns) = 0
  | [] => rfl
  | i :: r => by show max 0 (PyData.depthAll (dInts r)) = 0; rw [depthAll_ints r]; rfl
theorem depth_ints (ns : List Int) : (PyData.list (dInts ns)).depth ≤ 150 := by show PyData.depthAll (dInts ns) + 1 ≤ 150; rw [depthAll_ints]; decide
end L2
namespace L2
open PySem PySem.Spec PyProof.Rows
theorem line_ge {n : Nat} (h : n ≤ 1000000) : n ≤ sizeLine := by rw [sizeLine_eq]; omega
theorem pow2z (k : Nat) : ((2 ^ k : Nat) : Int) = (2 : Int) ^ k := by simp
theorem pow2_pos (k : Nat) : (0 : Int) < 2 ^ k := by have := Nat.two_pow_pos k; rw [← pow2z]; omega
theorem pow2_60 {k : Nat} (h : k ≤ 60) : (2 : Int) ^ k ≤ 2 ^ 60 := by
  have b : (2:Nat) ^ k ≤ 2 ^ 60 := Nat.pow_le_pow_right (by decide) h
  rw [← pow2z k]; omega
theorem cutV_ints (ns : List Int) (lo hi : Option Int) : ∃ zs : List Int, cutV (ns.map V.int) lo hi = zs.map V.int ∧ zs.length ≤ ns.length := by
  refine ⟨(ns.drop (HT.sIx ns.length 0 lo)).take (HT.sIx ns.length ns.length hi - HT.sIx ns.length 0 lo), ?_, ?_⟩
  · unfold cutV
    rw [List.length_map, List.map_take, List.map_drop]
  · rw [List.length_take, List.length_drop]; omega
theorem atI_ex {α : Type} {xs : List α} {i : Int} (h0 : 0 ≤ i) (h1 : i < xs.length) : ∃ c, atI xs i = some c := by
  unfold atI ixN
  rw [if_pos h0, if_pos h1]
  have : i.toNat < xs.length := by omega
  exact ⟨xs[i.toNat], by show xs[i.toNat]? = _; rw [List.getElem?_eq_getElem this]⟩
theorem natXor_add (x y : Nat) : x ||| y = (x &&& y) + (x ^^^ y) := by
  have h : ∀ n, ∀ x y : Nat, x < 2 ^ n → y < 2 ^ n → x ||| y = (x &&& y) + (x ^^^ y) := by
    intro n
    induction n with
    | zero => intro x y hx hy; have : x = 0 := by simpa using hx
              have : y = 0 := by simpa using hy
              subst_vars; rfl
    | succ n ih =>
      intro x y hx hy
      have i := ih (x / 2) (y / 2) (by omega) (by omega)
      rw [← Nat.div_add_mod (x ||| y) 2, ← Nat.div_add_mod (x &&& y) 2, ← Nat.div_add_mod (x ^^^ y) 2]
      rw [Nat.or_div_two, Nat.and_div_two, Nat.xor_div_two, i]
      have hm : (x ||| y) % 2 = (x &&& y) % 2 + (x ^^^ y) % 2 := by
        have a := @Nat.or_mod_two_pow x y 1
        have b := @Nat.and_mod_two_pow x y 1
        have c := @Nat.xor_mod_two_pow x y 1
        rw [Nat.pow_one] at a b c
        rw [a, b, c]
        rcases Nat.mod_two_eq_zero_or_one x with h | h <;> rcases Nat.mod_two_eq_zero_or_one y with h' | h' <;> rw [h, h'] <;> rfl
      omega
  have h2 : max x y < 2 ^ (max x y) := Nat.lt_two_pow_self
  exact h (max x y) x y (by omega) (by omega)
theorem bitXor_nat (x y : Nat) : Builtin.bitXor x y = ((x ^^^ y : Nat) : Int) := by
  unfold Builtin.bitXor Builtin.bitOr
  have e1 : Builtin.bitAnd x y = ((x &&& y : Nat) : Int) := by
    unfold Builtin.bitAnd
    rw [decide_eq_true (by omega : (0:Int) ≤ x), decide_eq_true (by omega : (0:Int) ≤ y)]; rfl
  have n (z : Nat) : Builtin.bitNot z < 0 := by unfold Builtin.bitNot; omega
  have nn (z : Nat) : (Builtin.bitNot (Builtin.bitNot z)).toNat = z := by unfold Builtin.bitNot; omega
  have e2 : Builtin.bitAnd (Builtin.bitNot x) (Builtin.bitNot y) = Builtin.bitNot ((x ||| y : Nat) : Int) := by
    unfold Builtin.bitAnd
    rw [decide_eq_false (by have := n x; omega : ¬ 0 ≤ Builtin.bitNot x), decide_eq_false (by have := n y; omega : ¬ 0 ≤ Builtin.bitNot y)]
    show Builtin.bitNot (((Builtin.bitNot (Builtin.bitNot x)).toNat ||| (Builtin.bitNot (Builtin.bitNot y)).toNat : Nat) : Int) = _
    rw [nn, nn]
  rw [e1, e2, natXor_add]
  unfold Builtin.bitNot
  omega
theorem bitAnd_one (x : Nat) : Builtin.bitAnd x 1 = ((x % 2 : Nat) : Int) := by
  unfold Builtin.bitAnd
  rw [decide_eq_true (by omega : (0:Int) ≤ x), decide_eq_true (by decide : (0:Int) ≤ 1)]
  show (((x : Int).toNat &&& (1 : Int).toNat : Nat) : Int) = _
  rw [Int.toNat_natCast, show (1 : Int).toNat = 1 from rfl, Nat.and_one_is_mod]
end L2
namespace L2
open PySem PySem.Spec PyProof.Rows
section
variable {X : Cx}
theorem Room.units1 {k : Nat} {A : Around} (r : Room k A) : A.units + 1 < cLine := by have := r.un; omega
noncomputable def rIxD : R2 := fun x y H Q => ∃ a v, x = .ref a ∧ DGet H a y (some v) ∧ Q v H
theorem ix_dict (hu : X.A.units + 1 < cLine) : IxR X rIxD := by
  intro value slice pins s σ H x y v u Q I rx ry h hs
  obtain ⟨a, w0, rfl, g, q⟩ := h
  obtain rfl : v = Value.ref a := rx
  have hT := dict_typeIs I g
  have h2 : wpAny (model X.prog X.w) X.A (getItem (.ref a) u) (EP X pins σ Q) X.xe s := d_getItem hu I g ry fun w' s3 I3 rw' => ⟨w0, H, I3, rw', q⟩
  unfold subscriptTail
  refine wpAny_bind ?_
  rw [getitemInPython_of_ne hT.not_modules]
  refine wpAny_bind (wpAny_specialOf hT PySem.F.slot_dict_getitem.lookup ?_)
  have fin : wpAny (model X.prog X.w) X.A (subscripted slice false (.ref a) u) (fun r s₃ => wpAny (model X.prog X.w) X.A (letTemporaryGo value (.ref a) r >>= fun _ => pure r) (EP X pins σ Q) X.xe s₃) X.xe s := by
    rw [hs]
    exact wpAny_operating (wpAny_mono h2 (fun r s₃ h₃ => wpAny_bind (wpAny_letTemporaryGo (wpAny_pure h₃))) fun _ _ x => x)
  first
    | exact wpAny_pure (wpAny_bind fin)
    | exact wpAny_bind (wpAny_pure (wpAny_bind fin))
    | exact wpAny_bind fin
noncomputable def rIxA (K : PySem.W.Frag) : R2 := fun x y H Q => rIx K x y H Q ∨ rIxD x y H Q
theorem ix_any (hu : X.A.units + 1 < cLine) : IxR X (rIxA X.K) := ix_seq.or (ix_dict hu)
variable {o e : Expr} {to te : TE} {p pos : Pos}
noncomputable def rInD : R2 := fun y x H Q => ∃ a o, x = .ref a ∧ DGet H a y o ∧ Q (.bl o.isSome) H
theorem op_inD (hu : X.A.units + 1 < cLine) : OpR X (compareOp .In) rInD := by
  intro pins s σ H x y v u Q I rx ry h
  obtain ⟨a, ov, rfl, g, q⟩ := h
  obtain rfl : u = Value.ref a := ry
  exact d_in hu I g rx fun s3 I3 => ⟨.bl ov.isSome, H, I3, rfl, q⟩
noncomputable def rInL (K : PySem.W.Frag) : R2 := fun y x H Q => ∃ d ds, DatV K H y d ∧ (DatV K H x (.list ds) ∨ DatV K H x (.tuple ds)) ∧ PyData.canLayAll0 ds = true ∧ d.canLay0 = true ∧ d.depth ≤ 140 ∧ Q (.bl (ds.any fun e => e.eqv d)) H
theorem op_inL (hu : X.A.units + 150 < cLine) : OpR X (compareOp .In) (rInL X.K) := by
  intro pins s σ H x y v u Q I rx ry h
  obtain ⟨d, ds, hd, hx, c1, c2, dp, q⟩ := h
  obtain ⟨as, ra⟩ := datV_reads I hd rx
  have hm : X.A.units + 1 + min (PyData.depthAll ds) d.depth < cLine := by have := Nat.min_le_right (PyData.depthAll ds) d.depth; omega
  rcases hx with hx | hx
  · obtain ⟨bs, rb⟩ := datV_reads I hx ry
    exact PySem.SeqAt.in_list_reads rb ra c1 c2 hm ⟨.bl _, H, I, rfl, q⟩
  · obtain ⟨bs, rb⟩ := datV_reads I hx ry
    exact PySem.SeqAt.in_tuple_reads rb ra c1 c2 hm ⟨.bl _, H, I, rfl, q⟩
noncomputable def mInA (K : PySem.W.Frag) : R2 := fun y x H Q => match y, x with
  | y, .ref a => rInD y (.ref a) H Q ∨ rInL K y (.ref a) H Q
  | y, x => mInS y x H Q
theorem oInA (hu : X.A.units + 150 < cLine) : OpR X (compareOp .In) (mInA X.K) := ((op_inD (by omega)).or ((op_inL hu).or oInS)).imp fun x y H Q q => by
  unfold mInA at q
  split at q
  · exact q.elim .inl fun z => .inr (.inl z)
  · exact .inr (.inr q)
noncomputable def tDNewA : TE := fun σ H Q => tDNewK σ H Q ∨ tDNewT σ H Q
theorem x_dnewA : QE X (.Dict [] [] pos) tDNewA := ⟨fun pins s σ H Q I h => h.elim (pe_dnewK pins s σ H Q I) (pe_dnewT pins s σ H Q I)⟩
theorem call_lenT : CallR X (.builtin "len") (fun xs H Q => ∃ p kvs, xs = [.ref p] ∧ H p = some (.dT kvs) ∧ Q (.int kvs.length) H) := by
  intro pins s σ H xs us Q I r h
  obtain ⟨a, kvs, rfl, e, q⟩ := h
  obtain ⟨u, rfl, r1⟩ := vals1 r
  cases r1
  obtain ⟨z, hd, ps, rel, dd⟩ := dt_of I.hok e
  have hl : ps.length = kvs.length := (Paired.length rel).symm
  have hT : s.TypeIs (.ref a) "dict" := dd.typeIs
  obtain ⟨o, es, ep, ho, hc, hdat, he, his, hn⟩ := dd
  have hsz : es.size = kvs.length := by rw [← hl]; have := congrArg List.length he; simpa using this
  have M : MeetsIn X.prog X.w (Builtin.«dict.__len__» ⟨[.ref a], []⟩) (fun _ R s => s.heap.get? a = some o ∧ R (.ok (.ret (.int kvs.length s.toks))) { s with toks := s.toks + 1 }) :=
    .of_wp fun A R s ⟨ho, h⟩ => by
      show wpAny _ _ (dictSize a >>= _) _ _ s
      unfold dictSize
      refine wpAny_bind (wpAny_bind (wpAny_dictEntries ho hdat (wpAny_pure ?_)))
      show wpAny _ _ (Builtin.Dict.pendingCount a >>= _) _ _ s
      refine wpAny_bind (wpAny_pendingCount_other hd ?_)
      refine wpAny_ret_mkInt ?_
      rw [Nat.add_zero, hsz]; exact h
  refine Calls.call_function_entry kind_len plain_len entry_len (args_len1 _) ?_
  unfold Builtin.«len»
  refine wpAny_bind (m := oneArg "len" _) (wpAny_pure ?_)
  refine wpAny_bind (m := callSpecial? (.ref a) (Str.ofString "__len__")) (wpAny_callSpecial?_slot (name := Str.ofString "__len__") hT F.slot_dict_len
    (call_meetsIn F.slot_dict_len hT F.entry_dict_len (F.args_dict_len_1 _) M ⟨ho, ?_⟩))
  show wpAny _ _ _ _ _ { s with toks := s.toks + 1 }
  refine wpAny_bind (wpAny_holding (wpAny_pure ?_))
  refine wpAny_bind (wpAny_letGo ?_)
  have zz : kvs.length ≤ sizeLine := z
  rw [sizeLine_eq] at zz
  show wpAny _ _ (if ((kvs.length : Nat) : Int) < 0 then _ else _) _ _ _
  rw [if_neg (by omega)]
  show wpAny _ _ (if ((kvs.length : Nat) : Int) ≥ 2 ^ 63 then _ else _) _ _ _
  rw [if_neg (by omega)]
  exact wpAny_bind (wpAny_mkInt (wpAny_pure ⟨_, rfl, ⟨.int kvs.length, H, I.tok _, ⟨_, rfl⟩, q⟩⟩))
noncomputable def kLenA (K : PySem.W.Frag) : List V → Hp → VK → Prop := fun xs H Q => kLen K xs H Q ∨ ∃ p kvs, xs = [.ref p] ∧ H p = some (.dT kvs) ∧ Q (.int kvs.length) H
theorem cLenA : CallR X (.builtin "len") (kLenA X.K) := cLen.or call_lenT
noncomputable def DDef (H : Hp) (a : Addr) (y d : V) (r : V) (H' : Hp) : Prop := (DGet H a y (some r) ∧ H' = H) ∨ (DGet H a y none ∧ DPut H a y d H' ∧ r = d)
theorem dictSetDefault_heap {A : Around} {E : Value → Shared → Prop} {s : Shared} {P : Program} {w : World} {K : Type} [DecidableEq K] {knd : HeapKind P w K} {d a : Addr} {xs : List (K × Addr × Value)} {k : K} {v : Value} {Q : Value → Shared → Prop} (hu : knd.room A) (hkey : knd.is s.heap k a) (hm : s.heap.DictOfH knd d xs)
    (hthere : ∀ p, atKey xs k = some p → Q p.2 { s with toks := s.toks + knd.draws k })
    (hQ : atKey xs k = none → ∀ h', h'.DictOfH knd d (storedH xs k a v) → Heap.SameBut d s.heap h' → Q v { s with heap := h', toks := s.toks + knd.draws k })
    (hsz : xs.length ≤ sizeLine) :
    wpAny (model P w) A (dictSetDefault d (.ref a) v) Q E s := by
  obtain ⟨o, es, ep, ho, hc, hd, he, his, hn⟩ := hm
  unfold dictSetDefault
  try with_reducible refine wpAny_holding ?_
  refine wpAny_bind (knd.pyHash hu hkey ?_)
  refine wpAny_bind (wpAny_dictFind_heap (s := { s with toks := s.toks + knd.draws k }) hu hkey ho hd he his hn ?_ ?_)
  · intro hno
    have hnot : k ∉ xs.map (·.1) := not_mem_keys_of_get hno
    refine wpAny_bind (wpAny_rule (wpAny_bind (wpAny_updateDictKeys (hz := by have e := size_of_entries he; omega) (s := { s with toks := s.toks + knd.draws k }) ho hd (wpAny_pure (hQ (atKey_none_of_get hno) _ ⟨_, _, ep + 1, Heap.get?_update_self _ ho (Obj.isFreed_of_dict (Obj.data_mapDictKeys hd _)),
      hc.mapDictKeys _, Obj.data_mapDictKeys hd _, ?_, ?_, ?_⟩ (Heap.SameBut.update ..))))))
    · rw [storedH_new (atKey_none_of_get hno)]
      simp [he, entryOfKey]
    · rw [storedH_new (atKey_none_of_get hno)]
      intro x hx
      rcases List.mem_append.mp hx with hx | hx
      · exact knd.keeps (his x hx) ho hd (Heap.SameBut.update ..)
      · simp only [List.mem_singleton] at hx
        subst hx
        exact knd.keeps hkey ho hd (Heap.SameBut.update ..)
    · rw [storedH_new (atKey_none_of_get hno)]
      rw [List.map_append, List.nodup_append]
      refine ⟨hn, by simp, ?_⟩
      intro x hx y hy
      simp only [List.map_cons, List.map_nil, List.mem_singleton] at hy
      subst hy
      exact fun e => hnot (e ▸ hx)
  · intro j p hj
    refine wpAny_bind (wpAny_dictEntries (s := { s with toks := s.toks + knd.draws k }) ho hd ?_)
    rw [entry_at he j, hj]
    exact wpAny_bind (wpAny_rule (wpAny_pure (hthere p (atKey_of_get hn hj))))
end
end L2
namespace L2
open PySem PySem.Spec PyProof.Rows
theorem plain_is {h : Heap} {a : Addr} {its : Array Value} (p : PlainL h a its) : h.IsList a its := let ⟨o, n, e, c, _, d⟩ := p; ⟨o, e, c, n, d⟩
section
variable {X : Cx} {a b : Expr} {t : TA} {p pos ep : Pos} {elts : List Expr} {ek : Nat}
end
end L2
namespace L2
open PySem PySem.Spec PyProof.Rows
set_option genInjectivity false in
set_option genSizeOf false in
structure CloT where
  qual : Str
  body : FuncBody
  scope : Scope
  ps : List Str
  ys : List Str
noncomputable def CloFd (t : CloT) (cs : List Addr) (c : Addr) (fd : FuncData) : Prop :=
  fd.qualname = t.qual ∧ fd.body = t.body ∧ fd.scope = t.scope ∧ fd.globals = mainGlobals ∧ fd.closure = t.ys.zip cs ∧ fd.code = .ref c ∧ fd.builtins = builtinsNs ∧
    (∀ us : List Value, us.length = t.ps.length → bindArgs fd ⟨us, []⟩ = pure (t.ps.zip us)) ∧ cs.Nodup ∧ cs.length = t.ys.length
noncomputable def cloO (f : Addr) (t : CloT) (cs : List Addr) (c : Addr) : HO := .ext fun h => ∃ od fd sl, h.get? f = some ⟨.type "function", od, .func fd, sl⟩ ∧ CloFd t cs c fd
noncomputable def codeO (c : Addr) (qual : Str) : HO := .ext fun h => ∃ o vs tk, h.get? c = some o ∧ o.data = .fields vs ∧ vs[1]? = some (.str qual tk)
noncomputable def cellO (c : Addr) (v : V) : HO := .ext fun h => ∃ u o, RelV v u ∧ h.get? c = some o ∧ o.data = .cell (some u)
noncomputable abbrev CellsAt (H : Hp) : List Addr → List V → Prop := Paired fun c v => H c = some (cellO c v)
structure CloAt (H : Hp) (f : Addr) (t : CloT) (cs : List Addr) (cvs : List V) : Prop where
  ex : ∃ c, H f = some (cloO f t cs c) ∧ H c = some (codeO c t.qual)
  cells : CellsAt H cs cvs
theorem CellsAt.mem {H : Hp} {cs : List Addr} {cvs : List V} (h : CellsAt H cs cvs) : ∀ c ∈ cs, ∃ v, H c = some (cellO c v) := by
  induction h with
  | nil => intro c hc; cases hc
  | cons r t ih =>
    intro c hc
    rcases List.mem_cons.mp hc with rfl | hc
    · exact ⟨_, r⟩
    · exact ih c hc
theorem CellsAt.get {H : Hp} {cs : List Addr} {cvs : List V} (h : CellsAt H cs cvs) : ∀ {i : Nat} {v : V}, cvs[i]? = some v → ∃ c, cs[i]? = some c ∧ H c = some (cellO c v) := by
  induction h with
  | nil => intro i v e; cases e
  | @cons c w cs ws r t ih =>
    intro i v e
    cases i with
    | zero => cases e; exact ⟨c, rfl, r⟩
    | succ i => exact ih e
noncomputable def hideC (cs : List Addr) (H : Hp) : Hp := fun b => if b ∈ cs then none else H b
noncomputable def backC (cs : List Addr) (H H' : Hp) : Hp := fun b => if b ∈ cs then H b else H' b
theorem hideC_in {cs : List Addr} {H : Hp} {b : Addr} (h : b ∈ cs) : hideC cs H b = none := if_pos h
theorem hideC_out {cs : List Addr} {H : Hp} {b : Addr} (h : b ∉ cs) : hideC cs H b = H b := if_neg h
theorem backC_in {cs : List Addr} {H H' : Hp} {b : Addr} (h : b ∈ cs) : backC cs H H' b = H b := if_pos h
theorem backC_out {cs : List Addr} {H H' : Hp} {b : Addr} (h : b ∉ cs) : backC cs H H' b = H' b := if_neg h
theorem backC_hide (cs : List Addr) (H : Hp) : backC cs H (hideC cs H) = H := by
  funext b
  by_cases h : b ∈ cs
  · exact backC_in h
  · rw [backC_out h, hideC_out h]
theorem backC_upd {cs : List Addr} {H H' : Hp} {d : Addr} {o : HO} (h : d ∉ cs) : backC cs H (upd H' d o) = upd (backC cs H H') d o := by
  funext b
  by_cases hb : b ∈ cs
  · have : b ≠ d := fun e => h (e ▸ hb)
    rw [backC_in hb, upd_ne this, backC_in hb]
  · rw [backC_out hb]
    by_cases e : b = d
    · subst e; rw [upd_same, upd_same]
    · rw [upd_ne e, upd_ne e, backC_out hb]
theorem CellsAt.notin {H : Hp} {cs : List Addr} {cvs : List V} (h : CellsAt H cs cvs) {b : Addr} {o : HO} (e : H b = some o) (hn : ∀ φ, o ≠ .ext φ) : b ∉ cs := fun hb => by
  obtain ⟨v, ev⟩ := h.mem b hb
  rw [e] at ev
  exact hn _ (Option.some.inj ev)
theorem CellsAt.hide {H : Hp} {cs : List Addr} {cvs : List V} (h : CellsAt H cs cvs) {b : Addr} {o : HO} (e : H b = some o) (hn : ∀ φ, o ≠ .ext φ) : hideC cs H b = some o := by
  rw [hideC_out (h.notin e hn)]; exact e
section
variable {P : Program} {w : World} {fs : List Addr} {H H' : Hp} {h h' : Heap} {cs : List Addr} {cvs : List V}
theorem hide_ok (hc : CellsAt H cs cvs) (ok : HOk P w H h) : HOk P w (hideC cs H) h := fun b o e => by
  by_cases hb : b ∈ cs
  · rw [hideC_in hb] at e; cases e
  · rw [hideC_out hb] at e
    exact (ok b o e).stay (fun c u _ q => q) (fun c q => hc.hide q fun φ z => nomatch z) fun c xs q => hc.hide q fun φ z => nomatch z
theorem back_ok (hc : CellsAt H cs cvs) (hfs : ∀ b ∈ fs, H b = none) (ok : HOk P w H h) (u : Un fs [] (hideC cs H) H' h h') (ok' : HOk P w H' h') : Un fs [] H (backC cs H H') h h' ∧ HOk P w (backC cs H H') h' := by
  have obj : ∀ c ∈ cs, ∃ v o, H c = some (cellO c v) ∧ h.get? c = some o ∧ h'.get? c = some o ∧ H' c = none := fun c hm => by
    obtain ⟨v, ev⟩ := hc.mem c hm
    obtain ⟨_, ⟨o, eo⟩, _⟩ := (show ObjOk P w H h c (cellO c v) from ok c _ ev)
    refine ⟨v, o, ev, eo, u.keep c o eo (hideC_in hm) (fun z => ?_) (by simp), u.free c o eo (hideC_in hm) (by simp)⟩
    rw [hfs c z] at ev; cases ev
  have nin : ∀ b, H b = none → b ∉ cs := fun b e hb => by
    obtain ⟨v, ev⟩ := hc.mem b hb
    rw [e] at ev; cases ev
  have nin' : ∀ b o, H' b = some o → b ∉ cs := fun b o e hb => by
    obtain ⟨_, _, _, _, _, z⟩ := obj b hb
    rw [e] at z; cases z
  refine ⟨⟨fun b o e n hb hx => u.keep b o e (by rw [hideC_out (nin b n)]; exact n) hb hx, fun b o e n hb hx => u.slot b o e (by rw [hideC_out (nin b n)]; exact n) hb hx,
    fun b o e n hx => by rw [backC_out (nin b n)]; exact u.free b o e (by rw [hideC_out (nin b n)]; exact n) hx, u.there, fun b xs e => ?_, fun b o v e => ?_, fun b ps e => ?_⟩, fun b o e => ?_⟩
  · have hb := hc.notin e fun φ z => nomatch z
    rw [backC_out hb]; exact u.tups b xs (by rw [hideC_out hb]; exact e)
  · have hb := hc.notin e fun φ z => nomatch z
    rw [backC_out hb]; exact u.frzs b o v (by rw [hideC_out hb]; exact e)
  · have hb := hc.notin e fun φ z => nomatch z
    rw [backC_out hb]; exact u.tbls b ps (by rw [hideC_out hb]; exact e)
  · by_cases hb : b ∈ cs
    · rw [backC_in hb] at e
      obtain ⟨v, o', ev, e1, e2, _⟩ := obj b hb
      rw [e] at ev; cases ev
      obtain ⟨φ1, _, φ3⟩ := (show ObjOk P w H h b (cellO b v) from ok b _ e)
      exact ⟨φ3 h h' φ1 fun q hq => by rw [e1] at hq; cases hq; exact e2, ⟨o', e2⟩, φ3⟩
    · rw [backC_out hb] at e
      exact (ok' b o e).stay (fun c u _ q => q) (fun c q => by rw [backC_out (nin' c _ q)]; exact q) fun c xs q => by rw [backC_out (nin' c _ q)]; exact q
theorem CR.back {outer : List Env} {s s' : Shared} {Q : VK} {E : XK} {r : Result} (hc : CellsAt H cs cvs) (hfs : ∀ b ∈ frs outer, H b = none) (ok : HOk P w H s.heap)
    (h : CR (CX1 P w) outer P w (hideC cs H) s (fun v H' => Q v (backC cs H H')) (fun c a H' => E c a (backC cs H H')) r s') : CR (CX1 P w) outer P w H s Q E r s' := by
  cases r with
  | error e =>
    obtain ⟨a, C, H', rfl, F, q⟩ := h
    obtain ⟨u, k⟩ := back_ok hc hfs ok F.un F.hok
    have na : a ∉ cs := fun hb => by
      obtain ⟨v, ev⟩ := hc.mem a hb
      obtain ⟨_, ⟨o, eo⟩, _⟩ := (show ObjOk P w H s.heap a (cellO a v) from ok a _ ev)
      rw [F.new] at eo; cases eo
    obtain ⟨oe, vs, a0, T, oT, ts, t1, t2, t3, t4, t5, t6, t7, t8, t9, t10, t11⟩ := F.tr
    have nT : T ∉ cs := fun hb => by
      obtain ⟨v, ev⟩ := hc.mem T hb
      obtain ⟨_, ⟨o, eo⟩, _⟩ := (show ObjOk P w H s.heap T (cellO T v) from ok T _ ev)
      rw [t10] at eo; cases eo
    exact ⟨a, C, _, rfl, ⟨F.os, F.bare, u, k, F.new, by rw [backC_out na]; exact F.free, ⟨oe, vs, a0, T, oT, ts, t1, t2, t3, t4, t5, t6, t7, t8, t9, t10, by rw [backC_out nT]; exact t11⟩⟩, q⟩
  | ok fl =>
    cases fl with
    | ret u =>
      obtain ⟨v, H', os, bare, un, hok, rv, q⟩ := h
      obtain ⟨u', k⟩ := back_ok hc hfs ok un hok
      exact ⟨v, _, os, bare, u', k, rv, q⟩
    | next => exact False.elim h
    | brk => exact False.elim h
    | cont => exact False.elim h
end
structure CloOk (P : Program) (w : World) (K : PySem.W.Frag) (mg : Str → Option Value) (base : Heap) (k : Nat) (t : CloT) (sp : Sp) : Prop where
  run : ∀ (A : Around) (outer : List Env) (s : Shared) (H : Hp) (f : Addr) (cs : List Addr) (us : List Value) (vs cvs : List V) (Q : VK) (E : XK), Room k A → Env0 P w K mg base A outer s H → CloAt H f t cs cvs → Vals vs us → vs.length = t.ps.length →
    sp (vs ++ cvs) (hideC cs H) (fun v H' => Q v (backC cs H H')) (fun c a H' => E c a (backC cs H H')) → codeAny (model P w) A (.call (.ref f) ⟨us, []⟩) (CR (CX1 P w) outer P w H s Q E) s
noncomputable def startC (N : List Str) (vs cvs : List V) : St := vs.map some ++ (List.replicate (N.length - vs.length - cvs.length) none ++ cvs.map some)
noncomputable def cxClo (P : Program) (w : World) (K : PySem.W.Frag) (mg : Str → Option Value) (base : Heap) (N : List Str) (qual : Str) (scope : Scope) (f c : Addr) (cl : List (Str × Addr)) (A : Around) (outer : List Env) (s : Shared) (H : Hp) (E : XK) : Cx where
  prog := P
  w := w
  K := K
  mg := mg
  base := base
  A := A.deeper (PySem.W.envX qual scope s.heap.objs.size f (.ref c) cl)
  N := N
  s₀ := s
  H₀ := H
  env := PySem.W.envX qual scope s.heap.objs.size f (.ref c) cl
  outer := outer
  stack := PySem.W.envX qual scope s.heap.objs.size f (.ref c) cl :: outer
  ex := []
  calm := true
  fn := fun _ => false
  pn := []
  xe := fun e s' => wpAny (model P w) (A.deeper (PySem.W.envX qual scope s.heap.objs.size f (.ref c) cl)) (leaving (PySem.W.envX qual scope s.heap.objs.size f (.ref c) cl) e) (fun _ s'' => CX1 P w outer H s E e s'') (fun e' s'' => CX1 P w outer H s E e' s'') s'
structure CloScope (N ps ys : List Str) (sc : Scope) : Prop where
  kind : sc.kind = .function
  co : sc.isCoroutine = false
  gen : sc.isGenerator = false
  nd : N.Nodup
  pre : N.take ps.length = ps
  suf : N.drop (N.length - ys.length) = ys
  le : ps.length + ys.length ≤ N.length
  par : ∀ x ∈ ps, sc.names.lookup x = some .local
  nocell : ∀ x ∈ sc.names, x.2 ≠ .cell
  fr : ∀ x ∈ ys, sc.names.lookup x = some .free
  frs : ∀ y ∈ sc.names, y.2 = .free → y.1 ∈ ys
theorem lookup_zip {ys : List Str} {cs : List Addr} (hl : cs.length = ys.length) (nd : ys.Nodup) : ∀ {i : Nat} {y : Str} {c : Addr}, ys[i]? = some y → cs[i]? = some c → (ys.zip cs).lookup y = some c := by
  induction ys generalizing cs with
  | nil => intro i y c e; cases e
  | cons a r ih =>
    intro i y c e1 e2
    cases cs with
    | nil => cases e2
    | cons b cs =>
      cases i with
      | zero => cases e1; cases e2; show (List.lookup _ ((_, _) :: _)) = _; rw [List.lookup_cons]; simp
      | succ i =>
        have hne : y ≠ a := fun e => (List.nodup_cons.mp nd).1 (e ▸ List.mem_of_getElem? (show r[i]? = some y from e1))
        show (List.lookup y ((a, b) :: r.zip cs)) = _
        rw [List.lookup_cons, show (y == a) = false from by simpa using hne]
        exact ih (by simpa using hl) (List.nodup_cons.mp nd).2 (show r[i]? = some y from e1) (show cs[i]? = some c from e2)
theorem lookup_zip_of {ys : List Str} {cs : List Addr} : ∀ {y : Str} {c : Addr}, (ys.zip cs).lookup y = some c → ∃ i : Nat, ys[i]? = some y ∧ cs[i]? = some c := by
  induction ys generalizing cs with
  | nil => intro y c e; cases e
  | cons a r ih =>
    intro y c e
    cases cs with
    | nil => cases e
    | cons b cs =>
      have e : (List.lookup y ((a, b) :: r.zip cs)) = some c := e
      rw [List.lookup_cons] at e
      by_cases hy : (y == a) = true
      · rw [hy] at e; cases e; exact ⟨0, by simpa using (eq_of_beq hy).symm, rfl⟩
      · rw [show (y == a) = false from by simpa using hy] at e
        obtain ⟨i, h1, h2⟩ := ih e
        exact ⟨i + 1, h1, h2⟩
theorem lookup_rev_zip {ps : List Str} {us : List Value} (nd : ps.Nodup) : ∀ {i : Nat} {x : Str} {u : Value}, ps[i]? = some x → us[i]? = some u → (ps.zip us).reverse.lookup x = some u := by
  induction ps generalizing us with
  | nil => intro i x u e; cases e
  | cons a r ih =>
    intro i x u e1 e2
    cases us with
    | nil => cases e2
    | cons b us =>
      show (List.lookup x ((a, b) :: r.zip us).reverse) = _
      rw [List.reverse_cons, List.lookup_append]
      cases i with
      | zero =>
        cases e1; cases e2
        have : (r.zip us).reverse.lookup a = none := by
          rw [List.lookup_eq_none_iff]
          intro p hp
          have := (List.of_mem_zip (List.mem_reverse.mp hp)).1
          simp only [beq_eq_false_iff_ne, ne_eq, bne_iff_ne]
          intro e
          exact (List.nodup_cons.mp nd).1 (by rw [← e] at this; exact this)
        rw [this]; simp
      | succ i =>
        rw [ih (List.nodup_cons.mp nd).2 (show r[i]? = some x from e1) (show us[i]? = some u from e2)]; rfl
end L2
namespace L2
open PySem PySem.Spec PyProof.Rows
section
variable {P : Program} {w : World} {K : PySem.W.Frag} {mg : Str → Option Value} {base : Heap} {N ps ys : List Str} {qual : Str} {scope : Scope} {f c : Addr} {A : Around} {outer : List Env} {s : Shared} {H : Hp} {E : XK} {us : List Value} {vs cvs : List V} {cs : List Addr} {h1 : Heap} {tk : Nat}
theorem inv_clo (S : CloScope N ps ys scope) (hd : A.handled = none) (e0 : Env0 P w K mg base A outer s H) (ca : CellsAt H cs cvs) (hcs : cs.Nodup) (hcl : cs.length = ys.length) (hl : vs.length = ps.length) (r : Vals vs us)
    (hns : h1.Ns s.heap.objs.size (fun x => (ps.zip us).reverse.lookup x)) (hk : ∀ b o, s.heap.get? b = some o → h1.get? b = some o) :
    Inv (cxClo P w K mg base N qual scope f c (ys.zip cs) A outer s (hideC cs H) E) [] (startC N vs cvs) (hideC cs H) { s with heap := h1, toks := tk } := by
  have ndY : ys.Nodup := by rw [← S.suf]; exact S.nd.sublist (List.drop_sublist _ _)
  have ndP : ps.Nodup := by rw [← S.pre]; exact S.nd.sublist (List.take_sublist _ _)
  have lcv : cvs.length = ys.length := by rw [← hcl]; exact (Paired.length ca).symm
  have cellOf : ∀ c ∈ cs, ∃ v, h1.IsCell c v := fun c hm => by
    obtain ⟨v, ev⟩ := ca.mem c hm
    obtain ⟨⟨u, o, _, eo, hd⟩, _, _⟩ := (show ObjOk P w H s.heap c (cellO c v) from e0.hok c _ ev)
    exact ⟨_, o, hk _ _ eo, hd⟩
  have memC : ∀ x c, (ys.zip cs).lookup x = some c → c ∈ cs := fun x c e => by
    obtain ⟨i, _, e2⟩ := lookup_zip_of e
    exact List.mem_of_getElem? e2
  have noA : ∀ b : Addr, b ∉ (cxClo P w K mg base N qual scope f c (ys.zip cs) A outer s (hideC cs H) E).ex := fun b z => absurd (show b ∈ ([] : List Addr) from z) (by simp)
  have hid : ∀ b, H b = none → hideC cs H b = none := fun b e => by
    by_cases hb : b ∈ cs
    · exact hideC_in hb
    · rw [hideC_out hb]; exact e
  refine ⟨⟨e0.mod, S.kind, rfl, rfl, Nat.le_refl _, fun y z c h1 h2 => ?_, fun y hy => ?_, fun y c hf _ => ?_, fun _ => hd, Around.frames_deeper e0.frames, .inr ⟨rfl, rfl⟩, fun b z => absurd z (noA b), fun b o e => ⟨(e0.bs b o e).1, hid b (e0.bs b o e).2⟩, e0.bsz, fun b _ _ => noA b, fun b z => absurd z (noA b), e0.funs, fun b hb => hid b (e0.frf b hb)⟩,
    rfl, e0.bare, Un.kept hk, ⟨_, hns, fun i y v q1 q2 q3 => ?_⟩, fun y c h => cellOf c (memC y c h), hid _ (e0.hok.fresh (Nat.le_refl _)), fun y c h => hideC_in (memC y c h), fun p hp => absurd (show p ∈ ([] : List (Addr × Obj)) from hp) (by simp), (hide_ok ca e0.hok).kept hk, ?_⟩
  · obtain ⟨i, e1, e2⟩ := lookup_zip_of (show (ys.zip cs).lookup y = some c from h1)
    obtain ⟨j, e3, e4⟩ := lookup_zip_of (show (ys.zip cs).lookup z = some c from h2)
    have : i = j := by
      obtain ⟨a1, b1⟩ := List.getElem?_eq_some_iff.mp e2
      obtain ⟨a2, b2⟩ := List.getElem?_eq_some_iff.mp e4
      exact (List.getElem_inj hcs).mp (b1.trans b2.symm)
    subst this
    rw [e1] at e3; exact Option.some.inj e3
  · have hy : scope.names.lookup y = some .cell ∨ scope.names.lookup y = some .free := hy
    rcases hy with hy | hy
    · exact absurd rfl (S.nocell _ (PySem.mem_of_lookup hy))
    · obtain ⟨i, hi, e⟩ := List.mem_iff_getElem.mp (S.frs _ (PySem.mem_of_lookup hy) rfl)
      have hi2 : i < cs.length := by omega
      exact ⟨cs[i], lookup_zip hcl ndY (List.getElem?_eq_some_iff.mpr ⟨hi, e⟩) (List.getElem?_eq_getElem hi2)⟩
  · exact absurd (show false = true from hf) Bool.false_ne_true
  · unfold startC at q2
    by_cases hi : i < vs.length
    · rw [List.getElem?_append_left (by simpa using hi), List.getElem?_map] at q2
      have ha : vs[i]? = some v := by
        cases e : vs[i]? with
        | none => rw [e] at q2; cases q2
        | some a => rw [e] at q2; cases q2; rfl
      obtain ⟨u, hu, rv⟩ := r.get ha
      have hp : ps[i]? = some y := by
        rw [← S.pre, List.getElem?_take_of_lt (by omega)]; exact q1
      exact ⟨u, rv, .inl ⟨S.par y (List.mem_of_getElem? hp), lookup_rev_zip ndP hp hu⟩⟩
    · rw [List.getElem?_append_right (by simpa using hi), List.length_map] at q2
      by_cases hj : i - vs.length < N.length - vs.length - cvs.length
      · rw [List.getElem?_append_left (by simpa using hj), List.getElem?_replicate] at q2
        split at q2 <;> cases q2
      · rw [List.getElem?_append_right (by simpa using hj), List.length_replicate, List.getElem?_map] at q2
        have ha : cvs[i - vs.length - (N.length - vs.length - cvs.length)]? = some v := by
          cases e : cvs[i - vs.length - (N.length - vs.length - cvs.length)]? with
          | none => rw [e] at q2; cases q2
          | some a => rw [e] at q2; cases q2; rfl
        have hle := S.le
        have hiN : i < N.length := (List.getElem?_eq_some_iff.mp q1).1
        have hx : i - vs.length - (N.length - vs.length - cvs.length) = i - (N.length - ys.length) := by omega
        rw [hx] at ha
        have hy : ys[i - (N.length - ys.length)]? = some y := by
          have e1 : N.drop (N.length - ys.length) = ys := S.suf
          have e2 : (N.drop (N.length - ys.length))[i - (N.length - ys.length)]? = some y := by
            rw [List.getElem?_drop]
            rw [show N.length - ys.length + (i - (N.length - ys.length)) = i by omega]; exact q1
          rw [e1] at e2; exact e2
        obtain ⟨c, ec, hc⟩ := ca.get ha
        obtain ⟨⟨u, o, ru, eo, hdo⟩, _, _⟩ := (show ObjOk P w H s.heap c (cellO c v) from e0.hok c _ hc)
        exact ⟨u, ru, .inr ⟨.inr (S.fr y (List.mem_of_getElem? hy)), c, lookup_zip hcl ndY hy ec, o, hk _ _ eo, hdo⟩⟩
  · unfold startC
    show _ = N.length
    have := S.le
    rw [List.length_append, List.length_append, List.length_map, List.length_map, List.length_replicate]
    omega
end
section
variable {P : Program} {w : World} {K : PySem.W.Frag} {mg : Str → Option Value} {base : Heap} {k : Nat} {t : CloT} {N : List Str} {sp : Sp}
theorem clo_of {body : List Stmt} (hb : t.body = .stmts body) (S : CloScope N t.ps t.ys t.scope)
    (hbody : ∀ (f c : Addr) (cl : List (Str × Addr)) (A : Around) (outer : List Env) (s : Shared) (H : Hp) (vs cvs : List V) (Q : VK) (E : XK), Room k (A.deeper (PySem.W.envX t.qual t.scope s.heap.objs.size f (.ref c) cl)) → vs.length = t.ps.length → cvs.length = t.ys.length → sp (vs ++ cvs) H Q E →
      ∃ td, PSs (cxClo P w K mg base N t.qual t.scope f c cl A outer s H E) body td ∧ td { nx := fun _ H' => Q .non H', rt := Q } (startC N vs cvs) H) : CloOk P w K mg base (k + 1) t sp := by
  refine ⟨fun A outer s H f cs us vs cvs Q E hr e0 ca r hl hsp => ?_⟩
  obtain ⟨c, hf, hcc⟩ := ca.ex
  have KX : K.In s.heap := e0.mod.kin.keeps fun b o e => (e0.bs b o e).1
  have lim : s.heap.NoLimit := e0.mod.nolimit.keeps fun b o e => (e0.bs b o e).1
  obtain ⟨⟨od, fd, sl, ho, h1, h2, h3, h4, h5, h6, h7, h8, h9, h10⟩, _, _⟩ := (show ObjOk P w H s.heap f (cloO f t cs c) from e0.hok f _ hf)
  obtain ⟨⟨o, vs', tk, hco, hdo, hv⟩, _, _⟩ := (show ObjOk P w H s.heap c (codeO c t.qual) from e0.hok c _ hcc)
  have hcd : s.heap.CodeRec fd.code fd.qualname := ⟨c, o, vs', tk, h6, hco, hdo, by rw [h1]; exact hv⟩
  refine codeAny_mono (codeAny_call_function (R := CR (CX1 P w) outer P w (hideC cs H) s (fun v H' => Q v (backC cs H H')) (fun c a H' => E c a (backC cs H H'))) hr.depth ho rfl (by rw [h3]; exact S.co) (by rw [h3]; exact S.gen) (h2.trans hb) hcd ?_) fun r s' h => CR.back ca.cells e0.frf e0.hok h
  rw [h8 us (by rw [← r.length]; exact hl), h3, h4, h5, h1, h6, h7]
  refine wpAny_pure (wpAny_newFunctionEnv S.nocell (fun y hy => S.par y.1 (List.of_mem_zip hy).1) (fun h' hns hsb => ⟨lim.fresh _ hsb, ?_⟩) S.kind)
  have hk : ∀ b o, s.heap.get? b = some o → h'.get? b = some o := fun b o e => hsb.extBut b o (Nat.ne_of_lt (Heap.lt_size e)) (Heap.get?_push_of_some _ e)
  have lcv : cvs.length = t.ys.length := by rw [← h10]; exact (Paired.length ca.cells).symm
  obtain ⟨td, ht, hq⟩ := hbody f c (t.ys.zip cs) A outer s (hideC cs H) vs cvs _ _ (hr.deeper _) hl lcv hsp
  have I := inv_clo (tk := s.toks + (t.ps.zip us).length) (qual := t.qual) (f := f) (c := c) (E := fun c a H' => E c a (backC cs H H')) S hr.hd e0 ca.cells h9 h10 hl r hns hk
  show codeAny _ _ (.func body (PySem.W.envX t.qual t.scope s.heap.objs.size f (.ref c) (t.ys.zip cs))) _ _
  refine codeAny_func ?_
  refine wpAny_mono (ht [] _ (startC N vs cvs) _ _ I hq) (fun fl s' hs => ?_) fun e s' hs => hs
  cases fl with
  | ret u =>
    obtain ⟨v, σ', H', J, rv, q⟩ := hs
    exact ⟨v, H', J.os, J.bare, J.base, J.hok, rv, q⟩
  | next =>
    obtain ⟨σ', H', J, q⟩ := hs
    exact ⟨V.non, H', J.os, J.bare, J.base, J.hok, rfl, q⟩
  | brk =>
    obtain ⟨_, _, _, q⟩ := hs
    exact False.elim q
  | cont =>
    obtain ⟨_, _, _, q⟩ := hs
    exact False.elim q
end
end L2
namespace L2
open PySem PySem.Spec PyProof.Rows
noncomputable def BM (mg : Str → Option Value) (h : Heap) : Prop := ∃ bm ob, mg "__builtins__" = some (.ref bm) ∧ bm ≠ builtinsNs ∧ h.get? bm = some ob ∧ ob.cls = .type "module" ∧ ob.dict = some builtinsNs ∧ ob.data = .plain
section
variable {X : Cx} {pins : List (Addr × Obj)} {σ : St} {H : Hp} {s : Shared} {P c : Addr} {ps : Array Value} {t : CloT} {cs : List Addr} {h' : Heap} {tk : Nat} {fd : FuncData}
theorem made_new {more : Array Value} (I : Inv X pins σ H s) (hP : H P = some (.tbl ps)) (hx : Heap.ExtBut P s.heap h') (hge : s.heap.objs.size ≤ c) (hlt : c < h'.objs.size) (hrec : h'.CodeRec (.ref c) t.qual)
    (htb : h'.get? P = some (PySem.W.tabObj (ps ++ more))) (hfd : CloFd t cs c fd) :
    Inv X pins σ (upd (upd (upd H P (.tbl (ps ++ more))) c (codeO c t.qual)) h'.objs.size (cloO h'.objs.size t cs c)) { s with heap := h'.push { cls := .type "function", data := .func fd }, toks := tk } := by
  have hcn : H c = none := I.hok.fresh hge
  have hfn : H h'.objs.size = none := I.hok.fresh (Nat.le_of_lt (Nat.lt_of_le_of_lt hge hlt))
  have ncP : c ≠ P := (ne_of_none hP hcn).symm
  have nfP : h'.objs.size ≠ P := (ne_of_none hP hfn).symm
  have ncf : c ≠ h'.objs.size := Nat.ne_of_lt hlt
  have old : ∀ b o, s.heap.get? b = some o → b ≠ c ∧ b ≠ h'.objs.size := fun b o e => ⟨Nat.ne_of_lt (Nat.lt_of_lt_of_le (Heap.lt_size e) hge), Nat.ne_of_lt (Nat.lt_of_lt_of_le (Heap.lt_size e) (Nat.le_of_lt (Nat.lt_of_le_of_lt hge hlt)))⟩
  have keepP : ∀ b o, b ≠ P → s.heap.get? b = some o → (h'.push { cls := .type "function", data := .func fd }).get? b = some o := fun b o hb e => Heap.get?_push_of_some _ (hx b o hb e)
  have neP : ∀ b, H b = none → b ≠ P := fun b e z => by rw [z, hP] at e; cases e
  have obj : ∀ b o, H b = some o → ∃ u, s.heap.get? b = some u := fun b o e => obj_some (I.hok b o e)
  have same : ∀ b o, H b = some o → b ≠ P → (upd (upd (upd H P (.tbl (ps ++ more))) c (codeO c t.qual)) h'.objs.size (cloO h'.objs.size t cs c)) b = some o := fun b o e hb => by
    rw [upd_ne (ne_of_none e hfn), upd_ne (ne_of_none e hcn), upd_ne hb]; exact e
  refine I.un ⟨fun b o e n hb hx' => keepP b o (neP b n) e, fun b o e n hb hx' => ⟨o.slots, keepP b o (neP b n) e⟩, fun b o e n hx' => ?_, fun b o e hx' => ?_, fun b xs e => same b _ e (ne_of e hP (fun z => nomatch z)), fun b o u e => same b _ e (ne_of e hP (fun z => nomatch z)), fun b qs e => ?_⟩ fun b o e => ?_
  · rw [upd_ne (old b o e).2, upd_ne (old b o e).1, upd_ne (neP b n)]; exact n
  · by_cases hb : b = P
    · subst hb; exact ⟨_, Heap.get?_push_of_some _ htb⟩
    · exact ⟨o, keepP b o hb e⟩
  · by_cases hb : b = P
    · subst hb
      rw [hP] at e; cases e
      exact ⟨more, by rw [upd_ne nfP.symm, upd_ne ncP.symm, upd_same]⟩
    · exact ⟨#[], by rw [same b _ e hb]; simp⟩
  · by_cases hf : b = h'.objs.size
    · subst hf
      rw [upd_same] at e; cases e
      refine ⟨⟨_, fd, _, Heap.get?_push_size _ rfl, hfd⟩, ⟨_, Heap.get?_push_size _ rfl⟩, ?_⟩
      rintro h1 h2 ⟨od, fd', sl, e1, e2⟩ k
      exact ⟨od, fd', sl, k _ e1, e2⟩
    · rw [upd_ne hf] at e
      by_cases hc : b = c
      · subst hc
        rw [upd_same] at e; cases e
        obtain ⟨c2, oc, vs, tq, e0, e1, e2, e3⟩ := hrec
        cases e0
        refine ⟨⟨oc, vs, tq, Heap.get?_push_of_some _ e1, e2, e3⟩, ⟨_, Heap.get?_push_of_some _ e1⟩, ?_⟩
        rintro h1 h2 ⟨o, vs, tk, a1, a2, a3⟩ k
        exact ⟨o, vs, tk, k _ a1, a2, a3⟩
      · rw [upd_ne hc] at e
        by_cases hp : b = P
        · subst hp
          rw [upd_same] at e; cases e
          exact Heap.get?_push_of_some _ htb
        · rw [upd_ne hp] at e
          refine (I.hok b o e).stay (fun a u ha q => keepP a u ?_ q) (fun a q => same a _ q (ne_of q hP (fun z => nomatch z))) fun a xs q => same a _ q (ne_of q hP (fun z => nomatch z))
          rcases ha with rfl | ha
          · exact hp
          · exact ne_of ha hP (fun z => nomatch z)
theorem made_hit (I : Inv X pins σ H s) (hk : ∀ b o, s.heap.get? b = some o → h'.get? b = some o) (hsz : s.heap.objs.size ≤ h'.objs.size) (hfd : CloFd t cs c fd) :
    Inv X pins σ (upd H h'.objs.size (cloO h'.objs.size t cs c)) { s with heap := h'.push { cls := .type "function", data := .func fd }, toks := tk } := by
  refine I.laid (a := h'.objs.size) (o := cloO h'.objs.size t cs c) (fun b u e => Heap.get?_push_of_some _ (hk b u e)) hsz ⟨⟨_, fd, _, Heap.get?_push_size _ rfl, hfd⟩, ⟨_, Heap.get?_push_size _ rfl⟩, ?_⟩
  rintro h1 h2 ⟨od, fd', sl, e1, e2⟩ k
  exact ⟨od, fd', sl, k _ e1, e2⟩
end
noncomputable def tLam (P : Addr) (pos : Pos) (t : CloT) (cs : List Addr) : TE := fun _ H Q => ∃ ps, H P = some (.tbl ps) ∧ TriplesOk ps.toList ∧
  ((codeAmong pos ps.toList = none ∧ ∀ c f, H c = none → H f = none → c ≠ f → Q (.ref f) (upd (upd (upd H P (.tbl (ps ++ #[rawInt pos.line, rawInt pos.col, .ref c]))) c (codeO c t.qual)) f (cloO f t cs c))) ∨
   ∃ c, codeAmong pos ps.toList = some (.ref c) ∧ ∀ f, H f = none → Q (.ref f) (upd H f (cloO f t cs c)))
section
variable {X : Cx} {c0 P : Addr} {params : Arguments} {scope : Scope} {pos : Pos} {t : CloT} {cs : List Addr}
theorem glob_ne {pins : List (Addr × Obj)} {σ : St} {H : Hp} {s : Shared} {ps : Array Value} (I : Inv X pins σ H s) (hP : H P = some (.tbl ps)) (B : BM X.mg X.base) :
    s.heap.get? P = some (PySem.W.tabObj ps) ∧ s.heap.Ns mainGlobals X.mg ∧ mainGlobals ≠ P ∧ s.heap.BuiltinsAt X.mg P := by
  have hPo : s.heap.get? P = some (PySem.W.tabObj ps) := I.hok P _ hP
  have hg : s.heap.Ns mainGlobals X.mg := I.mod.glob.keeps I.bk
  have hgP : mainGlobals ≠ P := fun q => by
    obtain ⟨o, es, ep, e, hd, _⟩ := hg
    rw [q, hPo] at e; cases e; cases hd
  obtain ⟨bm, ob, b1, b2, b3, b4, b5, b6⟩ := B
  have b3' := I.bk _ _ b3
  refine ⟨hPo, hg, hgP, bm, ob, b1, b2, fun q => ?_, fun q => ?_, b3', b4, b5, b6⟩
  · obtain ⟨o, es, ep, e, hd, _⟩ := hg
    rw [q, e] at b3'; cases b3'; rw [hd] at b6; cases b6
  · rw [q, hPo] at b3'; cases b3'; cases b4
theorem x_def (i : Nat) {name : Str} {body : List Stmt} (hN : X.N.Nodup) (B : BM X.mg X.base) (C : PySem.W.CodeHd X.base c0 P) (hcode : X.env.code = .ref c0) (hcl : closureFor scope X.env = pure (t.ys.zip cs)) (nd : cs.Nodup) (hl : cs.length = t.ys.length)
    (hq : qualnameIn X.env name name = t.qual) (hb : t.body = .stmts body) (hs : t.scope = scope)
    (hbind : ∀ (cl : List (Str × Addr)) (doc pm cdv ct : Value) (us : List Value), us.length = t.ps.length → bindArgs (PySem.W.fnX name t.qual params body scope cl .none .none doc pm none cdv ct) ⟨us, []⟩ = pure (t.ps.zip us))
    (hi : X.N[i]? = some name := by rfl) (hx : Loc X.env.scope name := by first | exact .inl rfl | exact .inr rfl) (hf : X.fn name = true ∨ X.env.scope.names.lookup name = some .local := by first | exact .inl rfl | exact .inr rfl)
    (hd0 : params.defaults = [] := by rfl) (hk0 : params.kw_defaults = [] := by rfl) (ha : annTrees params none X.env = [] := by rfl) :
    QS X (.FunctionDef name params body [] none [] scope none name pos) (tAsg (tLam P pos t cs) (gName i)) := ⟨fun pins s σ H D I h => by
  obtain ⟨ps, hP, ht, h⟩ := h
  obtain ⟨hPo, hg, hgP, hB⟩ := glob_ne I hP B
  have hfd : ∀ (doc pm ct : Value) (c : Addr), CloFd t cs c (PySem.W.fnX name t.qual params body scope (t.ys.zip cs) .none .none doc pm none (.ref c) ct) := fun doc pm ct c => ⟨rfl, hb.symm, hs.symm, rfl, rfl, rfl, rfl, hbind _ _ _ _ _, nd, hl⟩
  refine PySem.W.nestDef_K hd0 hk0 ha ?_
  rw [hq]
  rcases h with ⟨hn, q⟩ | ⟨c, hff, q⟩
  · refine PySem.W.makeFunction_K hcl I.ok.glob hg hcode (C.keeps I.bk) hPo ht hn hgP hB fun c ctv doc h' tk hx' hge hlt hrec htb => ?_
    have I2 := made_new (tk := tk) (cs := cs) I hP hx' hge hlt hrec htb (hfd doc ((X.mg "__name__").getD .none) ctv c)
    exact store_ok I2 hN hi hx (v := .ref h'.objs.size) rfl (fun s' I3 => ⟨_, _, I3, q c h'.objs.size (I.hok.fresh hge) (I.hok.fresh (Nat.le_of_lt (Nat.lt_of_le_of_lt hge hlt))) (Nat.ne_of_lt hlt)⟩) hf
  · refine PySem.W.makeFunction_hit hcl I.ok.glob hg hcode (C.keeps I.bk) hPo ht hff hB fun ctv doc h' tk hk hsz => ?_
    have I2 := made_hit (tk := tk) (cs := cs) I hk hsz (hfd doc ((X.mg "__name__").getD .none) ctv c)
    exact store_ok I2 hN hi hx (v := .ref h'.objs.size) rfl (fun s' I3 => ⟨_, _, I3, q h'.objs.size (I.hok.fresh hsz)⟩) hf⟩
end
section
variable {X : Cx} {k : Nat} {E : St → XK} {x : Str} {p pos : Pos} {e : Expr} {es : List Expr} {ta : TE}
noncomputable abbrev Kinds := List (CloT × Sp)
noncomputable def HCall (ks : Kinds) (f : Addr) (vs : List V) (H : Hp) (Q : VK) (E : XK) : Prop := ∃ ts ∈ ks, ∃ cs cvs, CloAt H f ts.1 cs cvs ∧ vs.length = ts.1.ps.length ∧ ts.2 (vs ++ cvs) (hideC cs H) (fun v H' => Q v (backC cs H H')) (fun c a H' => E c a (backC cs H H'))
noncomputable def tHeld (ks : Kinds) (E : St → XK) (ta : TE) (t : TA) : TE := fun σ H Q => ta σ H fun x H1 => ∃ f, x = .ref f ∧ (∃ ts ∈ ks, ∃ cs cvs, CloAt H1 f ts.1 cs cvs) ∧ t σ H1 fun vs H2 => HCall ks f vs H2 Q (E σ)
theorem clo_fn {P : Program} {w : World} {H : Hp} {h : Heap} {f : Addr} {t : CloT} {cs : List Addr} {cvs : List V} (ok : HOk P w H h) (c : CloAt H f t cs cvs) : PySem.W.FnAt f h := by
  obtain ⟨c', hf, _⟩ := c.ex
  obtain ⟨⟨od, fd, sl, ho, _⟩, _, _⟩ := (show ObjOk P w H h f (cloO f t cs c') from ok f _ hf)
  exact ⟨_, _, _, _, ho⟩
noncomputable def KindsOk (P : Program) (w : World) (K : PySem.W.Frag) (mg : Str → Option Value) (base : Heap) (k : Nat) (ks : Kinds) : Prop := ∀ ts ∈ ks, CloOk P w K mg base k ts.1 ts.2
theorem x_held {ks : Kinds} {t : TA} (hk : KindsOk X.prog X.w X.K X.mg X.base k ks) (hr : Room k X.A) (hx : PassS (CX1 X.prog X.w) X E) (hg : QE X (.Name x p) ta) (ha : QA X (e :: es) t) (hs : noStars (e :: es) = true := by rfl) :
    QE X (.Call (.Name x p) (e :: es) [] pos) (tHeld ks E ta t) := ⟨fun pins s σ H Q I h => by
  have h' : (notStar e && noStars es) = true := hs
  refine wpAny_Call_Name_kw (thn (hg.out pins s σ H _ I h) fun u s1 ⟨y, H1, I1, ry, f, ey, ⟨ts, hts, cs, cvs, ca⟩, q⟩ => ?_)
  subst ey
  obtain rfl : u = Value.ref f := ry
  refine PySem.W.callWith_F (clo_fn I1.hok ca) (thn (ha.out pos pins s1 σ H1 _ I1 q) fun us s2 ⟨vs, H2, I2, rv, ts2, hm2, cs2, cvs2, ca2, hl, hsp⟩ => ⟨clo_fn I2.hok ca2, ?_⟩)
    (starEach_plain (Bool.and_eq_true_iff.mp h').1 es X.env) (noStars_any (Bool.and_eq_true_iff.mp h').2)
  refine wpAny_call (codeAny_mono ((hk ts2 hm2).run X.A X.stack s2 H2 f cs2 us vs cvs2 Q (E σ) hr I2.env0 ca2 rv hl hsp) fun r s' hq => ?_)
  cases r with
  | error e => exact hx pins σ H2 s2 e s' I2 hq
  | ok fl =>
    cases fl with
    | ret u => exact I2.after hq
    | next => exact False.elim hq
    | brk => exact False.elim hq
    | cont => exact False.elim hq⟩
end
end L2
namespace L2
open PySem PySem.Spec PyProof.Rows
structure EndsM where
  nx : St → Hp → Prop
  rt : St → VK
noncomputable abbrev TSM := EndsM → St → Hp → Prop
noncomputable def SPM (X : Cx) (pins : List (Addr × Obj)) (D : EndsM) (f : Flow) (s' : Shared) : Prop :=
  match f with
  | .next => ∃ σ' H', Inv X pins σ' H' s' ∧ D.nx σ' H'
  | .ret u => ∃ v σ' H', Inv X pins σ' H' s' ∧ RelV v u ∧ D.rt σ' v H'
  | _ => False
structure QM (X : Cx) (st : Stmt) (t : TSM) : Prop where
  out : ∀ (pins : List (Addr × Obj)) (s : Shared) (σ : St) (H : Hp) (D : EndsM), Inv X pins σ H s → t D σ H → wpAny (model X.prog X.w) X.A (exec st X.env) (SPM X pins D) X.xe s
structure QMs (X : Cx) (st : List Stmt) (t : TSM) : Prop where
  out : ∀ (pins : List (Addr × Obj)) (s : Shared) (σ : St) (H : Hp) (D : EndsM), Inv X pins σ H s → t D σ H → wpAny (model X.prog X.w) X.A (execs st X.env) (SPM X pins D) X.xe s
noncomputable def mSeq (t u : TSM) : TSM := fun D σ H => t { D with nx := fun σ' H' => u D σ' H' } σ H
noncomputable def mLift (t : TS) : TSM := fun D σ H => t { nx := D.nx, rt := fun _ _ => False } σ H
noncomputable def mRet (te : TE) : TSM := fun D σ H => te σ H (D.rt σ)
section
variable {X : Cx} {st : Stmt} {sts l m : List Stmt} {t u : TSM} {tS : TS} {e c : Expr} {te : TE} {tc : TT} {pos : Pos}
theorem y_lift (h : QS X st tS) : QM X st (mLift tS) := ⟨fun pins s σ H D I hq => thn (h.out pins s σ H _ I hq) fun f s1 q => by
  cases f with
  | next => exact q
  | ret v => obtain ⟨_, _, _, _, _, z⟩ := q; exact z.elim
  | brk => obtain ⟨_, _, _, z⟩ := q; exact z.elim
  | cont => obtain ⟨_, _, _, z⟩ := q; exact z.elim⟩
theorem y_ret (h : QE X e te) : QM X (.Return (some e) pos) (mRet te) := ⟨fun pins s σ H D I hq =>
  wpAny_Return_some (thn (h.out pins s σ H _ I hq) fun v s1 ⟨x, H1, I1, r1, q1⟩ => ⟨x, σ, H1, I1, r1, q1⟩)⟩
theorem y_cons (h1 : QM X st t) (h2 : QMs X sts u) : QMs X (st :: sts) (mSeq t u) := ⟨fun pins s σ H D I h => by
  refine wpAny_execs_cons (thn (h1.out pins s σ H _ I h) fun f s1 q => ?_)
  cases f with
  | next =>
    obtain ⟨σ', H', I', q⟩ := q
    exact h2.out pins s1 σ' H' D I' q
  | ret v => exact q
  | brk => exact q
  | cont => exact q⟩
theorem y_one (h1 : QM X st t) : QMs X [st] t := ⟨fun pins s σ H D I h => by
  refine wpAny_execs_cons (thn (h1.out pins s σ H D I h) fun f s1 q => ?_)
  cases f with
  | next => exact wpAny_execs_nil q
  | ret v => exact q
  | brk => exact q
  | cont => exact q⟩
end
noncomputable def trackC : List (Nat × Addr) → St → Hp → Hp
  | [], _, H => H
  | (i, c) :: r, σ, H => match σ[i]? with
    | some (some v) => trackC r σ (upd H c (cellO c v))
    | _ => trackC r σ H
theorem track_ok {P : Program} {w : World} {fs : List Addr} {H : Hp} {h h' : Heap} {σ : St} : ∀ (cs : List (Nat × Addr)) (H' : Hp), (cs.map (·.2)).Nodup → (∀ p ∈ cs, H' p.2 = none ∧ h.objs.size ≤ p.2 ∧ ∀ v, σ[p.1]? = some (some v) → ∃ u o, RelV v u ∧ h'.get? p.2 = some o ∧ o.data = .cell (some u)) →
    Un fs [] H H' h h' → HOk P w H' h' → Un fs [] H (trackC cs σ H') h h' ∧ HOk P w (trackC cs σ H') h'
  | [], H', _, _, u, ok => ⟨u, ok⟩
  | (i, c) :: r, H', nd, hc, u, ok => by
    unfold trackC
    have ndr := (List.nodup_cons.mp nd).2
    have hcr : ∀ p ∈ r, H' p.2 = none ∧ h.objs.size ≤ p.2 ∧ ∀ v, σ[p.1]? = some (some v) → ∃ u o, RelV v u ∧ h'.get? p.2 = some o ∧ o.data = .cell (some u) := fun p hp => hc p (List.mem_cons_of_mem _ hp)
    split
    · rename_i v hv
      obtain ⟨hn, hge, hcell⟩ := hc (i, c) List.mem_cons_self
      have hn : H' c = none := hn
      have hge : h.objs.size ≤ c := hge
      obtain ⟨uv, o, ru, eo, hd⟩ := hcell v hv
      have eo : h'.get? c = some o := eo
      refine track_ok r (upd H' c (cellO c v)) ndr (fun p hp => ⟨?_, (hcr p hp).2⟩) ⟨u.keep, u.slot, fun b ob e n hx => ?_, u.there, fun b xs e => ?_, fun b ob z e => ?_, fun b ps e => ?_⟩ fun b ob e => ?_
      · have : p.2 ≠ c := fun z => (List.nodup_cons.mp nd).1 (by rw [← z]; exact List.mem_map.mpr ⟨p, hp, rfl⟩)
        rw [upd_ne this]; exact (hcr p hp).1
      · rw [upd_ne (Nat.ne_of_lt (Nat.lt_of_lt_of_le (Heap.lt_size e) hge))]; exact u.free b ob e n hx
      · have z := u.tups b xs e; rw [upd_ne (ne_of_none z hn)]; exact z
      · have z := u.frzs b ob _ e; rw [upd_ne (ne_of_none z hn)]; exact z
      · obtain ⟨more, z⟩ := u.tbls b ps e; exact ⟨more, by rw [upd_ne (ne_of_none z hn)]; exact z⟩
      · by_cases hb : b = c
        · subst hb
          rw [upd_same] at e; cases e
          refine ⟨⟨uv, o, ru, eo, hd⟩, ⟨o, eo⟩, ?_⟩
          rintro h1 h2 ⟨u', o', r', e', d'⟩ k
          exact ⟨u', o', r', k _ e', d'⟩
        · rw [upd_ne hb] at e
          exact (ok b ob e).stay (fun a q _ z => z) (fun a q => by rw [upd_ne (ne_of_none q hn)]; exact q) fun a xs q => by rw [upd_ne (ne_of_none q hn)]; exact q
    · exact track_ok r H' ndr hcr u ok
theorem Fun.okM {P : Program} {w : World} {K : PySem.W.Frag} {mg : Str → Option Value} {base : Heap} {x qual : Str} {st : Stmt} {f c0 : Addr} {fd : FuncData} {N ps : List Str} {k : Nat} {sp : Sp} {caps : Nat → List (Nat × Addr)} (F : Fun K x qual st f fd) (hcd : fd.code = .ref c0) (S : FnScope N ps (defScope st)) (len : ∀ vs H Q E, sp vs H Q E → vs.length = ps.length)
    (hcaps : ∀ (L : Nat) (p : Nat × Addr), p ∈ caps L → ∃ y, N[p.1]? = some y ∧ (defScope st).names.lookup y = some .cell ∧ (cellsFrom (L + 1) (defScope st).names []).lookup y = some p.2) (hnd : ∀ L, ((caps L).map (·.2)).Nodup)
    (hbody : ∀ (A : Around) (outer : List Env) (s : Shared) (H : Hp) (vs : List V) (Q : VK) (E : XK), Room k (A.deeper (envOfC qual (defScope st) s.heap.objs.size f (.ref c0))) → sp vs H Q E →
      ∃ t, QMs (cxOf (CX1 P w) P w K mg base N qual (defScope st) f (.ref c0) A outer s H E) (defBody st) t ∧ t { nx := fun σ H' => (∀ p ∈ caps s.heap.objs.size, H' p.2 = none) → Q .non (trackC (caps s.heap.objs.size) σ H'), rt := fun σ v H' => (∀ p ∈ caps s.heap.objs.size, H' p.2 = none) → Q v (trackC (caps s.heap.objs.size) σ H') } (start N vs) H) : FnOk P w K mg base (CX1 P w) (k + 1) f fd ps sp := by
  obtain ⟨oc, od, kV, doc, pm, an, cdv, ct, osl, rfl, lk, hcd'⟩ := F.ex
  obtain rfl : cdv = .ref c0 := hcd
  refine ⟨len, fun A outer s H args us vs Q E hr e0 hb r hsp => ?_⟩
  have hl := len _ _ _ _ hsp
  have KX : K.In s.heap := e0.mod.kin.keeps fun b o e => (e0.bs b o e).1
  have lim : s.heap.NoLimit := e0.mod.nolimit.keeps fun b o e => (e0.bs b o e).1
  have hkind : ∀ y ∈ ps.zip us, (defScope st).names.lookup y.1 = some .local ∨ ((defScope st).names.lookup y.1 = some .cell ∧ ((cellsFrom (s.heap.objs.size + 1) (defScope st).names []).lookup y.1).isSome = true) := fun ⟨n, v⟩ hy => by
    rcases S.par n (List.of_mem_zip hy).1 with q | q
    · exact .inl q
    · exact .inr ⟨q, PySem.W.cellsFrom_some _ _ _ (.inl q)⟩
  refine codeAny_call_function hr.depth (KX _ _ lk) rfl S.co S.gen rfl (PySem.W.codeRec_of KX hcd') (hb _ _ _ _ ?_)
  refine wpAny_newFunctionEnv_cells S.kind hkind fun env he s1 x => ?_
  subst he
  refine ⟨lim.keeps x.toInCall.keep, codeAny_func ?_⟩
  obtain ⟨t, ht, hq⟩ := hbody A outer s H vs Q E (hr.deeper _) hsp
  have I : Inv (cxOf (CX1 P w) P w K mg base N qual (defScope st) f (.ref c0) A outer s H E) [] (start N vs) H s1 := inv_start S hr.hd e0 hl r x
  refine wpAny_mono (ht.out [] s1 (start N vs) H _ I hq) (fun fl s' hs => ?_) fun e s' hs => hs
  have fin : ∀ {σ' : St} {H' : Hp} {v : V} {u : Value}, Inv (cxOf (CX1 P w) P w K mg base N qual (defScope st) f (.ref c0) A outer s H E) [] σ' H' s' → RelV v u → ((∀ p ∈ caps s.heap.objs.size, H' p.2 = none) → Q v (trackC (caps s.heap.objs.size) σ' H')) → CE outer P w H s Q u s' :=
    fun {σ' H' v u} J rv q => by
      have free : ∀ p ∈ caps s.heap.objs.size, H' p.2 = none := fun p hp => by
        obtain ⟨y, _, _, hc⟩ := hcaps _ p hp
        exact J.freeC y p.2 hc
      have hcond : ∀ p ∈ caps s.heap.objs.size, H' p.2 = none ∧ s.heap.objs.size ≤ p.2 ∧ ∀ v, σ'[p.1]? = some (some v) → ∃ u o, RelV v u ∧ s'.heap.get? p.2 = some o ∧ o.data = .cell (some u) := fun p hp => by
        obtain ⟨y, hy, hk, hc⟩ := hcaps _ p hp
        refine ⟨free p hp, J.ok.cab y p.2 rfl hc, fun v hv => ?_⟩
        obtain ⟨m, _, hloc⟩ := J.loc
        obtain ⟨u', r', lk'⟩ := hloc p.1 y v hy hv (.inr (.inl hk))
        rcases lk' with ⟨z, _⟩ | ⟨_, c, ec, o, eo, hd⟩
        · have z : (defScope st).names.lookup y = some .local := z
          rw [hk] at z; cases z
        · have ec : (cellsFrom (s.heap.objs.size + 1) (defScope st).names []).lookup y = some c := ec
          rw [hc] at ec; cases ec
          exact ⟨u', o, r', eo, hd⟩
      obtain ⟨un, ok⟩ := track_ok (P := P) (w := w) (σ := σ') (caps s.heap.objs.size) H' (hnd _) hcond J.base J.hok
      exact ⟨v, _, J.os, J.bare, un, ok, rv, q free⟩
  cases fl with
  | ret u =>
    obtain ⟨v, σ', H', J, rv, q⟩ := hs
    exact fin J rv q
  | next =>
    obtain ⟨σ', H', J, q⟩ := hs
    exact fin (v := V.non) (u := Value.none) J rfl q
  | brk => exact False.elim hs
  | cont => exact False.elim hs
end L2
namespace L2
open PySem PySem.Spec PyProof.Rows
theorem law_callT {P : Program} {w : World} {K : PySem.W.Frag} {mg mb : Str → Option Value} {CX : CXT} {k : Nat} {fa a : Addr} {fd : FuncData} {x : Str} {sp : Sp} {s₁ : Shared} {vs : List Value} {ns : List Int} {tabs : List (Addr × Addr)}
    (KX : K.In s₁.heap) (hns : s₁.heap.Ns mainGlobals mg) (hb : s₁.heap.Ns builtinsNs mb) (hbb : ∀ x : Str, x ≠ "__name__" → mb x = bootBuiltins x) (hlim : s₁.heap.NoLimit) (hg : s₁.gens = #[]) (hB : BM mg s₁.heap)
    (hT : ∀ q ∈ tabs, PySem.W.CodeHd s₁.heap q.1 q.2 ∧ s₁.heap.get? q.2 = some (PySem.W.tabObj #[])) (hKT : PySem.W.noTabs K = true)
    (ha : s₁.heap.get? a = some { cls := .type "list", data := .seq vs.toArray }) (hi : IntsAre vs ns) (hl : ns.length ≤ sizeLine) (hr : Room k callerA)
    (F : ∀ base : Heap, K.In base → base.Ns mainGlobals mg → BM mg base → (∀ q ∈ tabs, PySem.W.CodeHd base q.1 q.2) → FnOk P w K mg base CX k fa fd [x] sp) (hbind : ∀ (s : Shared) (u : Value), BindsTo s fd ⟨[u], []⟩ [(x, u)])
    (hsp : ∀ H : Hp, (∀ q ∈ tabs, H q.2 = some (.tbl #[])) → SqL K H a (ns.map V.int) → sp [.ref a] H (fun v _ => v = .bl true) fun _ _ _ => False)
    (hCX : ∀ H e s', CX [] H s₁ (fun _ _ _ => False) e s' → False) :
    codeAny (model P w) callerA (.call (.ref fa) ⟨[.ref a], []⟩) (fun r s' => r = .ok (.ret (.bool true)) ∧ OldK s₁.heap s'.heap ∧ s'.os = s₁.os ∧ AllBare s'.gens) s₁ := by
  have rv := vals_ints hi
  have lenV := hi.length
  have tabK : ∀ q ∈ tabs, K.lookup q.2 = none := fun q hq => by
    cases e : K.lookup q.2 with
    | none => rfl
    | some o =>
      have e2 := KX _ _ e
      rw [(hT q hq).2] at e2; cases e2
      have := List.all_eq_true.mp hKT _ (PySem.W.mem_of_lookupK e)
      exact absurd (show false = true from this) Bool.false_ne_true
  have tabA : ∀ q ∈ tabs, q.2 ≠ a := fun q hq e => by
    have e2 := (hT q hq).2
    rw [e, ha] at e2; cases e2
  have core : ∀ H : Hp, (∀ q ∈ tabs, H q.2 = some (.tbl #[])) → SqL K H a (ns.map V.int) → HOk P w H s₁.heap → (∀ b, H b ≠ none → (b = a ∧ ∃ o xs, H b = some (.frz o (.lst xs))) ∨ ∃ q ∈ tabs, q.2 = b) → (∀ b, H b ≠ none → K.lookup b = none) →
      codeAny (model P w) callerA (.call (.ref fa) ⟨[.ref a], []⟩) (fun r s' => r = .ok (.ret (.bool true)) ∧ OldK s₁.heap s'.heap ∧ s'.os = s₁.os ∧ AllBare s'.gens) s₁ := by
    intro H hO hS hok hA hK
    have base_of : ∀ {b : Addr} {o : Obj}, s₁.heap.get? b = some o → H b = none → (hidT s₁.heap H).get? b = some o := fun e n => hidT_get e n
    have noA : ∀ {b : Addr} {o : Obj}, s₁.heap.get? b = some o → o.cls ≠ .none → o.cls ≠ .type "list" → H b = none := fun {b o} e c1 c2 => by
      cases q : H b with
      | none => rfl
      | some u =>
        rcases hA b (by rw [q]; simp) with ⟨rfl, _⟩ | ⟨p, hp, rfl⟩
        · rw [ha] at e; cases e; exact absurd rfl c2
        · rw [(hT p hp).2] at e; cases e; exact absurd rfl c1
    have noD : ∀ {b : Addr} {o : Obj} {es : Array DictEntry} {ep : Nat}, s₁.heap.get? b = some o → o.data = .dict es ep → H b = none := fun {b o es ep} e d => by
      cases q : H b with
      | none => rfl
      | some u =>
        rcases hA b (by rw [q]; simp) with ⟨rfl, _⟩ | ⟨p, hp, rfl⟩
        · rw [ha] at e; cases e; cases d
        · rw [(hT p hp).2] at e; cases e; cases d
    have nsK : ∀ {b : Addr} {m : Str → Option Value}, s₁.heap.Ns b m → (hidT s₁.heap H).Ns b m := fun {b m} ⟨o, es, ep, e, d, r⟩ => ⟨o, es, ep, base_of e (noD e d), d, r⟩
    have hKb : K.In (hidT s₁.heap H) := fun b o e => base_of (KX b o e) (by
      cases q : H b with
      | none => rfl
      | some u => rw [hK b (by rw [q]; simp)] at e; cases e)
    have hBb : BM mg (hidT s₁.heap H) := by
      obtain ⟨bm, ob, b1, b2, b3, b4, b5, b6⟩ := hB
      exact ⟨bm, ob, b1, b2, base_of b3 (noA b3 (by rw [b4]; intro z; cases z) (by rw [b4]; intro z; exact absurd (Value.type.inj z) (by decide))), b4, b5, b6⟩
    have hCb : ∀ q ∈ tabs, PySem.W.CodeHd (hidT s₁.heap H) q.1 q.2 := fun q hq => by
      obtain ⟨o, vs, file, tf, flags, tg, inF, text, tt, e1, e2, r⟩ := (hT q hq).1
      exact ⟨o, vs, file, tf, flags, tg, inF, text, tt, base_of e1 (noA e1 (by rw [e2]; intro z; cases z) (by rw [e2]; intro z; exact absurd (Value.type.inj z) (by decide))), e2, r⟩
    have hM : Mod K mg (hidT s₁.heap H) := ⟨hKb, nsK hns, ⟨mb, nsK hb, hbb⟩, let ⟨mc, h1, h2⟩ := hlim; ⟨mc, nsK h1, h2⟩⟩
    have e0 : Env0 P w K mg (hidT s₁.heap H) callerA [] s₁ H := ⟨rfl, hM, fun b o e => of_hidT e, Nat.le_of_eq (hidT_size _ _), trivial, fun b hb => absurd (show b ∈ ([] : List Addr) from hb) (by simp), hok, .of_eq hg⟩
    refine codeAny_mono ((F _ hKb (nsK hns) hBb hCb).run callerA [] s₁ H ⟨[.ref a], []⟩ [.ref a] [.ref a] _ _ hr e0 (hbind s₁ (.ref a)) (.cons rfl .nil) (hsp H hO hS)) fun r s' h => ?_
    cases r with
    | error e => exact (hCX H e s' h).elim
    | ok fl =>
      cases fl with
      | next => exact False.elim h
      | brk => exact False.elim h
      | cont => exact False.elim h
      | ret u =>
        obtain ⟨v, H', os, bare, un, hok', r', q⟩ := h
        have q' : v = .bl true := q
        subst q'
        obtain rfl : u = Value.bool true := r'
        have all : ∀ b o, s₁.heap.get? b = some o → s'.heap.get? b = some o ∨ ∃ q ∈ tabs, q.2 = b ∧ ∃ more, s'.heap.get? b = some (PySem.W.tabObj more) := fun b o e => by
          cases q : H b with
          | none => exact .inl (un.keep b o e q (by intro z; exact absurd (show b ∈ ([] : List Addr) from z) (by simp)) (by simp))
          | some u =>
            rcases hA b (by rw [q]; simp) with ⟨rfl, ob, xs, z⟩ | ⟨p, hp, rfl⟩
            · have z2 := un.frzs b ob _ z
              obtain ⟨e1, _⟩ := hok b _ z
              obtain ⟨e2, _⟩ := hok' b _ z2
              rw [e] at e1; cases e1
              exact .inl e2
            · obtain ⟨more, z2⟩ := un.tbls p.2 _ (hO p hp)
              exact .inr ⟨p, hp, rfl, _, hok' p.2 _ z2⟩
        refine ⟨rfl, ⟨fun b o e => ?_, fun b o e => ?_⟩, os, bare⟩
        · rcases all b o e with z | ⟨p, hp, rfl, more, z⟩
          · exact .inl z
          · have e2 := (hT p hp).2
            rw [e] at e2; cases e2
            exact .inr (.inl ⟨((hT p hp).1.tab (hT p hp).2).isCodeTable, rfl, #[], more, rfl, by rw [Array.empty_append]; exact z⟩)
        · rcases all b o e with z | ⟨p, hp, rfl, more, z⟩
          · exact ⟨_, z⟩
          · exact ⟨_, z⟩
  cases hk : K.lookup a with
  | some o =>
    have e := KX a o hk
    rw [ha] at e
    cases e
    refine core (fun b => if b ∈ tabs.map (·.2) then some (.tbl #[]) else none) (fun q hq => if_pos (List.mem_map.mpr ⟨q, hq, rfl⟩)) (.inr ⟨_, vs.toArray, _, hk, rfl, rfl, rfl, by rw [List.size_toArray, lenV]; exact hl, by simpa using rv⟩) (fun b u z => ?_) (fun b z => ?_) fun b z => ?_
    · by_cases hb : b ∈ tabs.map (·.2)
      · have z' := (if_pos hb).symm.trans z
        cases z'
        obtain ⟨q, hq, rfl⟩ := List.mem_map.mp hb
        exact (hT q hq).2
      · have z' := (if_neg hb).symm.trans z
        cases z'
    · by_cases hb : b ∈ tabs.map (·.2)
      · obtain ⟨q, hq, e⟩ := List.mem_map.mp hb
        exact .inr ⟨q, hq, e⟩
      · exact absurd (if_neg hb) z
    · by_cases hb : b ∈ tabs.map (·.2)
      · obtain ⟨q, hq, rfl⟩ := List.mem_map.mp hb
        exact tabK q hq
      · exact absurd (if_neg hb) z
  | none =>
    refine core (fun b => if b = a then some (.frz { cls := .type "list", data := .seq vs.toArray } (.lst (ns.map V.int))) else if b ∈ tabs.map (·.2) then some (.tbl #[]) else none)
      (fun q hq => by show (if q.2 = a then _ else _) = _; rw [if_neg (tabA q hq), if_pos (List.mem_map.mpr ⟨q, hq, rfl⟩)]) (.inl (.inr ⟨{ cls := .type "list", data := .seq vs.toArray }, if_pos rfl⟩)) (fun b u z => ?_) (fun b z => ?_) fun b z => ?_
    · by_cases hb : b = a
      · have z' := (if_pos hb).symm.trans z
        cases z'
        subst hb
        exact ⟨ha, by rw [List.length_map]; exact hl, vs, _, rv, ha⟩
      · have z' : (if b ∈ tabs.map (·.2) then some (HO.tbl #[]) else none) = some u := (if_neg hb).symm.trans z
        by_cases hb2 : b ∈ tabs.map (·.2)
        · rw [if_pos hb2] at z'; cases z'
          obtain ⟨q, hq, rfl⟩ := List.mem_map.mp hb2
          exact (hT q hq).2
        · rw [if_neg hb2] at z'; cases z'
    · by_cases hb : b = a
      · exact .inl ⟨hb, _, _, if_pos hb⟩
      · by_cases hb2 : b ∈ tabs.map (·.2)
        · obtain ⟨q, hq, e⟩ := List.mem_map.mp hb2
          exact .inr ⟨q, hq, e⟩
        · exact absurd ((if_neg hb).trans (if_neg hb2)) z
    · by_cases hb : b = a
      · rw [hb]; exact hk
      · by_cases hb2 : b ∈ tabs.map (·.2)
        · obtain ⟨q, hq, rfl⟩ := List.mem_map.mp hb2
          exact tabK q hq
        · exact absurd ((if_neg hb).trans (if_neg hb2)) z
theorem walk_ofT {l : PySem.W.OpenLaw} {n k : Nat} {q : Program} {loose : List Str} {XP : (Str → Option Value) → Heap → Prop} {YP : World → Heap → Prop} {d : DefRec} {K : Params → PySem.W.Frag} {CX : World → CXT} {x : Str} {names : List Str}
    (hn : l.most = some n) (hn2 : n ≤ sizeLine) (hdf : d.params.defaults = []) (hr : Room k callerA)
    (hY : ∀ (w : World) (h : Heap), YP w h → (K w.params).In h)
    (hq : ∀ y ∈ names, ((PyProof.Rows.recsOf q).find? fun e => e.name == y).isSome = true)
    (F : ∀ (w : World) (mg : Str → Option Value) (fa : Addr) (h : Heap), (K w.params).In h → h.Ns mainGlobals mg → mg d.name = some (.ref fa) →
      ∃ (fd : FuncData) (tabs : List (Addr × Addr)) (sp : Sp), (∀ (s : Shared) (u : Value), BindsTo s fd ⟨[u], []⟩ [(x, u)]) ∧ PySem.W.noTabs (K w.params) = true ∧ (∀ t ∈ tabs, ∃ y ∈ names, PySem.W.tabIn (K w.params) y = some t) ∧
        (∀ base : Heap, (K w.params).In base → base.Ns mainGlobals mg → BM mg base → (∀ t ∈ tabs, PySem.W.CodeHd base t.1 t.2) → FnOk l.prog w (K w.params) mg base (CX w) k fa fd [x] sp) ∧
        ∀ (H : Hp) (a : Addr) (ns : List Int), ns.length ≤ n → (∀ t ∈ tabs, H t.2 = some (.tbl #[])) → SqL (K w.params) H a (ns.map V.int) → sp [.ref a] H (fun v _ => v = .bl true) fun _ _ _ => False)
    (hCX : ∀ (w : World) (H : Hp) (s : Shared) (e : Value) (s' : Shared), CX w [] H s (fun _ _ _ => False) e s' → False) :
    PySem.W.WalkO q loose XP YP l.row.toRowW d [] (fun f vs => PySem.call f vs) := by
  refine Att.attach_call hn hdf fun w s₀ s₁ mg mb fa o pm cd doc a vs ns G Y ho hd hcd hmg hobj hints hlen hg => ?_
  have KX := hY w _ Y
  obtain ⟨fd, tabs, sp, hb, hKT, htabs, hF, hsp⟩ := F w mg fa _ KX G.T.g hmg
  refine law_callT (tabs := tabs) KX G.T.g G.T.b G.T.builtins G.T.nolimit hg G.T.bmain (fun t ht => ?_) hKT hobj hints (Nat.le_trans hlen hn2) hr hF hb (fun H hO hS => hsp H a ns hlen hO hS) fun H e s' => hCX w H s₁ e s'
  obtain ⟨y, hy, e⟩ := htabs t ht
  obtain ⟨dd, hdd⟩ := Option.isSome_iff_exists.mp (hq y hy)
  exact PySem.W.tab_of G.T KX hdd e
end L2
namespace L2
open PySem PySem.Spec PyProof.Rows
section
variable {X : Cx}
theorem SPM.unwish {E : Value → Shared → Prop} {pins : List (Addr × Obj)} {D : EndsM} {f : Flow} {s' : Shared} (h : SPM (X.wish E) pins D f s') : SPM X pins D f s' := by
  cases f with
  | next => obtain ⟨σ', H', I, q⟩ := h; exact ⟨σ', H', I.unwish, q⟩
  | brk => exact h
  | cont => exact h
  | ret u => obtain ⟨v, σ', H', I, r, q⟩ := h; exact ⟨v, σ', H', I.unwish, r, q⟩
theorem QMs.nox {st : List Stmt} {t : TSM} (h : QMs X.nox st t) : QMs X st t := ⟨fun pins s σ H D I hw =>
  wpAny_mono (h.out pins s σ H D (I.wish _) hw) (fun _ _ q => SPM.unwish q) fun _ _ z => False.elim z⟩
theorem CloOk.mono {P : Program} {w : World} {K : PySem.W.Frag} {mg : Str → Option Value} {base : Heap} {j k : Nat} {t : CloT} {sp : Sp} (F : CloOk P w K mg base j t sp) (h : j ≤ k) : CloOk P w K mg base k t sp :=
  ⟨fun A outer s H f cs us vs cvs Q E hr => F.run A outer s H f cs us vs cvs Q E (hr.mono h)⟩
noncomputable def rSetDef : V → List V → Hp → VK → Prop := fun x vs H Q => ∃ a y d r H', x = .ref a ∧ vs = [y, d] ∧ DDef H a y d r H' ∧ Q r H'
theorem mt_setdef (hu : X.A.units + 1 < cLine) : MtR X "dict.setdefault" rSetDef := by
  intro pins s σ H x xs v us Q I rx rs h
  obtain ⟨a, y, d, r, H', rfl, rfl, g, q⟩ := h
  obtain rfl : v = Value.ref a := rx
  obtain ⟨uy, ud, rfl, ry, rd⟩ := vals2 rs
  rcases g with ⟨g, rfl⟩ | ⟨g, p, rfl⟩
  · rcases g with ⟨kvs, k, e, rfl, l⟩ | ⟨kvs, k, b, e, rfl, eb, l⟩
    · obtain ⟨z, hd, vs, rel, dd⟩ := dk_rd I.hok e
      obtain ⟨w', hw, rw'⟩ := RelO.some_of (v := r) (o := valueAt vs k) (by rw [l]; exact rel.val k)
      exact call_meetsIn PySem.F.slot_dict_setdefault dd.typeIs PySem.F.entry_dict_setdefault (PySem.F.args_dict_setdefault_3 _ _ _) (kt_meets_setdefault (mixKind X.prog X.w) a (kV_is ry) hd ud)
        ⟨vs, dd, by rw [← rel.length]; exact z, (fun v' hv' => by rw [hw] at hv'; cases hv'; exact ⟨r, H', I.tok _, rw', q⟩), (fun hn => by rw [hw] at hn; cases hn)⟩
    · cases (show uy = Value.ref b from ry)
      obtain ⟨z, hd, xs, rel, dd⟩ := dt_rd I.hok e
      obtain ⟨w', hw, rw'⟩ := RelO.some_of (v := r) (o := (atKey xs k).map (·.2)) (by rw [l]; exact rel.val k)
      obtain ⟨pp, hp, hp2⟩ := Option.map_eq_some_iff.mp hw
      refine wpAny_call_entry PySem.F.slot_dict_setdefault dd.typeIs PySem.F.entry_dict_setdefault ?_ (PySem.F.args_dict_setdefault_3 _ _ _)
      unfold Builtin.«dict.setdefault»
      refine wpAny_bind ?_
      unfold Builtin.Dict.keyAndDefault
      refine wpAny_bind (wpAny_notOrdered_dict dd.typeIs ?_)
      show wpAny _ _ (pure (a, Value.ref b, some ud)) _ _ s
      refine wpAny_pure ?_
      show wpAny _ _ (if (a == sysModules) = true then _ else (dictSetDefault a (.ref b) ud >>= _)) _ _ s
      rw [if_neg (by rw [hd]; exact Bool.false_ne_true)]
      refine wpAny_bind (dictSetDefault_heap (tupleKind_room_in1 hu) (key_of I.hok eb) dd (fun p' hp' => ?_) (fun hn => ?_) (by rw [← Paired.length rel]; exact z))
      · rw [hp] at hp'; cases hp'
        exact wpAny_pure ⟨_, rfl, ⟨r, H', I.tok _, by rw [hp2]; exact rw', q⟩⟩
      · rw [hp] at hn; cases hn
  · rcases g with ⟨kvs, k, e, rfl, l⟩ | ⟨kvs, k, b, e, rfl, eb, l⟩
    · rcases p with ⟨kvs', k', e', ey, lz, rfl⟩ | ⟨kvs', k', b', e', ey, _⟩
      · have ek : k = k' := by cases k <;> cases k' <;> first | (cases ey; rfl) | cases ey
        subst ek
        obtain ⟨z, hd, vs, rel, dd⟩ := dk_of I.hok e'
        have ee : kvs = kvs' := by
          rcases e with e | ⟨o, e⟩
          · rw [e'] at e; cases e; rfl
          · rw [e'] at e; cases e
        subst ee
        have hn : valueAt vs k = none := RelO.none_of (by rw [l]; exact rel.val k)
        refine call_meetsIn PySem.F.slot_dict_setdefault dd.typeIs PySem.F.entry_dict_setdefault (PySem.F.args_dict_setdefault_3 _ _ _) (kt_meets_setdefault (mixKind X.prog X.w) a (kV_is ry) hd ud)
          ⟨vs, dd, by rw [← rel.length]; exact z, (fun v' hv' => by rw [hn] at hv'; cases hv'), fun _ h' dd' hs => ?_⟩
        have he : ∃ q, h'.get? a = some q := let ⟨q, _, _, hq, _⟩ := dd'; ⟨q, hq⟩
        have hl : (putK kvs k r).length ≤ sizeLine := by have := length_putK kvs k r; omega
        exact ⟨r, _, d_write I (by rw [e']; exact True.intro) hs he (dk_new hl hd (rel.put k rd) dd'), rd, q⟩
      · cases k <;> cases ey
    · rcases p with ⟨kvs', k', e', ey, _⟩ | ⟨kvs', k', b', e', ey, eb', lz, rfl⟩
      · cases k' <;> cases ey
      · cases ey
        have ek : k = k' := kVs_inj (HO.tup.inj (Option.some.inj (eb.symm.trans eb')))
        subst ek
        cases (show uy = Value.ref b from ry)
        obtain ⟨z, hd, xs, rel, dd⟩ := dt_of I.hok e'
        have ee : kvs = kvs' := by
          rcases e with e | ⟨o, e⟩
          · rw [e'] at e; cases e; rfl
          · rw [e'] at e; cases e
        subst ee
        have hn : atKey xs k = none := by
          have := RelO.none_of (o := (atKey xs k).map (·.2)) (by rw [l]; exact rel.val k)
          exact Option.map_eq_none_iff.mp this
        refine wpAny_call_entry PySem.F.slot_dict_setdefault dd.typeIs PySem.F.entry_dict_setdefault ?_ (PySem.F.args_dict_setdefault_3 _ _ _)
        unfold Builtin.«dict.setdefault»
        refine wpAny_bind ?_
        unfold Builtin.Dict.keyAndDefault
        refine wpAny_bind (wpAny_notOrdered_dict dd.typeIs ?_)
        show wpAny _ _ (pure (a, Value.ref b, some ud)) _ _ s
        refine wpAny_pure ?_
        show wpAny _ _ (if (a == sysModules) = true then _ else (dictSetDefault a (.ref b) ud >>= _)) _ _ s
        rw [if_neg (by rw [hd]; exact Bool.false_ne_true)]
        refine wpAny_bind (dictSetDefault_heap (tupleKind_room_in1 hu) (key_of I.hok eb) dd (fun p' hp' => ?_) (fun _ h' dd' hs => ?_) (by rw [← Paired.length rel]; exact z))
        · rw [hn] at hp'; cases hp'
        · obtain ⟨q', es, ep, hq, h2, h3, h4, _, h5⟩ := dd'
          have hl : (putK kvs k r).length ≤ sizeLine := by have := length_putK kvs k r; omega
          refine wpAny_pure ⟨_, rfl, ⟨r, _, d_write (ob := .dT (putK kvs k r)) I (by rw [e']; exact True.intro) hs ⟨q', hq⟩ ⟨hl, hd, _, (rel.put k eb rd).keeps fun c ys ec => ?_, q', es, ep, hq, h2, h3, h4, h5⟩, rd, q⟩⟩
          rw [upd_ne (ne_of ec e' (fun z => nomatch z))]
          exact ec
noncomputable def Its (z : Str) : It := ⟨fun i _ => i < z.length, fun i H x H' => H' = H ∧ ∃ c, z.cps[i]? = some c ∧ x = .str ⟨#[c]⟩, fun i _ => z.length ≤ i⟩
theorem turn_str {P : Program} {w : World} {K : PySem.W.Frag} {tg : Expr} (z : Str) (t : Tok) (it : Addr) : Turn P w K tg (Its z) [it] it (fun i h => h.IsStrIter it "str_ascii_iterator" z t i) where
  mem := by simp
  obj := fun i h st b hb => by
    have e : b = it := by simpa using hb
    subst e
    obtain ⟨o, e, c, d⟩ := st
    exact ⟨o, e, fun v z => by rw [d] at z; cases z⟩
  keep := fun i h h' st k => let ⟨o, ho, r⟩ := st; ⟨o, k it (by simp) o ho, r⟩
  item := by
    intro X hP hw hK hc i pins s σ H E I hf st hg
    subst hP hw hK
    obtain ⟨f0, f1, f2, f3, f4, f5⟩ := hf it (by simp)
    have hi : i < z.cps.size := hg
    refine wpAny_pyNext_ascii_item st (c := z.cps[i]) (Array.getElem?_eq_getElem hi) fun h' st' sb => ?_
    have I1 : Inv X pins σ H { s with heap := h', toks := s.toks + 1 } := I.turned (t' := s.toks + 1) (fun b o hb e => (sb.2 b hb).trans e) f0 f1 f3 f4 f5
    obtain ⟨o, e, c, d⟩ := id st'
    exact ⟨_, rfl, go_of (s := { s with heap := h', toks := s.toks + 1 }) e c d (by decide) ⟨.str ⟨#[z.cps[i]]⟩, H, I1, ⟨_, rfl⟩, ⟨rfl, _, Array.getElem?_eq_getElem hi, rfl⟩, st', fun b hb => (hf b hb).1⟩⟩
  done := by
    intro X hP hw hK hc i pins s σ H E I hf st hg
    subst hP hw hK
    obtain ⟨f0, f1, f2, f3, f4, f5⟩ := hf it (by simp)
    exact wpAny_pyNext_ascii_end (I.ok.hd hc) st (Array.getElem?_eq_none (show z.cps.size ≤ i from hg)) fun h' eb => ⟨rfl, I.turned (t' := s.toks) (fun b o hb e => eb b o hb e) f0 f1 f3 f4 f5⟩
  self := fun A i s Q E st h => by
    refine wpAny_pyIter_slot st.typeIs F.slot_str_ascii_iterator_iter (wpAny_call_entry F.slot_str_ascii_iterator_iter st.typeIs F.entry_str_ascii_iterator_iter ?_ (F.args_str_ascii_iterator_iter_1 _))
    show wpAny _ _ (ret (.ref it)) _ _ s
    exact wpAny_pure ⟨_, rfl, "str_ascii_iterator", _, st.typeIs, F.slot_str_ascii_iterator_next.lookup, h⟩
variable {a : Expr} {ta : TE} {tg : Expr}
noncomputable def iSeqA (K : PySem.W.Frag) (tl : TE) : TI := fun σ H R => tl σ H fun x H1 => match x with
  | .str z => z.cps.all (· < 128) = true ∧ R (Its z) H1
  | x => ∃ a, x = .ref a ∧ (((∃ xs, SqL K H1 a xs) ∧ R (Itl K a) H1) ∨ ((∃ xs, SqT K H1 a xs) ∧ R (Itt K a) H1))
theorem x_seqA (h : QE X a ta) : QI X tg a (iSeqA X.K ta) := ⟨fun pins s σ H R I hw => by
  refine thn (h.out pins s σ H _ I hw) fun v s1 ⟨x, H1, I1, r1, q1⟩ => ?_
  cases x with
  | str z =>
    obtain ⟨t, rfl⟩ := r1
    refine wpAny_pyIter_ascii q1.1 ?_
    refine ⟨s1.heap.objs.size, [s1.heap.objs.size], _, _, H1, rfl, I1.kept (t' := s1.toks) fun b o e => Heap.get?_push_of_some _ e, turn_str z t _, ⟨_, Heap.get?_push_size _ rfl, rfl, rfl⟩, fun b hb => ?_, q1.2⟩
    have e : b = s1.heap.objs.size := by simpa using hb
    subst e
    exact I1.fpOk (Nat.le_refl _) (I1.hok.fresh (Nat.le_refl _))
  | ref c =>
    obtain ⟨a, e, q⟩ := q1
    cases e
    cases r1
    rcases q with ⟨⟨xs, hq⟩, q⟩ | ⟨⟨xs, hq⟩, q⟩
    · obtain ⟨its, rv, p, hz⟩ := I1.list hq
      refine wpAny_pyIter_list (plain_is p) ?_
      refine ⟨s1.heap.objs.size, [s1.heap.objs.size], _, _, H1, rfl, I1.kept (t' := s1.toks) fun b o e => Heap.get?_push_of_some _ e, turn_list _ _, ⟨_, Heap.get?_push_size _ rfl, rfl, rfl⟩, fun b hb => ?_, q⟩
      have e : b = s1.heap.objs.size := by simpa using hb
      subst e
      exact I1.fpOk (Nat.le_refl _) (I1.hok.fresh (Nat.le_refl _))
    · obtain ⟨its, rv, p, hz⟩ := I1.tuple hq
      refine wpAny_pyIter_tuple (show s1.heap.IsTuple c its.toArray from p) ?_
      refine ⟨s1.heap.objs.size, [s1.heap.objs.size], _, _, H1, rfl, I1.kept (t' := s1.toks) fun b o e => Heap.get?_push_of_some _ e, turn_tuple _ _, ⟨_, Heap.get?_push_size _ rfl, rfl, rfl⟩, fun b hb => ?_, q⟩
      have e : b = s1.heap.objs.size := by simpa using hb
      subst e
      exact I1.fpOk (Nat.le_refl _) (I1.hok.fresh (Nat.le_refl _))
  | _ => obtain ⟨_, e, _⟩ := q1; cases e⟩
theorem op_mulS : OpR X (binaryOp .Mult) (fun x y H Q => ∃ z n, x = .str z ∧ y = .int n ∧ (-1000 ≤ n ∧ n ≤ 1000 ∧ z.length ≤ 1000) ∧ Q (.str (Txt.mul z n)) H) := by
  intro pins s σ H x y v u Q I rx ry h
  obtain ⟨z, n, rfl, rfl, ⟨h1, h2, h3⟩, q⟩ := h
  obtain ⟨t, rfl⟩ := rx
  obtain ⟨t', rfl⟩ := ry
  refine SB.mul ⟨?_, fun hn _ => ?_, fun hn _ => ?_⟩ fun t' k => ⟨.str _, H, I.tok k, ⟨_, rfl⟩, q⟩
  · rw [decide_eq_false (by omega), decide_eq_false (by omega)]; rfl
  · intro hgt
    have h5 : (1000 : Int) ≤ (2 ^ 63 - 1) / n := Int.le_ediv_of_mul_le (by omega) (by omega)
    omega
  · have h6 : z.length * n.toNat ≤ 1000 * 1000 := Nat.mul_le_mul h3 (by omega)
    exact decide_eq_false (by rw [sizeLine_eq]; omega)
end
end L2
namespace L2
open PySem PySem.Spec PyProof.Rows
theorem for_by {J : It} {n : Nat} {it : Nat → V} {Pk : Hp → Prop} {g : TG} {tb : TS} {D : Ends} {σ : St} {H : Hp} (T : Items J n it Pk) (Pv : Nat → St → Hp → Prop) (h0 : Pv 0 σ H) (hl : ∀ i σ H, i ≤ n → Pv i σ H → Pk H)
    (hs : ∀ i σ H, i < n → Pv i σ H → g (it i) σ H fun σ2 H2 => tb { D with nx := Pv (i + 1), ct := Pv (i + 1), bk := D.nx } σ2 H2) (hd : ∀ σ H, Pv n σ H → D.nx σ H) :
    ∃ W : Nat → Nat → St → Hp → Prop, (∃ m, W 0 m σ H) ∧ ∀ i m σ H, W i m σ H →
      (J.stop i H ∧ D.nx σ H) ∨ (J.go i H ∧ ∃ N : St → Hp → Prop, (∀ σ' H', N σ' H' → ∃ m', m' < m ∧ W (i + 1) m' σ' H') ∧ ∀ x H', J.yld i H x H' → g x σ H' fun σ2 H2 => tb { D with nx := N, ct := N, bk := D.nx } σ2 H2) := by
  refine ⟨fun i m σ H => m = n - i ∧ i ≤ n ∧ Pv i σ H, ⟨n, by simp, Nat.zero_le _, h0⟩, ?_⟩
  rintro i m σ H ⟨rfl, hi, p⟩
  have q := hl i σ H hi p
  by_cases hlt : i < n
  · refine .inr ⟨T.go i H hlt q, Pv (i + 1), fun σ' H' p' => ⟨n - (i + 1), by omega, rfl, hlt, p'⟩, fun x H' y => ?_⟩
    obtain ⟨rfl, rfl⟩ := T.yld i H x H' hlt q y
    exact hs i σ _ hlt p
  · have e : i = n := by omega
    subst e
    exact .inl ⟨T.stop H q, hd σ H p⟩
theorem map_get {α β : Type} {f : α → β} {l : List α} {i : Nat} {x : β} (h : (l.map f)[i]? = some x) : ∃ a, l[i]? = some a ∧ x = f a := by
  rw [List.getElem?_map] at h
  cases e : l[i]? with
  | none => rw [e] at h; cases h
  | some a => rw [e] at h; cases h; exact ⟨a, rfl, rfl⟩
theorem CloAt.keep {H H' : Hp} {f : Addr} {t : CloT} {cs : List Addr} {cvs : List V} (k : ∀ b φ, H b = some (.ext φ) → H' b = some (.ext φ)) (c : CloAt H f t cs cvs) : CloAt H' f t cs cvs := by
  obtain ⟨⟨a, h1, h2⟩, h3⟩ := c
  refine ⟨⟨a, k _ _ h1, k _ _ h2⟩, ?_⟩
  clear h1 h2
  induction h3 with
  | nil => exact .nil
  | cons r t ih => exact .cons (k _ _ r) ih
theorem plain_kVs (k : List Key) : (k.map kV).all plainP = true := by
  rw [List.all_map, List.all_eq_true]
  intro x _
  cases x <;> rfl
noncomputable def dKey : Key → PyData
  | .inl i => .int i
  | .inr z => .str z
theorem datVs_keys {K : PySem.W.Frag} {H : Hp} : ∀ k : List Key, DatVs K H (k.map kV) (k.map dKey)
  | [] => .nil
  | .inl i :: r => .cons (.int i) (datVs_keys r)
  | .inr z :: r => .cons (.str z) (datVs_keys r)
theorem datV_tup {K : PySem.W.Frag} {H : Hp} {a : Addr} {k : List Key} (h : H a = some (.tup (k.map kV))) : DatV K H (.ref a) (.tuple (k.map dKey)) := .tup (SqT.of h) (datVs_keys k)
theorem eqvAll_keys : ∀ k l : List Key, PyData.eqvAll (k.map dKey) (l.map dKey) = decide (k = l)
  | [], [] => by rfl
  | [], _ :: _ => by rw [decide_eq_false (by simp)]; rfl
  | _ :: _, [] => by rw [decide_eq_false (by simp)]; rfl
  | a :: r, b :: s => by
    show ((dKey a).eqv (dKey b) && PyData.eqvAll (r.map dKey) (s.map dKey)) = _
    rw [eqvAll_keys r s]
    have e : (dKey a).eqv (dKey b) = decide (a = b) := by
      cases a <;> cases b
      · rename_i i j
        show decide (i = j) = decide (Sum.inl i = Sum.inl j)
        simp
      · show false = _; simp
      · show false = _; simp
      · rename_i i j
        show (i == j) = decide ((Sum.inr i : Key) = Sum.inr j)
        by_cases h : i = j <;> simp [h]
    rw [e]
    by_cases h1 : a = b <;> by_cases h2 : r = s <;> simp [h1, h2]
noncomputable def keyStr : Key → Bool
  | .inl _ => true
  | .inr z => PyData.strOk z
theorem canLay_keys : ∀ {k : List Key}, k.all keyStr = true → PyData.canLayAll0 (k.map dKey) = true
  | [], _ => rfl
  | .inl i :: r, h => canLay_keys (k := r) (by rw [List.all_cons] at h; exact h)
  | .inr z :: r, h => by
    rw [List.all_cons, Bool.and_eq_true] at h
    show (PyData.strOk z && PyData.canLayAll0 (r.map dKey)) = true
    rw [show PyData.strOk z = true from h.1, canLay_keys h.2]; rfl
theorem depth_keys : ∀ k : List Key, PyData.depthAll (k.map dKey) = 0
  | [] => rfl
  | .inl i :: r => by show max 0 (PyData.depthAll (r.map dKey)) = 0; rw [depth_keys r]; rfl
  | .inr i :: r => by show max 0 (PyData.depthAll (r.map dKey)) = 0; rw [depth_keys r]; rfl
theorem ixL {K : PySem.W.Frag} {H : Hp} {Q : VK} {L : Addr} {xs : List V} {x : V} {i : Int} {j : Nat} (hL : H L = some (.lst xs)) (e : i = j) (hx : xs[j]? = some x) (q : Q x H) : rIxA K (.ref L) (.int i) H Q := by
  subst e
  refine .inl (.inl ⟨L, xs, j, x, rfl, rfl, SqL.of hL, ?_, q⟩)
  have hj := (List.getElem?_eq_some_iff.mp hx).1
  rw [atI_lt (by omega) (by omega)]
  simp [List.getD_eq_getElem?_getD, hx]
theorem tc1 {i : Nat} {σ : St} {x : V} {H : Hp} {R : List V → Hp → Prop} (e : σ[i]? = some (some x)) (h : R [x] H) : tCons (mVar i) tNil σ H R := by
  unfold tCons tNil mVar
  rw [e]; exact h
theorem depT (k : List Key) : (PyData.tuple (k.map dKey)).depth ≤ 150 := by show PyData.depthAll (k.map dKey) + 1 ≤ 150; rw [depth_keys]; decide
theorem neqv_t {k l : List Key} (h : (!(PyData.tuple (k.map dKey)).eqv (.tuple (l.map dKey))) = true) : k ≠ l := fun e => by
  have h : (!PyData.eqvAll (k.map dKey) (l.map dKey)) = true := h
  rw [eqvAll_keys, decide_eq_true e] at h; cases h
theorem neqv_f {k l : List Key} (h : (!(PyData.tuple (k.map dKey)).eqv (.tuple (l.map dKey))) = false) : k = l := by
  have h : (!PyData.eqvAll (k.map dKey) (l.map dKey)) = false := h
  rw [eqvAll_keys] at h
  simpa using h
noncomputable def tabsApart (K : PySem.W.Frag) (ns : List Str) : Bool := decide ((ns.map fun n => (PySem.W.tabIn K n).map (·.2)).Nodup)
theorem apart_of {l : List Addr} (h : (l.map some).Nodup) : l.Nodup := List.Pairwise.of_map some (fun a b h e => h (congrArg some e)) h
end L2
namespace HT
open PySem PyProof.Rows
theorem noFill_tuple_mul : fillsNumberSlot (.type "tuple") "mul" = pure false :=
  PySem.fillsNumberSlot_seq (id := "tuple.__mul__") (r := some (.builtin "tuple.__rmul__")) F.slot_tuple_mul.lookup (by decide +kernel) F.slot_tuple_rmul.lookup (by decide +kernel)
theorem repeat_tuple : seqRepeat? (.type "tuple") = pure (some (.builtin "tuple.__mul__")) := by
  unfold seqRepeat?
  rw [PySem.seqSlot_of (T := "tuple") (name := "__mul__") (id := "tuple.__mul__") F.slot_tuple_mul.lookup (by decide +kernel), PySem.seqSlot_of (T := "tuple") (name := "__rmul__") (id := "tuple.__rmul__") F.slot_tuple_rmul.lookup (by decide +kernel)]
  rfl
theorem int_rmul_tuple (a : Int) (t : Tok) (l : Addr) (items : Array Value) (n : Nat) (dd : Option Addr) (sl : Array (Option Value)) :
    Meets (Builtin.«int.__rmul__» ⟨[.int a t, .ref l], []⟩) (fun _ R s => s.heap.get? l = some { cls := .type "tuple", dict := dd, data := .seq items n, slots := sl } ∧ R (.ok (.ret Value.notImplemented)) s) :=
  .of_wp fun prog w A R s h => by obtain ⟨hp, g, d, tk, os⟩ := s; obtain ⟨hl, h⟩ := h; wp_walk; exact ⟨_, rfl, h⟩
theorem tuple_mul1 (l : Addr) (items : Array Value) (n : Nat) (x : Int) (u : Tok) (dd : Option Addr) (sl : Array (Option Value)) (h0 : (decide (x < -(2 ^ 63)) || decide (x ≥ 2 ^ 63)) = false) (h1 : (items.isEmpty || x == 1) = true) :
    Meets (Builtin.«tuple.__mul__» ⟨[.ref l, .int x u], []⟩) (fun _ R s => s.heap.get? l = some { cls := .type "tuple", dict := dd, data := .seq items n, slots := sl } ∧ R (.ok (.ret (.ref l))) s) :=
  .of_wp fun prog w A R s h => by obtain ⟨hp, g, d, tk, os⟩ := s; obtain ⟨hl, h⟩ := h; have f1 := AutoSeq1.idx_int; have f2 := AutoSeq1.sub_tuple_tuple; wp_walk using wpAny_loadPart' hl; refine wpAny_ite_false (decide_eq_false (by rw [h0]; decide)) ?_; wp_walk using wpAny_loadPart' hl; exact ⟨_, rfl, h⟩
theorem tuple_mulN (l : Addr) (items : Array Value) (n : Nat) (x : Int) (u : Tok) (dd : Option Addr) (sl : Array (Option Value)) (h0 : (decide (x < -(2 ^ 63)) || decide (x ≥ 2 ^ 63)) = false) (h1 : (items.isEmpty || x == 1) = false)
    (h2 : (decide (x ≤ 0) || items.isEmpty) = false) (h3 : ¬ ((items.size : Int) * x > (2 ^ 63 - 1) / 8)) (h4 : ¬ Builtin.Tuple.tupleTooMany (items.size * x) = true) (h5 : (List.foldl (fun x1 x2 => x1 ++ x2) #[] (List.replicate x.toNat items)).size ≤ sizeLine) :
    Meets (Builtin.«tuple.__mul__» ⟨[.ref l, .int x u], []⟩) (fun _ R s => s.heap.get? l = some { cls := .type "tuple", dict := dd, data := .seq items n, slots := sl } ∧ R (.ok (.ret (Value.ref s.heap.objs.size))) { s with heap := s.heap.push { cls := Value.type "tuple", data := Data.seq (List.foldl (fun x1 x2 => x1 ++ x2) #[] (List.replicate x.toNat items)) }, toks := s.toks }) :=
  .of_wp fun prog w A R s h => by obtain ⟨hp, g, d, tk, os⟩ := s; obtain ⟨hl, h⟩ := h; have f1 := AutoSeq1.idx_int; have f2 := AutoSeq1.sub_tuple_tuple; wp_walk using wpAny_loadPart' hl; refine wpAny_ite_false (decide_eq_false (by rw [h0]; decide)) ?_; wp_walk using wpAny_loadPart' hl; refine wpAny_ite_false (decide_eq_false h3) ?_; wp_walk using wpAny_loadPart' hl; exact ⟨_, rfl, h⟩
end HT
namespace L2
open PySem PySem.Spec PyProof.Rows
section
variable {X : Cx}
noncomputable def rRepT : R2 := fun x y H Q => ∃ a k xs, x = .ref a ∧ y = .int k ∧ H a = some (.tup xs) ∧ xs ≠ [] ∧ 1 ≤ k ∧ k ≤ 1000 ∧ xs.length ≤ 1000 ∧ ∀ p H', Same H H' → H' p = some (.tup (List.replicate k.toNat xs).flatten) → Q (.ref p) H'
theorem op_repT : OpR X (binaryOp .Mult) rRepT := by
  intro pins s σ H x y v u Q I rx ry h
  obtain ⟨a, k, xs, rfl, rfl, ha, hne, k1, k2, hl, q⟩ := h
  cases rx
  obtain ⟨t, rfl⟩ := ry
  obtain ⟨its, r, p1, hz⟩ := I.tuple (.inl (.inl ha))
  have hlen : its.length = xs.length := r.length.symm
  have hits : its ≠ [] := fun z => hne (r.nil_iff.mp z)
  obtain ⟨⟨cls, dd, data, sl⟩, ho, hc, n, hd⟩ := id p1
  simp only at hc hd
  subst hc hd
  have h0 : (decide (k < -(2 ^ 63)) || decide (k ≥ 2 ^ 63)) = false := by rw [decide_eq_false (by omega), decide_eq_false (by omega)]; rfl
  have hemp : its.toArray.isEmpty = false := by cases its with | nil => exact (hits rfl).elim | cons _ _ => rfl
  by_cases e : k = 1
  · subst e
    refine PySem.wpAny_binaryOp_repeat_ref (T := "tuple") (U := "int") (by decide) ⟨_, ho, rfl⟩ (fun s' => typeIs_int s' 1 t) HT.noFill_tuple_mul F.fills_int_mul F.slot_int_rmul HT.repeat_tuple F.slot_int_index.lookup
      (call_meets F.slot_int_rmul (typeIs_int s 1 t) F.entry_int_rmul (F.args_int_rmul_2 _ _) (HT.int_rmul_tuple 1 t a its.toArray n dd sl)
        ⟨ho, rfl, ⟨_, ho, rfl⟩, call_meets F.slot_tuple_mul ⟨_, ho, rfl⟩ F.entry_tuple_mul (F.args_tuple_mul_2 _ _) (HT.tuple_mul1 a its.toArray n 1 t dd sl h0 (by rw [hemp]; rfl)) ⟨ho, ?_⟩⟩)
    exact ⟨.ref a, H, I, rfl, q a H Same.rfl' (by rw [ha]; simp)⟩
  · have hsz : its.length * k.toNat ≤ 1000000 := Nat.le_trans (Nat.mul_le_mul (by omega : its.length ≤ 1000) (by omega : k.toNat ≤ 1000)) (by decide)
    have hszI : ((its.toArray.size : Nat) : Int) * k ≤ 1000000 := by
      have e1 : ((its.length * k.toNat : Nat) : Int) = (its.length : Int) * k := by rw [Int.natCast_mul, Int.toNat_of_nonneg (by omega)]
      rw [List.size_toArray, ← e1]; omega
    have hnew : List.foldl (fun x1 x2 => x1 ++ x2) #[] (List.replicate k.toNat its.toArray) = (List.replicate k.toNat its).flatten.toArray := by
      have := foldl_rep its k.toNat []
      rw [List.nil_append] at this
      exact this
    refine PySem.wpAny_binaryOp_repeat_ref (T := "tuple") (U := "int") (by decide) ⟨_, ho, rfl⟩ (fun s' => typeIs_int s' k t) HT.noFill_tuple_mul F.fills_int_mul F.slot_int_rmul HT.repeat_tuple F.slot_int_index.lookup
      (call_meets F.slot_int_rmul (typeIs_int s k t) F.entry_int_rmul (F.args_int_rmul_2 _ _) (HT.int_rmul_tuple k t a its.toArray n dd sl)
        ⟨ho, rfl, ⟨_, ho, rfl⟩, call_meets F.slot_tuple_mul ⟨_, ho, rfl⟩ F.entry_tuple_mul (F.args_tuple_mul_2 _ _) (HT.tuple_mulN a its.toArray n k t dd sl h0 (by rw [hemp]; simp [e]) (by rw [hemp, decide_eq_false (by omega)]; rfl) (by omega) ?_ ?_) ⟨ho, ?_⟩⟩)
    · unfold Builtin.Tuple.tupleTooMany
      rw [sizeLine_eq]
      simp only [gt_iff_lt, decide_eq_true_eq]
      omega
    · rw [hnew, List.size_toArray, len_rep, Nat.mul_comm]
      exact line_ge hsz
    · rw [hnew]
      refine ⟨.ref s.heap.objs.size, _, I.laid (t' := s.toks) (o := .tup (List.replicate k.toNat xs).flatten) (fun b ob q => Heap.get?_push_of_some _ q) (Nat.le_refl _) ?_, rfl, q _ _ (Same.upd (I.hok.fresh (Nat.le_refl _))) upd_same⟩
      exact ⟨by rw [len_rep, ← hlen, Nat.mul_comm]; exact line_ge hsz, _, r.rep k.toNat, IsTup.new _ _⟩
noncomputable def mMulB : R2 := fun x y H Q => match x, y with
  | .str z, .int n => (-1000 ≤ n ∧ n ≤ 1000 ∧ z.length ≤ 1000) ∧ Q (.str (Txt.mul z n)) H
  | .ref a, .int n => rRepT (.ref a) (.int n) H Q
  | x, y => mMul x y H Q
theorem oMulB : OpR X (binaryOp .Mult) mMulB := (op_mulS.or (op_repT.or oMul)).imp fun x y H Q q => by
  unfold mMulB at q
  split at q
  · exact .inl ⟨_, _, rfl, rfl, q.1, q.2⟩
  · exact .inr (.inl q)
  · exact .inr (.inr q)
end
end L2
namespace L2
open PySem PySem.Spec PyProof.Rows
end L2
namespace L2
open PySem PySem.Spec PyProof.Rows
section
variable {X : Cx}
theorem op_isB : OpR X (compareOp .Is) (fun x y H Q => ∃ b c, x = .bl b ∧ y = .bl c ∧ Q (.bl (decide (b = c))) H) := by
  intro pins s σ H x y v u Q I rx ry h
  obtain ⟨b, c, rfl, rfl, q⟩ := h
  cases rx
  cases ry
  refine wpAny_is_plain (by rfl) (fin_bl I q ?_)
  cases b <;> cases c <;> rfl
noncomputable def mIsA : R2 := fun x y H Q => match x, y with
  | .bl b, .bl c => Q (.bl (decide (b = c))) H
  | x, y => mIsN x y H Q
theorem oIsA : OpR X (compareOp .Is) mIsA := (op_isB.or oIs).imp fun x y H Q q => by
  unfold mIsA at q
  split at q
  · exact .inl ⟨_, _, rfl, rfl, q⟩
  · exact .inr q
end
end L2
namespace HT
open PySem PyProof.Rows
theorem sub_tuple_dict : isSubtype (.type "tuple") (.type "dict") = pure false := by rw [isSubtype_type]; kernel_rfl
theorem sub_dict_tuple : isSubtype (.type "dict") (.type "tuple") = pure false := by rw [isSubtype_type]; kernel_rfl
theorem dict_eq_no (l b : Addr) (o : Obj) (hc : o.cls = .type "dict") (o2 : Obj) (hc2 : o2.cls = .type "tuple") :
    Meets (Builtin.«dict.__eq__» ⟨[.ref l, .ref b], []⟩) (fun _ R s => s.heap.get? l = some o ∧ s.heap.get? b = some o2 ∧ R (.ok (.ret .notImplemented)) s) :=
  .of_wp fun prog w A R s h => by
    obtain ⟨hp, g, d, tk, os⟩ := s; obtain ⟨hl, hb, h⟩ := h; obtain ⟨cls, dd, data, sl⟩ := o; obtain ⟨cls2, dd2, data2, sl2⟩ := o2
    simp only at hc hc2; subst hc hc2
    have f1 := sub_tuple_dict; wp_walk using wpAny_loadPart' hl, wpAny_loadPart' hb; exact ⟨_, rfl, h⟩
theorem tuple_eq_no (l b : Addr) (o : Obj) (hc : o.cls = .type "tuple") (o2 : Obj) (hc2 : o2.cls = .type "dict") :
    Meets (Builtin.«tuple.__eq__» ⟨[.ref l, .ref b], []⟩) (fun _ R s => s.heap.get? l = some o ∧ s.heap.get? b = some o2 ∧ R (.ok (.ret .notImplemented)) s) :=
  .of_wp fun prog w A R s h => by
    obtain ⟨hp, g, d, tk, os⟩ := s; obtain ⟨hl, hb, h⟩ := h; obtain ⟨cls, dd, data, sl⟩ := o; obtain ⟨cls2, dd2, data2, sl2⟩ := o2
    simp only at hc hc2; subst hc hc2
    have f1 := sub_dict_tuple; wp_walk using wpAny_loadPart' hl, wpAny_loadPart' hb; exact ⟨_, rfl, h⟩
end HT
namespace L2
open PySem PySem.Spec PyProof.Rows
section
variable {X : Cx}
noncomputable def rEqDT (K : PySem.W.Frag) : R2 := fun x y H Q => ∃ a b ys, x = .ref a ∧ y = .ref b ∧ ((∃ kvs, H a = some (.dK kvs)) ∨ ∃ kvs, H a = some (.dT kvs)) ∧ SqT K H b ys ∧ Q (.bl false) H
theorem op_eqDT (hu : X.A.units < cLine) : OpR X (compareOp .Eq) (rEqDT X.K) := by
  intro pins s σ H x y v u Q I rx ry h
  obtain ⟨a, b, ys, rfl, rfl, ha, hb, q⟩ := h
  cases rx
  cases ry
  obtain ⟨its, _, p1, _⟩ := I.tuple hb
  obtain ⟨o2, ho2, hc2, _⟩ := id p1
  obtain ⟨o, ho, hc⟩ : ∃ o, s.heap.get? a = some o ∧ o.cls = .type "dict" := by
    rcases ha with ⟨kvs, e⟩ | ⟨kvs, e⟩
    · obtain ⟨_, _, _, _, o, _, _, h1, h2, _⟩ := (show ObjOk X.prog X.w H s.heap a (.dK kvs) from I.hok a _ e)
      exact ⟨o, h1, h2.1⟩
    · obtain ⟨_, _, _, _, o, _, _, h1, h2, _⟩ := (show ObjOk X.prog X.w H s.heap a (.dT kvs) from I.hok a _ e)
      exact ⟨o, h1, h2.1⟩
  have hne : a ≠ b := fun e => by
    subst e
    rw [ho] at ho2; cases ho2
    rw [hc] at hc2; exact absurd hc2 (by simp)
  show wpAny _ _ (richCompare .Eq (.ref a) (.ref b)) _ _ s
  exact SeqAt.rc_eq_decline_or (k := false) ⟨_, ho, hc⟩ ⟨_, ho2, hc2⟩ (by decide) F.sub_tuple_dict F.slot_dict_eq F.slot_tuple_eq_refl
    (fun _ hq => call_meets F.slot_dict_eq ⟨_, ho, hc⟩ F.entry_dict_eq (F.args_dict_eq_2 _ _) (HT.dict_eq_no a b o hc o2 hc2) ⟨ho, ho2, hq⟩)
    (fun _ hq => call_meets F.slot_tuple_eq_refl ⟨_, ho2, hc2⟩ F.entry_tuple_eq (F.args_tuple_eq_2 _ _) (HT.tuple_eq_no b a o2 hc2 o hc) ⟨ho2, ho, hq⟩)
    (fun _ hq => wpAny_isSame_ref_other hne ho ho2 (by rw [hc]; simp) hq) (.inr hu) ⟨.bl false, H, I, rfl, q⟩
noncomputable def mEqC (K : PySem.W.Frag) : R2 := fun x y H Q => match x, y with
  | .ref a, .ref b => rEqT K (.ref a) (.ref b) H Q ∨ rEqD K (.ref a) (.ref b) H Q ∨ rEqDT K (.ref a) (.ref b) H Q
  | .ref a, y => rEqD K (.ref a) y H Q
  | x, .ref b => rEqD K x (.ref b) H Q
  | x, y => mEq x y H Q
theorem oEqC (hu : X.A.units + 150 < cLine) : OpR X (compareOp .Eq) (mEqC X.K) := ((op_eqT (by omega)).or ((op_eqD hu).or ((op_eqDT (by omega)).or oEq))).imp fun x y H Q q => by
  unfold mEqC at q
  split at q
  · exact q.elim .inl fun z => z.elim (fun z => .inr (.inl z)) fun z => .inr (.inr (.inl z))
  · exact .inr (.inl q)
  · exact .inr (.inl q)
  · exact .inr (.inr (.inr q))
end
end L2
namespace HT
open PySem PyProof.Rows
theorem lookup_tuple_rev : typeLookup (.type "tuple") "__reversed__" = pure none := by rw [typeLookup_type, builtinLookup_eq_fast]; kernel_rfl
theorem owner_rev : Manifest.owners.lookup (String.ofList ['d', 'e', 's', 'r', 'e', 'v', 'e', 'r'].reverse) = some Manifest.sig_reversed := by kernel_rfl
theorem slot_rev_next : Slot "reversed" "__next__" "reversed.__next__" :=
  .of (owner := "reversed") (n := "__next__") (by rw [typeLookup_type, builtinLookup_eq_fast]; kernel_rfl) (by decide +kernel) (by decide +kernel) (by decide +kernel)
    (by first | exact .inl (by decide +kernel) | exact .inr (by decide +kernel)) (by rw [isSubtype_type]; kernel_rfl)
theorem entry_rev_next : entryFor table "reversed.__next__" = some Builtin.«reversed.__next__» := entryFor_of_tree (by kernel_rfl)
theorem args_rev_next (a : Value) : argsOk "reversed.__next__" ⟨[a], []⟩ := by
  unfold argsOk; rw [signature?_of (id := "reversed.__next__") (n := ['_', '_', 't', 'x', 'e', 'n', '_', '_']) (o := ['d', 'e', 's', 'r', 'e', 'v', 'e', 'r']) (by kernel_rfl) owner_rev]; kernel_rfl
theorem slot_rev_iter : Slot "reversed" "__iter__" "reversed.__iter__" :=
  .of (owner := "reversed") (n := "__iter__") (by rw [typeLookup_type, builtinLookup_eq_fast]; kernel_rfl) (by decide +kernel) (by decide +kernel) (by decide +kernel)
    (by first | exact .inl (by decide +kernel) | exact .inr (by decide +kernel)) (by rw [isSubtype_type]; kernel_rfl)
theorem args_rev_iter (a : Value) : argsOk "reversed.__iter__" ⟨[a], []⟩ := by
  unfold argsOk; rw [signature?_of (id := "reversed.__iter__") (n := ['_', '_', 'r', 'e', 't', 'i', '_', '_']) (o := ['d', 'e', 's', 'r', 'e', 'v', 'e', 'r']) (by kernel_rfl) owner_rev]; kernel_rfl
theorem entry_rev_iter : entryFor table "reversed.__iter__" = some Builtin.«dict_keyiterator.__iter__» :=
  entryFor_alias (id' := "dict_keyiterator.__iter__") (by kernel_rfl) (by first | rfl | decide +kernel | (unfold String.splitOn; simp +decide [String.splitOnAux])) (by decide +kernel) (by kernel_rfl)
theorem slot_rev_init : Slot "reversed" "__init__" "object.__init__" :=
  .of (owner := "object") (n := "__init__") (by rw [typeLookup_type, builtinLookup_eq_fast]; kernel_rfl) (by decide +kernel) (by decide +kernel) (by decide +kernel)
    (by first | exact .inl (by decide +kernel) | exact .inr (by decide +kernel)) (by rw [isSubtype_type]; kernel_rfl)
theorem called_rev : TypeCalled "reversed" "reversed.__new__" "object.__init__" :=
  ⟨by decide +kernel, PySem.F.create_reversed, ⟨_, _, PySem.F.mro_reversed⟩, PySem.F.made_reversed, by decide +kernel, PySem.F.sub_reversed_self, slot_rev_init⟩
theorem sub_tup_dict : isSubtype (.type "tuple") (.type "dict") = pure false := by rw [isSubtype_type]; kernel_rfl
noncomputable def revO (t : Addr) (i : Int) : Obj := { cls := .type "reversed", data := .fields #[.ref t, rawInt i] }
theorem meets_rev_new (t : Addr) (items : Array Value) : Meets (Builtin.«reversed.__new__» ⟨[.type "reversed", .ref t], []⟩) (fun _ R s => IsTup s.heap t items ∧ (items.size : Int) < 2 ^ 63 ∧
    R (.ok (.ret (.ref s.heap.objs.size))) { s with heap := s.heap.push (revO t ((items.size : Int) - 1)), toks := s.toks + 1 + 1 }) :=
  .of_wp fun prog w A R s h => by
    obtain ⟨ht, hz, h⟩ := h
    unfold Builtin.«reversed.__new__»
    refine wpAny_bind (wpAny_of_eq (newClass_reversed _) ?_)
    try dsimp only
    refine wpAny_bind (wpAny_of_eq (a := ()) (by first | rfl | kernel_rfl) ?_)
    refine wpAny_bind (wpAny_of_eq (a := ()) (by first | rfl | kernel_rfl) ?_)
    try dsimp only
    refine wpAny_bind (wpAny_specialOf ht.typeIs lookup_tuple_rev ?_)
    try dsimp only
    refine wpAny_bind (wpAny_bind (wpAny_isInstance (T := "tuple") (b := false) ht.typeIs sub_tup_dict ?_))
    rw [if_neg (by simp)]
    refine wpAny_bind (wpAny_specialOf (r := some (.builtin "tuple.__getitem__")) ht.typeIs slot_tuple_getitem.lookup ?_)
    show wpAny _ _ (if (["tuple.__getitem__", "str.__getitem__", "bytes.__getitem__", "bytearray.__getitem__", "memoryview.__getitem__", "numpy.ndarray.__getitem__", "sqlite3.Row.__getitem__"].contains "tuple.__getitem__") = true then _ else _) _ _ s
    rw [if_pos (by decide)]
    refine wpAny_pure ?_
    rw [if_neg (by simp)]
    refine wpAny_bind (len_tuple ht hz ?_)
    refine wpAny_bind (wpAny_of_eq (a := some ((items.size : Nat) : Int)) rfl ?_)
    show wpAny _ _ (newObj (.type "reversed") (.fields #[.ref t, rawInt ((items.size : Int) - 1)]) >>= _) _ _ _
    exact wpAny_bind (wpAny_newObj_type (wpAny_pure ⟨_, rfl, h⟩))
section
variable {prog : Program} {w : World} {A : Around} {E : Value → Shared → Prop} {s : Shared}
theorem call_reversed_tuple {t : Addr} {items : Array Value} {Q : Value → Shared → Prop} (ht : IsTup s.heap t items) (hz : (items.size : Int) < 2 ^ 63)
    (h : Q (.ref s.heap.objs.size) { s with heap := s.heap.push (revO t ((items.size : Int) - 1)), toks := s.toks + 1 + 1 }) : wpAny (model prog w) A (call (.type "reversed") [.ref t]) Q E s :=
  callType_new called_rev (by decide) (PySem.F.typeCall_reversed_1 _) (PySem.F.newCall_reversed_1 _) (fun obj => PySem.F.args_object_init_2 obj _) PySem.F.entry_reversed_new (meets_rev_new t items) ⟨ht, hz, ⟨_, Heap.get?_push_size _ rfl, rfl⟩, h⟩
noncomputable def IsRev (h : Heap) (a t : Addr) (i : Int) : Prop := h.get? a = some (revO t i)
theorem IsRev.typeIs {a t : Addr} {i : Int} (x : IsRev s.heap a t i) : s.TypeIs (.ref a) "reversed" := ⟨_, x, rfl⟩
theorem next_rev_item {it t : Addr} {i : Nat} {items : Array Value} {x : Value} {Q : Option Value → Shared → Prop} (hit : IsRev s.heap it t (i : Int)) (ht : IsTup s.heap t items) (hz : (items.size : Int) < 2 ^ 63) (hx : items[i]? = some x)
    (hQ : ∀ h', IsRev h' it t ((i : Int) - 1) → Heap.SameBut it s.heap h' → Q (some x) { s with heap := h', toks := s.toks + 1 }) : wpAny (model prog w) A (pyNext (.ref it)) Q E s := by
  have hi : i < items.size := by
    rcases Nat.lt_or_ge i items.size with h | h
    · exact h
    · rw [Array.getElem?_eq_none h] at hx; cases hx
  unfold pyNext
  refine wpAny_bind (wpAny_attempt (wpAny_callSpecial?_slot (name := Str.ofString "__next__") hit.typeIs slot_rev_next
    (wpAny_call_entry slot_rev_next hit.typeIs entry_rev_next ?_ (args_rev_next _))))
  unfold Builtin.«reversed.__next__»
  refine wpAny_bind (wpAny_of_eq (a := (Value.ref it, [])) rfl ?_)
  try dsimp only
  refine wpAny_bind (wpAny_field hit rfl (x := .ref t) rfl ?_)
  refine wpAny_bind (wpAny_field hit rfl (x := rawInt (i : Int)) rfl ?_)
  show wpAny _ _ (if (i : Int) < 0 then _ else _) _ _ s
  rw [if_neg (by omega)]
  refine wpAny_bind (wpAny_specialOf (r := some (.builtin "tuple.__getitem__")) ht.typeIs slot_tuple_getitem.lookup ?_)
  rw [if_neg (by simp)]
  refine wpAny_bind (wpAny_mkInt ?_)
  refine wpAny_bind (wpAny_attempt (getItem_tuple (j := i) (x := x) ht (by omega) (by omega) ?_ hx ?_))
  · unfold seqIndex?
    simp
    omega
  · refine wpAny_bind (wpAny_field (s := { s with toks := s.toks + 1 }) hit rfl (x := rawInt (i : Int)) rfl ?_)
    refine wpAny_bind (wpAny_setField_rec hit (by simp) fun h' y sb => ?_)
    exact wpAny_pure ⟨x, rfl, wpAny_pure (hQ h' y sb)⟩
theorem next_rev_end {it t : Addr} {Q : Option Value → Shared → Prop} (hh : A.handled = none) (hit : IsRev s.heap it t (-1))
    (hQ : ∀ h', Heap.ExtBut it s.heap h' → Q none { s with heap := h' }) : wpAny (model prog w) A (pyNext (.ref it)) Q E s := by
  unfold pyNext
  refine wpAny_bind (wpAny_attempt (wpAny_callSpecial?_slot (name := Str.ofString "__next__") hit.typeIs slot_rev_next
    (wpAny_call_entry slot_rev_next hit.typeIs entry_rev_next ?_ (args_rev_next _))))
  unfold Builtin.«reversed.__next__»
  refine wpAny_bind (wpAny_of_eq (a := (Value.ref it, [])) rfl ?_)
  try dsimp only
  refine wpAny_bind (wpAny_field hit rfl (x := .ref t) rfl ?_)
  refine wpAny_bind (wpAny_field hit rfl (x := rawInt (-1)) rfl ?_)
  show wpAny _ _ (if (-1 : Int) < 0 then _ else _) _ _ s
  rw [if_pos (by decide)]
  refine wpAny_bind (wpAny_rule ?_)
  refine wpAny_bind (wpAny_bind (wpAny_setField_rec hit (by simp) fun h1 y1 s1 => ?_))
  refine wpAny_setField_rec y1 (by simp) fun h2 y2 s2 => ?_
  first
  | show wpAny _ _ (newExc (.type "StopIteration") [] >>= _) _ _ _
  | (refine wpAny_bind ?_; show wpAny _ _ (newExc (.type "StopIteration") [] >>= _) _ _ _)
  refine wpAny_bind ?_
  simp only [newExc, newTuple]
  refine wpAny_bind (wpAny_newObj_type ?_ (by size_fits))
  refine wpAny_bind (m := firstArgMember _ _) (wpAny_of_eq (a := Value.none) (by first | rfl | (simp only [firstArgMember]; rfl)) ?_)
  refine wpAny_newObj_type ?_ (by size_fits)
  simp only [raiseNew]
  refine wpAny_bind (wpAny_handled ?_)
  first | rw [show A.in1.handled = none from hh] | rw [hh]
  refine wpAny_bind (wpAny_pure (wpAny_throw ?_))
  refine wpAny_bind (wpAny_isInstance (T := "StopIteration") (b := true) ⟨_, Heap.get?_push_size _ rfl, rfl⟩ isSubtype_stop ?_)
  have eb : Heap.ExtBut it s.heap h2 := fun c o hc e => s2.extBut _ _ hc (s1.extBut _ _ hc e)
  exact wpAny_pure (hQ _ ((eb.push _).push _))
theorem iter_rev {it t : Addr} {i : Int} {Q : Value → Shared → Prop} (hit : IsRev s.heap it t i) (h : Q (.ref it) s) : wpAny (model prog w) A (pyIter (.ref it)) Q E s := by
  refine wpAny_pyIter_slot hit.typeIs slot_rev_iter (wpAny_call_entry slot_rev_iter hit.typeIs entry_rev_iter ?_ (args_rev_iter _))
  show wpAny _ _ (ret (.ref it)) _ _ s
  exact wpAny_pure ⟨_, rfl, "reversed", _, hit.typeIs, slot_rev_next.lookup, h⟩
end
end HT
namespace L2
open PySem PySem.Spec PyProof.Rows
noncomputable def Itrv (K : PySem.W.Frag) (a : Addr) (xs : List V) : It :=
  ⟨fun i H => SqT K H a xs ∧ i < xs.length, fun i H x H' => H' = H ∧ xs.reverse[i]? = some x, fun i _ => xs.length ≤ i⟩
theorem turn_rev {P : Program} {w : World} {K : PySem.W.Frag} {tg : Expr} (a it : Addr) (xs : List V) : Turn P w K tg (Itrv K a xs) [it] it (fun i h => i ≤ xs.length ∧ HT.IsRev h it a ((xs.length : Int) - 1 - i)) where
  mem := by simp
  obj := fun i h st b hb => by
    have e : b = it := by simpa using hb
    subst e
    exact ⟨_, st.2, fun v z => by cases z⟩
  keep := fun i h h' st k => ⟨st.1, k it (by simp) _ st.2⟩
  item := by
    intro X hP hw hK hc i pins s σ H E I hf st hg
    subst hP hw hK
    obtain ⟨hq, hi⟩ := hg
    obtain ⟨its, rv, p, hz⟩ := I.tuple hq
    obtain ⟨f0, f1, f2, f3, f4, f5⟩ := hf it (by simp)
    have hl := rv.length
    obtain ⟨x, hx⟩ : ∃ x, xs[xs.length - 1 - i]? = some x := ⟨_, List.getElem?_eq_getElem (by omega)⟩
    obtain ⟨u, hu, ru⟩ := rv.get hx
    have hrx : xs.reverse[i]? = some x := by rw [List.getElem?_reverse hi]; exact hx
    have e1 : (xs.length : Int) - 1 - i = ((xs.length - 1 - i : Nat) : Int) := by omega
    have st2 := st.2
    rw [e1] at st2
    refine HT.next_rev_item st2 (show IsTup s.heap a its.toArray from p) (by rw [List.size_toArray]; rw [sizeLine_eq] at hz; omega) (x := u) (by simpa using hu) fun h' st' sb => ?_
    have I1 : Inv X pins σ H { s with heap := h', toks := s.toks + 1 } := I.turned (t' := s.toks + 1) (fun b o hb e => (sb.2 b hb).trans e) f0 f1 f3 f4 f5
    have e2 : ((xs.length - 1 - i : Nat) : Int) - 1 = (xs.length : Int) - 1 - ((i + 1 : Nat) : Int) := by omega
    rw [e2] at st'
    exact ⟨u, rfl, go_of (s := { s with heap := h', toks := s.toks + 1 }) st' rfl rfl (by decide) ⟨x, H, I1, ru, ⟨rfl, hrx⟩, ⟨hi, st'⟩, fun b hb => (hf b hb).1⟩⟩
  done := by
    intro X hP hw hK hc i pins s σ H E I hf st hg
    subst hP hw hK
    obtain ⟨f0, f1, f2, f3, f4, f5⟩ := hf it (by simp)
    have hi : xs.length ≤ i := hg
    have e1 : (xs.length : Int) - 1 - i = -1 := by have := st.1; omega
    have st2 := st.2
    rw [e1] at st2
    exact HT.next_rev_end (I.ok.hd hc) st2 fun h' eb => ⟨rfl, I.turned (t' := s.toks) (fun b o hb e => eb b o hb e) f0 f1 f3 f4 f5⟩
  self := fun A i s Q E st h => HT.iter_rev st.2 h
theorem bt_reversed : bootBuiltins "reversed" = some (.type "reversed") := by decide +kernel
section
variable {X : Cx} {a : Expr} {t : TA} {p pos : Pos} {tg : Expr}
noncomputable def iRev (K : PySem.W.Frag) (t : TA) : TI := fun σ H R => t σ H fun vs H1 => ∃ c xs, vs = [.ref c] ∧ SqT K H1 c xs ∧ R (Itrv K c xs) H1
theorem x_rev (hm : X.mg "reversed" = none) (ha : QA X [a] t) (hg : Gl X "reversed" := by rfl) (hs : noStars [a] = true := by rfl) : QI X tg (.Call (.Name "reversed" p) [a] [] pos) (iRev X.K t) := ⟨fun pins s σ H R I h => by
  have h' : (notStar a && noStars []) = true := hs
  refine wpAny_Call_Name_kw (ld_blt I hg hm bt_reversed ?_ (by decide) (by decide))
  refine PyProof.Rows.callWith_type1 (thn (ha.out pos pins s σ H _ I h) fun us s1 ⟨vs, H1, I1, r1, q1⟩ => ?_)
    (starEach_plain (Bool.and_eq_true_iff.mp h').1 [] X.env) (noStars_any (Bool.and_eq_true_iff.mp h').2)
  obtain ⟨c, xs, rfl, hq, q⟩ := q1
  obtain ⟨u, rfl, ru⟩ := vals1 r1
  cases ru
  obtain ⟨its, rv, p, hz⟩ := I1.tuple hq
  have hl := rv.length
  refine HT.call_reversed_tuple (show IsTup s1.heap c its.toArray from p) (by rw [List.size_toArray]; rw [sizeLine_eq] at hz; omega) ?_
  have st : HT.IsRev (s1.heap.push (HT.revO c ((its.toArray.size : Int) - 1))) s1.heap.objs.size c ((xs.length : Int) - 1 - ((0 : Nat) : Int)) := by
    show (s1.heap.push _).get? _ = _
    have e : (xs.length : Int) - 1 - ((0 : Nat) : Int) = (its.toArray.size : Int) - 1 := by rw [List.size_toArray]; omega
    rw [e]
    exact Heap.get?_push_size _ rfl
  refine HT.iter_rev (s := { s1 with heap := s1.heap.push (HT.revO c ((its.toArray.size : Int) - 1)), toks := s1.toks + 1 + 1 }) st ?_
  refine ⟨s1.heap.objs.size, [s1.heap.objs.size], _, _, H1, rfl, I1.kept (t' := s1.toks + 1 + 1) fun b o e => Heap.get?_push_of_some _ e, turn_rev c _ xs, ⟨Nat.zero_le _, st⟩, fun b hb => ?_, q⟩
  have e : b = s1.heap.objs.size := by simpa using hb
  subst e
  exact I1.fpOk (Nat.le_refl _) (I1.hok.fresh (Nat.le_refl _))⟩
theorem Items.rev {K : PySem.W.Frag} {c : Addr} {xs : List V} (d : V) : Items (Itrv K c xs) xs.length (fun i => xs.reverse.getD i d) (fun H => SqT K H c xs) where
  go := fun i H hi h => ⟨h, hi⟩
  yld := fun i H x H' hi h y => ⟨y.1, by rw [List.getD_eq_getElem?_getD, y.2]; rfl⟩
  stop := fun H h => Nat.le_refl _
noncomputable def kMax : List V → Hp → VK → Prop := fun xs H Q => match xs with | [.int i, .int j] => Q (.int (if j > i then j else i)) H | _ => False
theorem cMax (hc : X.calm = true) : CallR X (.builtin "max") kMax := fun pins s σ H xs us Q I r q => by
  unfold kMax at q
  split at q
  · exact call_max2 hc pins s σ H _ us Q I r ⟨_, _, rfl, q⟩
  · exact q.elim
theorem op_fdivB : OpR X (binaryOp .FloorDiv) (rI (fun _ j => 0 < j ∧ j < 1267650600228229401496703205376) fun i j => .int (i / j)) := opI fun i j _ _ _ _ _ hc q => by
  have h1 : (0 : Int) < j := hc.1
  have h2 : j < 1267650600228229401496703205376 := hc.2
  have h3 : j.natAbs.log2 < 100 := (Nat.log2_lt (by omega)).mpr (Nat.lt_of_lt_of_eq (m := 1267650600228229401496703205376) (by omega) (by decide))
  exact floordiv_int (by omega) (by rw [Int.fdiv_eq_ediv_of_nonneg i (by omega)]; exact q) (.inl (PyProof.noPylong_of_log2 (by omega)))
noncomputable def mFdivB : R2 := fun x y H Q => match x, y with | .int i, .int j => (0 < j ∧ j < 1267650600228229401496703205376) ∧ Q (.int (i / j)) H | _, _ => False
theorem oFdivB : OpR X (binaryOp .FloorDiv) mFdivB := op_fdivB.imp fun x y H Q q => by
  unfold mFdivB at q
  split at q
  · exact ⟨_, _, rfl, rfl, q.1, q.2⟩
  · exact q.elim
end
end L2
namespace L2
open PySem PySem.Spec PyProof.Rows
section
variable {X : Cx}
theorem x_par {x y : Str} {a b : Expr} {ta : TA} {px py pt pos : Pos} {kt k2 : Nat} {pt2 : Pos} (i j : Nat) (hN : X.N.Nodup) (hc : X.calm = true) (ha : QA X [a, b] ta) (hi : X.N[i]? = some x := by rfl) (hj : X.N[j]? = some y := by rfl) (hij : i ≠ j := by decide)
    (hx : X.env.scope.names.lookup x = some .local := by rfl) (hy : X.env.scope.names.lookup y = some .local := by rfl)
    (hw : swappedStores [.Tuple [.Name x px, .Name y py] kt pt] (.Tuple [a, b] k2 pt2) X.env = pure (some [x, y]) := by rfl)
    (hs : swapsWithSole [.Tuple [.Name x px, .Name y py] kt pt] (.Tuple [a, b] k2 pt2) pos.line X.env = pure false := by rfl) :
    QS X (.Assign [.Tuple [.Name x px, .Name y py] kt pt] (.Tuple [a, b] k2 pt2) pos) (tPar i j ta) := ⟨ps_par hc hN hi hj hij hx hy ha.out hw hs⟩
end
section
variable {α : Type} {l : List α}
theorem len0x (h : l.length = 0) : l = [] := List.length_eq_zero_iff.mp h
theorem len1x (h : l.length = 1) : ∃ a0, l = [a0] := by
  cases l with
  | nil => simp at h
  | cons a l =>
    obtain rfl := len0x (l := l) (by simpa using h)
    exact ⟨a, rfl⟩
theorem len2x (h : l.length = 2) : ∃ a0 a1, l = [a0, a1] := by
  cases l with
  | nil => simp at h
  | cons a l =>
    obtain ⟨b0, rfl⟩ := len1x (l := l) (by simpa using h)
    exact ⟨a, b0, rfl⟩
theorem len3x (h : l.length = 3) : ∃ a0 a1 a2, l = [a0, a1, a2] := by
  cases l with
  | nil => simp at h
  | cons a l =>
    obtain ⟨b0, b1, rfl⟩ := len2x (l := l) (by simpa using h)
    exact ⟨a, b0, b1, rfl⟩
theorem len4x (h : l.length = 4) : ∃ a0 a1 a2 a3, l = [a0, a1, a2, a3] := by
  cases l with
  | nil => simp at h
  | cons a l =>
    obtain ⟨b0, b1, b2, rfl⟩ := len3x (l := l) (by simpa using h)
    exact ⟨a, b0, b1, b2, rfl⟩
theorem len5x (h : l.length = 5) : ∃ a0 a1 a2 a3 a4, l = [a0, a1, a2, a3, a4] := by
  cases l with
  | nil => simp at h
  | cons a l =>
    obtain ⟨b0, b1, b2, b3, rfl⟩ := len4x (l := l) (by simpa using h)
    exact ⟨a, b0, b1, b2, b3, rfl⟩
theorem len6x (h : l.length = 6) : ∃ a0 a1 a2 a3 a4 a5, l = [a0, a1, a2, a3, a4, a5] := by
  cases l with
  | nil => simp at h
  | cons a l =>
    obtain ⟨b0, b1, b2, b3, b4, rfl⟩ := len5x (l := l) (by simpa using h)
    exact ⟨a, b0, b1, b2, b3, b4, rfl⟩
end
end L2
namespace Rs
open PySem PySem.Spec PyProof.Rows L2
noncomputable def top (i : Nat) : Stmt := PySem.Challenge.pw_rootstamp_k26_whole_one_slip_or_a_clash.main.body.getD i (.Pass ⟨0, 0, 0, 0⟩)
noncomputable abbrev s__law_bits : Stmt := top 30
noncomputable abbrev s__law_at : Stmt := top 29
noncomputable abbrev s__law_key : Stmt := top 31
noncomputable abbrev s__law_mark : Stmt := top 35
noncomputable abbrev s__law_steps : Stmt := top 36
noncomputable abbrev s__law_place : Stmt := top 37
noncomputable abbrev s__law_text : Stmt := top 32
noncomputable abbrev s__law_end : Stmt := top 38
noncomputable abbrev s__law_sure : Stmt := top 33
noncomputable abbrev s__law_terms : Stmt := top 39
noncomputable abbrev s__law_planted : Stmt := top 34
noncomputable abbrev s__law_part_alike : Stmt := top 42
noncomputable abbrev s_is_whole : Stmt := top 6
noncomputable abbrev s_is_key : Stmt := top 10
noncomputable abbrev s_is_stamp : Stmt := top 7
noncomputable abbrev s_is_step : Stmt := top 17
noncomputable abbrev s_are_steps : Stmt := top 16
noncomputable abbrev s_start : Stmt := top 13
noncomputable abbrev s_is_value : Stmt := top 11
noncomputable abbrev s_is_leaf : Stmt := top 19
noncomputable abbrev s_is_fork : Stmt := top 20
noncomputable abbrev s_is_end : Stmt := top 18
noncomputable abbrev s_is_slip : Stmt := top 15
noncomputable abbrev s_side : Stmt := top 12
noncomputable abbrev s_step_term : Stmt := top 22
noncomputable abbrev s_slip_terms : Stmt := top 21
noncomputable abbrev s_slip_mark : Stmt := top 23
noncomputable abbrev s__law_same : Stmt := top 41
noncomputable abbrev s_slip_value : Stmt := top 25
noncomputable abbrev s_slip_answer : Stmt := top 24
noncomputable abbrev s__law_told : Stmt := top 40
noncomputable abbrev s_clash : Stmt := top 27
noncomputable abbrev s__law_term_alike : Stmt := top 43
noncomputable abbrev s__law_pair_right : Stmt := top 45
noncomputable abbrev s_law : Stmt := top 46
noncomputable def sAt (i : Nat) (l : List Stmt) : Stmt := l.getD i (.Pass ⟨0, 0, 0, 0⟩)
noncomputable abbrev e__law_sure__c0 : Stmt := (sAt 1 (defBody s__law_sure))
noncomputable def ct__law_sure__c0 : CloT := ⟨(("_law_sure" : Str) ++ ".<locals>.") ++ "_law_number", .stmts (defBody e__law_sure__c0), defScope e__law_sure__c0, ["_law_term"], ["_law_known", "_law_first"]⟩
noncomputable abbrev e__law_planted__c0 : Stmt := (sAt 0 (defBody s__law_planted))
noncomputable def ct__law_planted__c0 : CloT := ⟨(("_law_planted" : Str) ++ ".<locals>.") ++ "_law_number", .stmts (defBody e__law_planted__c0), defScope e__law_planted__c0, ["_law_term"], ["_law_sure_one", "_law_other", "_law_one"]⟩
set_option genInjectivity false in
set_option genSizeOf false in
structure Adr where
  a__law_bits : Addr
  d__law_bits : FuncData
  a__law_at : Addr
  d__law_at : FuncData
  a__law_key : Addr
  d__law_key : FuncData
  a__law_mark : Addr
  d__law_mark : FuncData
  a__law_steps : Addr
  d__law_steps : FuncData
  a__law_place : Addr
  d__law_place : FuncData
  a__law_text : Addr
  d__law_text : FuncData
  a__law_end : Addr
  d__law_end : FuncData
  a__law_sure : Addr
  d__law_sure : FuncData
  a__law_terms : Addr
  d__law_terms : FuncData
  a__law_planted : Addr
  d__law_planted : FuncData
  a__law_part_alike : Addr
  d__law_part_alike : FuncData
  a_is_whole : Addr
  d_is_whole : FuncData
  a_is_key : Addr
  d_is_key : FuncData
  a_is_stamp : Addr
  d_is_stamp : FuncData
  a_is_step : Addr
  d_is_step : FuncData
  a_are_steps : Addr
  d_are_steps : FuncData
  a_start : Addr
  d_start : FuncData
  a_is_value : Addr
  d_is_value : FuncData
  a_is_leaf : Addr
  d_is_leaf : FuncData
  a_is_fork : Addr
  d_is_fork : FuncData
  a_is_end : Addr
  d_is_end : FuncData
  a_is_slip : Addr
  d_is_slip : FuncData
  a_side : Addr
  d_side : FuncData
  a_step_term : Addr
  d_step_term : FuncData
  a_slip_terms : Addr
  d_slip_terms : FuncData
  a_slip_mark : Addr
  d_slip_mark : FuncData
  a__law_same : Addr
  d__law_same : FuncData
  a_slip_value : Addr
  d_slip_value : FuncData
  a_slip_answer : Addr
  d_slip_answer : FuncData
  a__law_told : Addr
  d__law_told : FuncData
  a_clash : Addr
  d_clash : FuncData
  a__law_term_alike : Addr
  d__law_term_alike : FuncData
  a__law_pair_right : Addr
  d__law_pair_right : FuncData
  a_law : Addr
  d_law : FuncData
  k__law_sure : Addr
  t__law_sure : Addr
  k__law_planted : Addr
  t__law_planted : Addr
set_option genInjectivity false in
set_option genSizeOf false in
structure Txt (K : PySem.W.Frag) (mg : Str → Option Value) (A : Adr) : Prop where
  f__law_bits : Fun K "_law_bits" "_law_bits" s__law_bits A.a__law_bits A.d__law_bits
  m__law_bits : mg "_law_bits" = some (.ref A.a__law_bits)
  b__law_bits : Binds K A.d__law_bits ["_law_cell"] []
  f__law_at : Fun K "_law_at" "_law_at" s__law_at A.a__law_at A.d__law_at
  m__law_at : mg "_law_at" = some (.ref A.a__law_at)
  b__law_at : Binds K A.d__law_at ["_law_script", "_law_k"] []
  f__law_key : Fun K "_law_key" "_law_key" s__law_key A.a__law_key A.d__law_key
  m__law_key : mg "_law_key" = some (.ref A.a__law_key)
  b__law_key : Binds K A.d__law_key ["_law_bits_here", "_law_cell", "_law_others"] []
  f__law_mark : Fun K "_law_mark" "_law_mark" s__law_mark A.a__law_mark A.d__law_mark
  m__law_mark : mg "_law_mark" = some (.ref A.a__law_mark)
  b__law_mark : Binds K A.d__law_mark ["_law_number_here"] []
  f__law_steps : Fun K "_law_steps" "_law_steps" s__law_steps A.a__law_steps A.d__law_steps
  m__law_steps : mg "_law_steps" = some (.ref A.a__law_steps)
  b__law_steps : Binds K A.d__law_steps ["_law_cell", "_law_low", "_law_bits_here"] []
  f__law_place : Fun K "_law_place" "_law_place" s__law_place A.a__law_place A.d__law_place
  m__law_place : mg "_law_place" = some (.ref A.a__law_place)
  b__law_place : Binds K A.d__law_place ["_law_steps_here", "_law_low"] []
  f__law_text : Fun K "_law_text" "_law_text" s__law_text A.a__law_text A.d__law_text
  m__law_text : mg "_law_text" = some (.ref A.a__law_text)
  b__law_text : Binds K A.d__law_text ["_law_cell"] []
  f__law_end : Fun K "_law_end" "_law_end" s__law_end A.a__law_end A.d__law_end
  m__law_end : mg "_law_end" = some (.ref A.a__law_end)
  b__law_end : Binds K A.d__law_end ["_law_cell", "_law_bits_here", "_law_key_here", "_law_low"] []
  f__law_sure : Fun K "_law_sure" "_law_sure" s__law_sure A.a__law_sure A.d__law_sure
  m__law_sure : mg "_law_sure" = some (.ref A.a__law_sure)
  b__law_sure : Binds K A.d__law_sure ["_law_first"] []
  f__law_terms : Fun K "_law_terms" "_law_terms" s__law_terms A.a__law_terms A.d__law_terms
  m__law_terms : mg "_law_terms" = some (.ref A.a__law_terms)
  b__law_terms : Binds K A.d__law_terms ["_law_stamper", "_law_bits_here", "_law_key_here", "_law_slip"] []
  f__law_planted : Fun K "_law_planted" "_law_planted" s__law_planted A.a__law_planted A.d__law_planted
  m__law_planted : mg "_law_planted" = some (.ref A.a__law_planted)
  b__law_planted : Binds K A.d__law_planted ["_law_sure_one", "_law_one", "_law_other"] []
  f__law_part_alike : Fun K "_law_part_alike" "_law_part_alike" s__law_part_alike A.a__law_part_alike A.d__law_part_alike
  m__law_part_alike : mg "_law_part_alike" = some (.ref A.a__law_part_alike)
  b__law_part_alike : Binds K A.d__law_part_alike ["_law_found", "_law_due"] []
  f_is_whole : Fun K "is_whole" "is_whole" s_is_whole A.a_is_whole A.d_is_whole
  m_is_whole : mg "is_whole" = some (.ref A.a_is_whole)
  b_is_whole : Binds K A.d_is_whole ["thing"] []
  f_is_key : Fun K "is_key" "is_key" s_is_key A.a_is_key A.d_is_key
  m_is_key : mg "is_key" = some (.ref A.a_is_key)
  b_is_key : Binds K A.d_is_key ["bits", "thing"] []
  f_is_stamp : Fun K "is_stamp" "is_stamp" s_is_stamp A.a_is_stamp A.d_is_stamp
  m_is_stamp : mg "is_stamp" = some (.ref A.a_is_stamp)
  b_is_stamp : Binds K A.d_is_stamp ["thing"] []
  f_is_step : Fun K "is_step" "is_step" s_is_step A.a_is_step A.d_is_step
  m_is_step : mg "is_step" = some (.ref A.a_is_step)
  b_is_step : Binds K A.d_is_step ["bits", "least", "thing"] []
  f_are_steps : Fun K "are_steps" "are_steps" s_are_steps A.a_are_steps A.d_are_steps
  m_are_steps : mg "are_steps" = some (.ref A.a_are_steps)
  b_are_steps : Binds K A.d_are_steps ["bits", "thing"] []
  f_start : Fun K "start" "start" s_start A.a_start A.d_start
  m_start : mg "start" = some (.ref A.a_start)
  b_start : Binds K A.d_start ["bits", "key", "depth"] []
  f_is_value : Fun K "is_value" "is_value" s_is_value A.a_is_value A.d_is_value
  m_is_value : mg "is_value" = some (.ref A.a_is_value)
  b_is_value : Binds K A.d_is_value ["thing"] []
  f_is_leaf : Fun K "is_leaf" "is_leaf" s_is_leaf A.a_is_leaf A.d_is_leaf
  m_is_leaf : mg "is_leaf" = some (.ref A.a_is_leaf)
  b_is_leaf : Binds K A.d_is_leaf ["bits", "depth", "begin", "thing"] []
  f_is_fork : Fun K "is_fork" "is_fork" s_is_fork A.a_is_fork A.d_is_fork
  m_is_fork : mg "is_fork" = some (.ref A.a_is_fork)
  b_is_fork : Binds K A.d_is_fork ["bits", "depth", "begin", "thing"] []
  f_is_end : Fun K "is_end" "is_end" s_is_end A.a_is_end A.d_is_end
  m_is_end : mg "is_end" = some (.ref A.a_is_end)
  b_is_end : Binds K A.d_is_end ["bits", "key", "place", "thing"] []
  f_is_slip : Fun K "is_slip" "is_slip" s_is_slip A.a_is_slip A.d_is_slip
  m_is_slip : mg "is_slip" = some (.ref A.a_is_slip)
  b_is_slip : Binds K A.d_is_slip ["bits", "key", "thing"] []
  f_side : Fun K "side" "side" s_side A.a_side A.d_side
  m_side : mg "side" = some (.ref A.a_side)
  b_side : Binds K A.d_side ["bits", "key", "depth"] []
  f_step_term : Fun K "step_term" "step_term" s_step_term A.a_step_term A.d_step_term
  m_step_term : mg "step_term" = some (.ref A.a_step_term)
  b_step_term : Binds K A.d_step_term ["bits", "key", "step", "mark"] []
  f_slip_terms : Fun K "slip_terms" "slip_terms" s_slip_terms A.a_slip_terms A.d_slip_terms
  m_slip_terms : mg "slip_terms" = some (.ref A.a_slip_terms)
  b_slip_terms : Binds K A.d_slip_terms ["stamper", "bits", "key", "slip"] []
  f_slip_mark : Fun K "slip_mark" "slip_mark" s_slip_mark A.a_slip_mark A.d_slip_mark
  m_slip_mark : mg "slip_mark" = some (.ref A.a_slip_mark)
  b_slip_mark : Binds K A.d_slip_mark ["stamper", "bits", "key", "slip"] []
  f__law_same : Fun K "_law_same" "_law_same" s__law_same A.a__law_same A.d__law_same
  m__law_same : mg "_law_same" = some (.ref A.a__law_same)
  b__law_same : Binds K A.d__law_same ["_law_found", "_law_due"] []
  f_slip_value : Fun K "slip_value" "slip_value" s_slip_value A.a_slip_value A.d_slip_value
  m_slip_value : mg "slip_value" = some (.ref A.a_slip_value)
  b_slip_value : Binds K A.d_slip_value ["key", "slip"] []
  f_slip_answer : Fun K "slip_answer" "slip_answer" s_slip_answer A.a_slip_answer A.d_slip_answer
  m_slip_answer : mg "slip_answer" = some (.ref A.a_slip_answer)
  b_slip_answer : Binds K A.d_slip_answer ["stamper", "bits", "mark", "key", "slip"] []
  f__law_told : Fun K "_law_told" "_law_told" s__law_told A.a__law_told A.d__law_told
  m__law_told : mg "_law_told" = some (.ref A.a__law_told)
  b__law_told : Binds K A.d__law_told ["_law_key_here", "_law_slip"] []
  f_clash : Fun K "clash" "clash" s_clash A.a_clash A.d_clash
  m_clash : mg "clash" = some (.ref A.a_clash)
  b_clash : Binds K A.d_clash ["stamper", "terms"] []
  f__law_term_alike : Fun K "_law_term_alike" "_law_term_alike" s__law_term_alike A.a__law_term_alike A.d__law_term_alike
  m__law_term_alike : mg "_law_term_alike" = some (.ref A.a__law_term_alike)
  b__law_term_alike : Binds K A.d__law_term_alike ["_law_found", "_law_due"] []
  f__law_pair_right : Fun K "_law_pair_right" "_law_pair_right" s__law_pair_right A.a__law_pair_right A.d__law_pair_right
  m__law_pair_right : mg "_law_pair_right" = some (.ref A.a__law_pair_right)
  b__law_pair_right : Binds K A.d__law_pair_right ["_law_bits_here", "_law_key_here", "_law_first", "_law_ones", "_law_others", "_law_number_here"] []
  f_law : Fun K "law" "law" s_law A.a_law A.d_law
  m_law : mg "law" = some (.ref A.a_law)
  b_law : Binds K A.d_law ["_law_script"] []
  z_bool : mg "bool" = none
  z_int : mg "int" = none
  z_isinstance : mg "isinstance" = none
  z_len : mg "len" = none
  z_max : mg "max" = none
  z_min : mg "min" = none
  z_range : mg "range" = none
  z_reversed : mg "reversed" = none
  z_str : mg "str" = none
  z_tuple : mg "tuple" = none
  c_MOST_SIGNS : ∃ t, mg "MOST_SIGNS" = some (.int 60 t)
  kc__law_sure : A.d__law_sure.code = .ref A.k__law_sure
  kc__law_planted : A.d__law_planted.code = .ref A.k__law_planted
noncomputable def Tabs0 (A : Adr) (H : Hp) : Prop := H A.t__law_sure = some (.tbl #[]) ∧ H A.t__law_planted = some (.tbl #[]) ∧ ([A.t__law_sure, A.t__law_planted] : List Addr).Nodup
theorem sc__law_sure__c0 : CloScope ["_law_term", "_law_known", "_law_first"] ["_law_term"] ["_law_known", "_law_first"] ct__law_sure__c0.scope := ⟨rfl, rfl, rfl, by decide +kernel, rfl, rfl, by decide +kernel, by decide +kernel, by decide +kernel, by decide +kernel, by decide +kernel⟩
theorem sc__law_planted__c0 : CloScope ["_law_term", "_law_sure_one", "_law_other", "_law_one"] ["_law_term"] ["_law_sure_one", "_law_other", "_law_one"] ct__law_planted__c0.scope := ⟨rfl, rfl, rfl, by decide +kernel, rfl, rfl, by decide +kernel, by decide +kernel, by decide +kernel, by decide +kernel, by decide +kernel⟩
theorem sc__law_bits : FnScope ["_law_cell"] ["_law_cell"] (defScope s__law_bits) := ⟨rfl, rfl, rfl, by decide +kernel, rfl, by decide +kernel, by decide +kernel⟩
theorem sc__law_at : FnScope ["_law_script", "_law_k", "_law_number_here", "_law_cell"] ["_law_script", "_law_k"] (defScope s__law_at) := ⟨rfl, rfl, rfl, by decide +kernel, rfl, by decide +kernel, by decide +kernel⟩
theorem sc__law_key : FnScope ["_law_bits_here", "_law_cell", "_law_others", "_law_many", "_law_number_here", "_law_flip"] ["_law_bits_here", "_law_cell", "_law_others"] (defScope s__law_key) := ⟨rfl, rfl, rfl, by decide +kernel, rfl, by decide +kernel, by decide +kernel⟩
theorem sc__law_mark : FnScope ["_law_number_here"] ["_law_number_here"] (defScope s__law_mark) := ⟨rfl, rfl, rfl, by decide +kernel, rfl, by decide +kernel, by decide +kernel⟩
theorem sc__law_steps : FnScope ["_law_cell", "_law_low", "_law_bits_here", "_law_number_here", "_law_found", "_law_depth"] ["_law_cell", "_law_low", "_law_bits_here"] (defScope s__law_steps) := ⟨rfl, rfl, rfl, by decide +kernel, rfl, by decide +kernel, by decide +kernel⟩
theorem sc__law_place : FnScope ["_law_steps_here", "_law_low"] ["_law_steps_here", "_law_low"] (defScope s__law_place) := ⟨rfl, rfl, rfl, by decide +kernel, rfl, by decide +kernel, by decide +kernel⟩
theorem sc__law_text : FnScope ["_law_cell", "_law_signs", "_law_size", "_law_made", "_law_k"] ["_law_cell"] (defScope s__law_text) := ⟨rfl, rfl, rfl, by decide +kernel, rfl, by decide +kernel, by decide +kernel⟩
theorem sc__law_end : FnScope ["_law_cell", "_law_bits_here", "_law_key_here", "_law_low", "_law_number_here", "_law_depth", "_law_own", "_law_wide", "_law_rest", "_law_free"] ["_law_cell", "_law_bits_here", "_law_key_here", "_law_low"] (defScope s__law_end) := ⟨rfl, rfl, rfl, by decide +kernel, rfl, by decide +kernel, by decide +kernel⟩
theorem sc__law_sure : FnScope ["_law_first", "_law_known", "_law_number"] ["_law_first"] (defScope s__law_sure) := ⟨rfl, rfl, rfl, by decide +kernel, rfl, by decide +kernel, by decide +kernel⟩
theorem sc__law_terms : FnScope ["_law_stamper", "_law_bits_here", "_law_key_here", "_law_slip", "_law_terms_here", "_law_depth", "_law_mark_here", "_law_below", "_law_begin"] ["_law_stamper", "_law_bits_here", "_law_key_here", "_law_slip"] (defScope s__law_terms) := ⟨rfl, rfl, rfl, by decide +kernel, rfl, by decide +kernel, by decide +kernel⟩
theorem sc__law_planted : FnScope ["_law_sure_one", "_law_one", "_law_other", "_law_number"] ["_law_sure_one", "_law_one", "_law_other"] (defScope s__law_planted) := ⟨rfl, rfl, rfl, by decide +kernel, rfl, by decide +kernel, by decide +kernel⟩
theorem sc__law_part_alike : FnScope ["_law_found", "_law_due"] ["_law_found", "_law_due"] (defScope s__law_part_alike) := ⟨rfl, rfl, rfl, by decide +kernel, rfl, by decide +kernel, by decide +kernel⟩
theorem sc_is_whole : FnScope ["thing"] ["thing"] (defScope s_is_whole) := ⟨rfl, rfl, rfl, by decide +kernel, rfl, by decide +kernel, by decide +kernel⟩
theorem sc_is_key : FnScope ["bits", "thing"] ["bits", "thing"] (defScope s_is_key) := ⟨rfl, rfl, rfl, by decide +kernel, rfl, by decide +kernel, by decide +kernel⟩
theorem sc_is_stamp : FnScope ["thing"] ["thing"] (defScope s_is_stamp) := ⟨rfl, rfl, rfl, by decide +kernel, rfl, by decide +kernel, by decide +kernel⟩
theorem sc_is_step : FnScope ["bits", "least", "thing"] ["bits", "least", "thing"] (defScope s_is_step) := ⟨rfl, rfl, rfl, by decide +kernel, rfl, by decide +kernel, by decide +kernel⟩
theorem sc_are_steps : FnScope ["bits", "thing", "least", "step"] ["bits", "thing"] (defScope s_are_steps) := ⟨rfl, rfl, rfl, by decide +kernel, rfl, by decide +kernel, by decide +kernel⟩
theorem sc_start : FnScope ["bits", "key", "depth"] ["bits", "key", "depth"] (defScope s_start) := ⟨rfl, rfl, rfl, by decide +kernel, rfl, by decide +kernel, by decide +kernel⟩
theorem sc_is_value : FnScope ["thing"] ["thing"] (defScope s_is_value) := ⟨rfl, rfl, rfl, by decide +kernel, rfl, by decide +kernel, by decide +kernel⟩
theorem sc_is_leaf : FnScope ["bits", "depth", "begin", "thing"] ["bits", "depth", "begin", "thing"] (defScope s_is_leaf) := ⟨rfl, rfl, rfl, by decide +kernel, rfl, by decide +kernel, by decide +kernel⟩
theorem sc_is_fork : FnScope ["bits", "depth", "begin", "thing"] ["bits", "depth", "begin", "thing"] (defScope s_is_fork) := ⟨rfl, rfl, rfl, by decide +kernel, rfl, by decide +kernel, by decide +kernel⟩
theorem sc_is_end : FnScope ["bits", "key", "place", "thing", "begin"] ["bits", "key", "place", "thing"] (defScope s_is_end) := ⟨rfl, rfl, rfl, by decide +kernel, rfl, by decide +kernel, by decide +kernel⟩
theorem sc_is_slip : FnScope ["bits", "key", "thing", "place"] ["bits", "key", "thing"] (defScope s_is_slip) := ⟨rfl, rfl, rfl, by decide +kernel, rfl, by decide +kernel, by decide +kernel⟩
theorem sc_side : FnScope ["bits", "key", "depth"] ["bits", "key", "depth"] (defScope s_side) := ⟨rfl, rfl, rfl, by decide +kernel, rfl, by decide +kernel, by decide +kernel⟩
theorem sc_step_term : FnScope ["bits", "key", "step", "mark", "depth", "begin"] ["bits", "key", "step", "mark"] (defScope s_step_term) := ⟨rfl, rfl, rfl, by decide +kernel, rfl, by decide +kernel, by decide +kernel⟩
theorem sc_slip_terms : FnScope ["stamper", "bits", "key", "slip", "terms", "step"] ["stamper", "bits", "key", "slip"] (defScope s_slip_terms) := ⟨rfl, rfl, rfl, by decide +kernel, rfl, by decide +kernel, by decide +kernel⟩
theorem sc_slip_mark : FnScope ["stamper", "bits", "key", "slip"] ["stamper", "bits", "key", "slip"] (defScope s_slip_mark) := ⟨rfl, rfl, rfl, by decide +kernel, rfl, by decide +kernel, by decide +kernel⟩
theorem sc__law_same : FnScope ["_law_found", "_law_due"] ["_law_found", "_law_due"] (defScope s__law_same) := ⟨rfl, rfl, rfl, by decide +kernel, rfl, by decide +kernel, by decide +kernel⟩
theorem sc_slip_value : FnScope ["key", "slip", "end"] ["key", "slip"] (defScope s_slip_value) := ⟨rfl, rfl, rfl, by decide +kernel, rfl, by decide +kernel, by decide +kernel⟩
theorem sc_slip_answer : FnScope ["stamper", "bits", "mark", "key", "slip", "came"] ["stamper", "bits", "mark", "key", "slip"] (defScope s_slip_answer) := ⟨rfl, rfl, rfl, by decide +kernel, rfl, by decide +kernel, by decide +kernel⟩
theorem sc__law_told : FnScope ["_law_key_here", "_law_slip"] ["_law_key_here", "_law_slip"] (defScope s__law_told) := ⟨rfl, rfl, rfl, by decide +kernel, rfl, by decide +kernel, by decide +kernel⟩
theorem sc_clash : FnScope ["stamper", "terms", "firsts", "term", "ahead"] ["stamper", "terms"] (defScope s_clash) := ⟨rfl, rfl, rfl, by decide +kernel, rfl, by decide +kernel, by decide +kernel⟩
theorem sc__law_term_alike : FnScope ["_law_found", "_law_due", "_law_k"] ["_law_found", "_law_due"] (defScope s__law_term_alike) := ⟨rfl, rfl, rfl, by decide +kernel, rfl, by decide +kernel, by decide +kernel⟩
theorem sc__law_pair_right : FnScope ["_law_bits_here", "_law_key_here", "_law_first", "_law_ones", "_law_others", "_law_number_here", "_law_sure_one", "_law_mine", "_law_theirs", "_law_stamper", "_law_one", "_law_other", "_law_mark_here", "_law_slip", "_law_found"] ["_law_bits_here", "_law_key_here", "_law_first", "_law_ones", "_law_others", "_law_number_here"] (defScope s__law_pair_right) := ⟨rfl, rfl, rfl, by decide +kernel, rfl, by decide +kernel, by decide +kernel⟩
theorem sc_law : FnScope ["_law_script", "_law_bits_here", "_law_key_here", "_law_first", "_law_low", "_law_rests", "_law_k", "_law_steps_here", "_law_end_here"] ["_law_script"] (defScope s_law) := ⟨rfl, rfl, rfl, by decide +kernel, rfl, by decide +kernel, by decide +kernel⟩
end Rs
namespace Rs
open PySem PySem.Spec PyProof.Rows L2
inductive Dat where
  | non
  | bl (b : Bool)
  | int (i : Int)
  | str (z : Str)
  | lst (ds : List Dat)
  | tup (ds : List Dat)
  | dic
mutual
inductive DatW (H : Hp) : V → Dat → Prop
  | non : DatW H .non .non
  | bl (b) : DatW H (.bl b) (.bl b)
  | int (i) : DatW H (.int i) (.int i)
  | str (z) : DatW H (.str z) (.str z)
  | lst {a xs ds} : H a = some (.lst xs) → DatWs H xs ds → DatW H (.ref a) (.lst ds)
  | tup {a xs ds} : H a = some (.tup xs) → DatWs H xs ds → DatW H (.ref a) (.tup ds)
  | dic {a} : ((∃ kvs, H a = some (.dK kvs)) ∨ ∃ kvs, H a = some (.dT kvs)) → DatW H (.ref a) .dic
inductive DatWs (H : Hp) : List V → List Dat → Prop
  | nil : DatWs H [] []
  | cons {x xs d ds} : DatW H x d → DatWs H xs ds → DatWs H (x :: xs) (d :: ds)
end
mutual
noncomputable def toPy : Dat → PyData
  | .non => .none
  | .bl b => .bool b
  | .int i => .int i
  | .str z => .str z
  | .lst ds => .list (toPys ds)
  | .tup ds => .tuple (toPys ds)
  | .dic => .none
noncomputable def toPys : List Dat → List PyData
  | [] => []
  | d :: r => toPy d :: toPys r
end
noncomputable def ascS (z : Str) : Bool := z.cps.all (· < 128)
mutual
noncomputable def okD : Dat → Bool
  | .str z => ascS z && decide (z.length ≤ 1000)
  | .lst ds => okDs ds
  | .tup ds => okDs ds
  | .dic => false
  | .non => true
  | .bl _ => true
  | .int _ => true
noncomputable def okDs : List Dat → Bool
  | [] => true
  | d :: r => okD d && okDs r
end
noncomputable def isWholeD : Dat → Bool
  | .int _ => true
  | _ => false
noncomputable def isStampD : Dat → Bool
  | .int i => decide (0 ≤ i ∧ i < 10 ^ 60)
  | .str _ => true
  | _ => false
noncomputable def isStrD (w : Str) : Dat → Bool
  | .str z => decide (z = w)
  | _ => false
noncomputable def isKeyD (bits : Int) : Dat → Bool
  | .int i => decide (0 ≤ i ∧ i < 2 ^ bits.toNat)
  | _ => false
noncomputable def isValueD : Dat → Bool
  | .str z => decide (z.length ≤ 60)
  | _ => false
noncomputable def isStepD (bits least : Int) : Dat → Bool
  | .tup [.int d, m] => decide (least ≤ d ∧ d < bits) && isStampD m
  | _ => false
noncomputable def depthOf : Dat → Int
  | .tup (.int d :: _) => d
  | _ => 0
noncomputable def areStepsD (bits : Int) : Int → List Dat → Bool
  | _, [] => true
  | least, s :: r => isStepD bits least s && areStepsD bits (depthOf s + 1) r
noncomputable def startI (bits key depth : Int) : Int := key / 2 ^ (bits - depth).toNat
noncomputable def isLeafD (bits depth begin : Int) : Dat → Bool
  | .tup [w, .int k, z] => isStrD "leaf" w && decide (0 ≤ k ∧ k < 2 ^ bits.toNat) && isValueD z && decide (startI bits k depth = begin)
  | _ => false
noncomputable def isForkD (bits depth begin : Int) : Dat → Bool
  | .tup [w, .int e, .int b, _, _] => isStrD "fork" w && decide (depth ≤ e ∧ e < bits) && decide (0 ≤ b ∧ b < 2 ^ e.toNat) && decide (b / 2 ^ (e - depth).toNat = begin)
  | _ => false
noncomputable def isBareD : Dat → Bool
  | .tup [w] => isStrD "bare" w
  | _ => false
noncomputable def tailD (bits key : Int) : Dat → Bool
  | .tup [_, .int e, .int b, m, n] => !decide (b = startI bits key e) && isStampD m && isStampD n
  | _ => false
noncomputable def isEndD (bits key place : Int) (d : Dat) : Bool :=
  if isBareD d then decide (place = 0)
  else isLeafD bits place (startI bits key place) d || (isForkD bits place (startI bits key place) d && tailD bits key d)
noncomputable def placeD (ds : List Dat) : Int := match ds.getLast? with
  | some s => depthOf s + 1
  | none => 0
noncomputable def isSlipD (bits key : Int) : Dat → Bool
  | .tup [.tup ds, e] => areStepsD bits 0 ds && isEndD bits key (placeD ds) e
  | _ => false
noncomputable def endOk (d : Dat) : Prop := (okD d = true ∧ (toPy d).depth ≤ 140) ∨ d = .dic
noncomputable def sp_is_whole (K : PySem.W.Frag) (A : Adr) : Sp := fun vs H Q _ => ∃ v d, vs = [v] ∧ DatW H v d ∧ Q (.bl (isWholeD d)) H
noncomputable def sp_is_stamp (K : PySem.W.Frag) (A : Adr) : Sp := fun vs H Q _ => ∃ v d, vs = [v] ∧ DatW H v d ∧ Q (.bl (isStampD d)) H
noncomputable def sp_is_step (K : PySem.W.Frag) (A : Adr) : Sp := fun vs H Q _ => ∃ (b l : Int) (v : V) (d : Dat), vs = [.int b, .int l, v] ∧ DatW H v d ∧ Q (.bl (isStepD b l d)) H
noncomputable def sp_are_steps (K : PySem.W.Frag) (A : Adr) : Sp := fun vs H Q _ => ∃ (b : Int) (v : V) (d : Dat), vs = [.int b, v] ∧ DatW H v d ∧ Q (.bl (match d with | .tup ds => areStepsD b 0 ds | _ => false)) H
noncomputable def sp_start (K : PySem.W.Frag) (A : Adr) : Sp := fun vs H Q _ => ∃ (b k d : Int), vs = [.int b, .int k, .int d] ∧ d ≤ b ∧ Q (.int (startI b k d)) H
noncomputable def sp_is_key (K : PySem.W.Frag) (A : Adr) : Sp := fun vs H Q _ => ∃ (b : Int) (v : V) (d : Dat), vs = [.int b, v] ∧ 0 ≤ b ∧ b ≤ 60 ∧ DatW H v d ∧ Q (.bl (isKeyD b d)) H
noncomputable def sp_is_value (K : PySem.W.Frag) (A : Adr) : Sp := fun vs H Q _ => ∃ (v : V) (d : Dat), vs = [v] ∧ DatW H v d ∧ okD d = true ∧ Q (.bl (isValueD d)) H
noncomputable def sp_is_leaf (K : PySem.W.Frag) (A : Adr) : Sp := fun vs H Q _ => ∃ (b p g : Int) (v : V) (d : Dat), vs = [.int b, .int p, .int g, v] ∧ 0 ≤ b ∧ b ≤ 60 ∧ p ≤ b ∧ DatW H v d ∧ endOk d ∧ Q (.bl (isLeafD b p g d)) H
noncomputable def sp_is_fork (K : PySem.W.Frag) (A : Adr) : Sp := fun vs H Q _ => ∃ (b p g : Int) (v : V) (d : Dat), vs = [.int b, .int p, .int g, v] ∧ 0 ≤ p ∧ b ≤ 60 ∧ p ≤ b ∧ DatW H v d ∧ endOk d ∧ Q (.bl (isForkD b p g d)) H
noncomputable def sp_is_end (K : PySem.W.Frag) (A : Adr) : Sp := fun vs H Q _ => ∃ (b k p : Int) (v : V) (d : Dat), vs = [.int b, .int k, .int p, v] ∧ 0 ≤ p ∧ b ≤ 60 ∧ p ≤ b ∧ DatW H v d ∧ endOk d ∧ ∀ H', Same H H' → Q (.bl (isEndD b k p d)) H'
noncomputable def slipOk : Dat → Prop
  | .tup [_, e] => endOk e
  | _ => True
noncomputable def sp_is_slip (K : PySem.W.Frag) (A : Adr) : Sp := fun vs H Q _ => ∃ (b k : Int) (v : V) (d : Dat), vs = [.int b, .int k, v] ∧ 0 ≤ b ∧ b ≤ 60 ∧ DatW H v d ∧ slipOk d ∧ ∀ H', Same H H' → Q (.bl (isSlipD b k d)) H'
noncomputable def datK : Key → Dat
  | .inl i => .int i
  | .inr z => .str z
noncomputable def stampK (m : Key) : Prop := isStampD (datK m) = true ∧ okD (datK m) = true
noncomputable def goodSteps (bits low : Int) (ds : List Dat) : Prop := areStepsD bits low ds = true ∧ okDs ds = true ∧ PyData.depthAll (toPys ds) ≤ 1
noncomputable def placeFrom (low : Int) (ds : List Dat) : Int := match ds.getLast? with
  | some s => depthOf s + 1
  | none => low
noncomputable def sp__law_at (K : PySem.W.Frag) (A : Adr) : Sp := fun vs H Q _ => ∃ (a : Addr) (ns : List Int) (k : Int), vs = [.ref a, .int k] ∧ SqL K H a (ns.map V.int) ∧ 0 ≤ k ∧ ∀ (z : Int) (H' : Hp), Same H H' → Q (.int z) H'
noncomputable def sp__law_bits (K : PySem.W.Frag) (A : Adr) : Sp := fun vs H Q _ => ∃ c : Int, vs = [.int c] ∧ ∀ (b : Int) (H' : Hp), Same H H' → 1 ≤ b → b ≤ 60 → Q (.int b) H'
noncomputable def sp__law_key (K : PySem.W.Frag) (A : Adr) : Sp := fun vs H Q _ => ∃ (b c : Int) (o : Addr) (ks : List Int), vs = [.int b, .int c, .ref o] ∧ 1 ≤ b ∧ b ≤ 60 ∧ H o = some (.lst (ks.map V.int)) ∧ ks.length ≤ 1 ∧ (∀ k ∈ ks, 0 ≤ k ∧ k < 2 ^ b.toNat) ∧ ∀ (k : Int) (H' : Hp), Same H H' → 0 ≤ k → k < 2 ^ b.toNat → Q (.int k) H'
noncomputable def sp__law_text (K : PySem.W.Frag) (A : Adr) : Sp := fun vs H Q _ => ∃ c : Int, vs = [.int c] ∧ ∀ (z : Str) (H' : Hp), Same H H' → z.length ≤ 60 → ascS z = true → Q (.str z) H'
noncomputable def sp__law_mark (K : PySem.W.Frag) (A : Adr) : Sp := fun vs H Q _ => ∃ c : Int, vs = [.int c] ∧ ∀ m : Key, stampK m → Q (kV m) H
noncomputable def sp__law_steps (K : PySem.W.Frag) (A : Adr) : Sp := fun vs H Q _ => ∃ (c l b : Int), vs = [.int c, .int l, .int b] ∧ 0 ≤ l ∧ l ≤ b ∧ b ≤ 60 ∧ ∀ (p : Addr) (ds : List Dat) (H' : Hp), Same H H' → DatW H' (.ref p) (.tup ds) → goodSteps b l ds → Q (.ref p) H'
noncomputable def sp__law_place (K : PySem.W.Frag) (A : Adr) : Sp := fun vs H Q _ => ∃ (v : V) (ds : List Dat) (l b : Int), vs = [v, .int l] ∧ DatW H v (.tup ds) ∧ 0 ≤ l ∧ goodSteps b l ds ∧ ∀ H', Same H H' → Q (.int (placeFrom l ds)) H'
noncomputable def sp__law_end (K : PySem.W.Frag) (A : Adr) : Sp := fun vs H Q _ => ∃ (c b k l : Int), vs = [.int c, .int b, .int k, .int l] ∧ 0 ≤ l ∧ l ≤ b ∧ 1 ≤ b ∧ b ≤ 60 ∧ 0 ≤ k ∧ k < 2 ^ b.toNat ∧ ∀ (v : V) (d : Dat) (H' : Hp), Same H H' → DatW H' v d → okD d = true → (toPy d).depth ≤ 1 → (∃ ds, d = .tup ds) → isEndD b k l d = true → Q v H'
noncomputable def okP : Key → Bool
  | .inl i => decide (0 ≤ i ∧ i < 10 ^ 60)
  | .inr z => ascS z && decide (z.length ≤ 100000)
noncomputable def isTxt : Key → Bool
  | .inr _ => true
  | .inl _ => false
noncomputable def okT (k : List Key) : Bool := decide (1 ≤ k.length ∧ k.length ≤ 8) && (k.head?.map isTxt).getD false && k.all okP
noncomputable def szK : Key → Nat
  | .inl _ => 62
  | .inr z => z.length + 62
noncomputable def szT (k : List Key) : Nat := (k.map szK).sum
noncomputable def stOf (k : List Key) : Key → Prop
  | .inl i => 0 ≤ i ∧ i < 10 ^ 60
  | .inr z => ascS z = true ∧ z.length ≤ szT k
noncomputable def tabV (kvs : List (List Key × Key)) : List (List Key × V) := kvs.map fun p => (p.1, kV p.2)
noncomputable def tabG (kvs : List (List Key × Key)) (k : List Key) : Option Key := (kvs.find? fun p => decide (p.1 = k)).map (·.2)
noncomputable def SureT (j : Int) (kvs : List (List Key × Key)) : Prop := ∀ (i : Nat) (p : List Key × Key), kvs[i]? = some p → p.2 = Sum.inl (3 * (i : Int) + j)
set_option genInjectivity false in
set_option genSizeOf false in
structure SA where
  f : Addr
  b : Addr
  q0 : Addr
  q1 : Addr
  c : Addr
  j : Int
structure SurAt (H : Hp) (a : SA) (kvs : List (List Key × Key)) (n : Nat) : Prop where
  j0 : 0 ≤ a.j
  j1 : a.j < 1000
  hf : H a.f = some (cloO a.f ct__law_sure__c0 [a.q1, a.q0] a.c)
  hc : H a.c = some (codeO a.c ct__law_sure__c0.qual)
  h0 : H a.q0 = some (cellO a.q0 (.int a.j))
  h1 : H a.q1 = some (cellO a.q1 (.ref a.b))
  hb : H a.b = some (.dT (tabV kvs))
  hl : kvs.length ≤ n
  st : SureT a.j kvs
structure PlaAt (H : Hp) (f : Addr) (a : SA) (k1 k2 : List Key) (kvs : List (List Key × Key)) (n : Nat) : Prop where
  ex : ∃ (q0 q1 q2 o1 o2 : Addr), CloAt H f ct__law_planted__c0 [q0, q2, q1] [.ref a.f, .ref o2, .ref o1] ∧ H o1 = some (.tup (k1.map kV)) ∧ H o2 = some (.tup (k2.map kV)) ∧ ∀ x ∈ [a.f, a.q0, a.q1, a.c], x ∉ [q0, q2, q1]
  k1 : okT k1 = true
  k2 : okT k2 = true
  su : SurAt H a kvs n
set_option genInjectivity false in
set_option genSizeOf false in
structure Kd where
  a : SA
  pl : Option (List Key × List Key)
inductive Stp (A : Adr) (H : Hp) (f : Addr) (d : Kd) (g : List Key → Option Key) (n : Nat) : Prop
  | sur (kvs : List (List Key × Key)) (h : SurAt H d.a kvs n) (ef : f = d.a.f) (ep : d.pl = none) (hg : g = tabG kvs)
  | pla (k1 k2 : List Key) (kvs : List (List Key × Key)) (h : PlaAt H f d.a k1 k2 kvs n) (ep : d.pl = some (k1, k2)) (hg : g = tabG kvs)
noncomputable def eff (d : Kd) (g : List Key → Option Key) : List Key → Option Key := match d.pl with
  | none => g
  | some p => fun k => g (if k = p.2 then p.1 else k)
noncomputable def Sub (g g' : List Key → Option Key) : Prop := ∀ k v, g k = some v → g' k = some v
noncomputable def Ext (g : List Key → Option Key) (h : List Key → Key) : Prop := ∀ k v, g k = some v → h k = v
noncomputable abbrev PK (H : Hp) : List Addr → List (List Key) → Prop := Paired (fun (p : Addr) (k : List Key) => H p = some (.tup (k.map kV)) ∧ okT k = true)
noncomputable def stD (s : Int × Key) : Dat := .tup [.int s.1, datK s.2]
noncomputable def forkT (b k d : Int) (m s : Key) : List Key := if k / 2 ^ (b - d - 1).toNat % 2 = 0 then [.inr "fork", .inl d, .inl (startI b k d), s, m] else [.inr "fork", .inl d, .inl (startI b k d), m, s]
noncomputable def chainT (h : List Key → Key) (b k : Int) : List Key → List (Int × Key) → List (List Key)
  | e, [] => [e]
  | e, s :: r => e :: chainT h b k (forkT b k s.1 s.2 (h e)) r
noncomputable def lastT (h : List Key → Key) (b k : Int) : List Key → List (Int × Key) → List Key
  | e, [] => e
  | e, s :: r => lastT h b k (forkT b k s.1 s.2 (h e)) r
structure Good (b k : Int) (st : List (Int × Key)) (e : List Key) : Prop where
  b1 : 1 ≤ b
  b60 : b ≤ 60
  k0 : 0 ≤ k
  k1 : k < 2 ^ b.toNat
  gs : goodSteps b 0 (st.map stD)
  ok : okD (.tup (e.map datK)) = true
  dp : (toPy (.tup (e.map datK))).depth ≤ 1
  en : ∃ l, 0 ≤ l ∧ isEndD b k l (.tup (e.map datK)) = true
noncomputable def PartW (H : Hp) (v : V) (b k : Int) (st : List (Int × Key)) (e : List Key) : Prop := DatW H v (.tup [.tup (st.map stD), .tup (e.map datK)]) ∧ Good b k st e
noncomputable def SlipW (H : Hp) (v : V) (b k : Int) (st : List (Int × Key)) (e : List Key) : Prop := PartW H v b k st e ∧ isEndD b k (placeFrom 0 (st.map stD)) (.tup (e.map datK)) = true
noncomputable def toldV (k : Int) : List Key → V
  | [.inr w, .inl x, .inr z] => if w = "leaf" ∧ x = k then .str z else .non
  | _ => .non
noncomputable def defV (kvs : List (List Key × V)) (kk : List Key) (d : V) : V := (valV kvs kk).getD d
noncomputable def defH (H : Hp) (b : Addr) (kvs : List (List Key × V)) (kk : List Key) (d : V) : Hp := if (valV kvs kk).isSome = true then H else upd H b (.dT (putK kvs kk d))
noncomputable def sp__law_sure__c0 (K : PySem.W.Frag) (A : Adr) : Sp := fun vs H Q _ => ∃ (p b : Addr) (j : Int) (k : List Key) (kvs : List (List Key × V)), vs = [.ref p, .ref b, .int j] ∧ H p = some (.tup (k.map kV)) ∧ H b = some (.dT kvs) ∧ kvs.length ≤ 50000 ∧ Q (defV kvs k (.int (3 * (kvs.length : Int) + j))) (defH H b kvs k (.int (3 * (kvs.length : Int) + j)))
noncomputable def sp__law_planted__c0 (K : PySem.W.Frag) (A : Adr) : Sp := fun vs H Q _ => ∃ (p o1 o2 : Addr) (a : SA) (k k1 k2 : List Key) (kvs : List (List Key × Key)) (n : Nat), vs = [.ref p, .ref a.f, .ref o2, .ref o1] ∧ H p = some (.tup (k.map kV)) ∧ H o1 = some (.tup (k1.map kV)) ∧ H o2 = some (.tup (k2.map kV)) ∧ okT k = true ∧ okT k1 = true ∧ okT k2 = true ∧ SurAt H a kvs n ∧ n ≤ 45000 ∧
  ∀ (v : Key) (H' : Hp) (kvs' : List (List Key × Key)), (∀ x o, x ≠ a.b → H x = some o → H' x = some o) → SurAt H' a kvs' (n + 1) → Sub (tabG kvs) (tabG kvs') → tabG kvs' (if k = k2 then k1 else k) = some v → (∃ i : Int, 0 ≤ i ∧ i < 10 ^ 60 ∧ v = .inl i) → Q (kV v) H'
noncomputable def KeepP (P : Addr) (H H' : Hp) : Prop := ∀ b o, H b = some o → b ≠ P → H' b = some o
noncomputable def Tab1 (P : Addr) (l c : Nat) (t : CloT) (H : Hp) : Prop := ∃ ps, H P = some (.tbl ps) ∧ (ps = #[] ∨ ∃ a, ps = #[] ++ #[rawInt ((l : Nat) : Int), rawInt ((c : Nat) : Int), .ref a] ∧ H a = some (codeO a t.qual))
noncomputable def TabS (A : Adr) (H : Hp) : Prop := Tab1 A.t__law_sure 146 4 ct__law_sure__c0 H
noncomputable def TabP (A : Adr) (H : Hp) : Prop := Tab1 A.t__law_planted 151 4 ct__law_planted__c0 H
noncomputable def sp__law_sure (K : PySem.W.Frag) (A : Adr) : Sp := fun vs H Q _ => ∃ j : Int, vs = [.int j] ∧ 0 ≤ j ∧ j < 1000 ∧ TabS A H ∧ ∀ (a : SA) (H' : Hp), KeepP A.t__law_sure H H' → TabS A H' → H a.b = none → SurAt H' a [] 0 → Q (.ref a.f) H'
noncomputable def sp__law_planted (K : PySem.W.Frag) (A : Adr) : Sp := fun vs H Q _ => ∃ (o1 o2 : Addr) (a : SA) (k1 k2 : List Key) (kvs : List (List Key × Key)) (n : Nat), vs = [.ref a.f, .ref o1, .ref o2] ∧ H o1 = some (.tup (k1.map kV)) ∧ H o2 = some (.tup (k2.map kV)) ∧ okT k1 = true ∧ okT k2 = true ∧ SurAt H a kvs n ∧ TabP A H ∧ ∀ (f : Addr) (H' : Hp), KeepP A.t__law_planted H H' → TabP A H' → PlaAt H' f a k1 k2 kvs n → Q (.ref f) H'
noncomputable def sp_side (K : PySem.W.Frag) (A : Adr) : Sp := fun vs H Q _ => ∃ (b k d : Int), vs = [.int b, .int k, .int d] ∧ d < b ∧ 0 ≤ k ∧ Q (.int (k / 2 ^ (b - d - 1).toNat % 2)) H
noncomputable def sp_step_term (K : PySem.W.Frag) (A : Adr) : Sp := fun vs H Q _ => ∃ (b k d : Int) (m s : Key) (p : Addr), vs = [.int b, .int k, .ref p, kV s] ∧ H p = some (.tup [.int d, kV m]) ∧ d < b ∧ 0 ≤ k ∧ ∀ t, H t = none → Q (.ref t) (upd H t (.tup ((forkT b k d m s).map kV)))
noncomputable def KeepB (b : Addr) (H H' : Hp) : Prop := ∀ x o, x ≠ b → H x = some o → H' x = some o
noncomputable def SpT (W : Hp → V → Int → Int → List (Int × Key) → List Key → Prop) (A : Adr) : Sp := fun vs H Q _ => ∃ (f : Addr) (d : Kd) (b k : Int) (v : V) (st : List (Int × Key)) (e : List Key) (g : List Key → Option Key) (n : Nat), vs = [.ref f, .int b, .int k, v] ∧ W H v b k st e ∧ Stp A H f d g n ∧ n ≤ 40000 ∧
  ∀ (L : Addr) (ps : List Addr) (ts : List (List Key)) (g' : List Key → Option Key) (H' : Hp), KeepB d.a.b H H' → Stp A H' f d g' (n + st.length) → Sub g g' → H L = none → H' L = some (.lst (ps.map V.ref)) → PK H' ps ts → (∀ h, Ext (eff d g') h → ts = chainT h b k e st.reverse) → Q (.ref L) H'
noncomputable def sp__law_terms (K : PySem.W.Frag) (A : Adr) : Sp := SpT PartW A
noncomputable def sp_slip_terms (K : PySem.W.Frag) (A : Adr) : Sp := SpT SlipW A
noncomputable def sp_slip_mark (K : PySem.W.Frag) (A : Adr) : Sp := fun vs H Q _ => ∃ (f : Addr) (d : Kd) (b k : Int) (v : V) (st : List (Int × Key)) (e : List Key) (g : List Key → Option Key) (n : Nat), vs = [.ref f, .int b, .int k, v] ∧ SlipW H v b k st e ∧ Stp A H f d g n ∧ n ≤ 40000 ∧
  ∀ (x : Key) (g' : List Key → Option Key) (H' : Hp), KeepB d.a.b H H' → Stp A H' f d g' (n + st.length + 1) → Sub g g' → (∀ h, Ext (eff d g') h → x = h (lastT h b k e st.reverse)) → Q (kV x) H'
noncomputable def sp_slip_answer (K : PySem.W.Frag) (A : Adr) : Sp := fun vs H Q _ => ∃ (f : Addr) (d : Kd) (b k : Int) (v : V) (st : List (Int × Key)) (e : List Key) (g : List Key → Option Key) (n : Nat) (x : Key), vs = [.ref f, .int b, kV x, .int k, v] ∧ SlipW H v b k st e ∧ Stp A H f d g n ∧ n ≤ 40000 ∧ (∀ h, Ext (eff d g) h → x = h (lastT h b k e st.reverse)) ∧
  ∀ (g' : List Key → Option Key) (H' : Hp), KeepB d.a.b H H' → Stp A H' f d g' (n + st.length + 1) → Sub g g' → Q (toldV k e) H'
noncomputable def sp_slip_value (K : PySem.W.Frag) (A : Adr) : Sp := fun vs H Q _ => ∃ (b k : Int) (v : V) (st : List (Int × Key)) (e : List Key), vs = [.int k, v] ∧ SlipW H v b k st e ∧ Q (toldV k e) H
noncomputable def sp__law_told (K : PySem.W.Frag) (A : Adr) : Sp := fun vs H Q _ => ∃ (b k : Int) (v : V) (st : List (Int × Key)) (e : List Key), vs = [.int k, v] ∧ SlipW H v b k st e ∧ Q (toldV k e) H
noncomputable def sp__law_same (K : PySem.W.Frag) (A : Adr) : Sp := fun vs H Q _ => ∃ v : V, vs = [v, v] ∧ (v = .non ∨ ∃ z, v = .str z) ∧ Q (.bl true) H
noncomputable def sp__law_part_alike (K : PySem.W.Frag) (A : Adr) : Sp := fun vs H Q _ => ∃ x : Key, vs = [kV x, kV x] ∧ Q (.bl true) H
noncomputable def sp__law_term_alike (K : PySem.W.Frag) (A : Adr) : Sp := fun vs H Q _ => ∃ (p r : Addr) (k : List Key), vs = [.ref p, .ref r] ∧ H p = some (.tup (k.map kV)) ∧ H r = some (.tup (k.map kV)) ∧ k.length ≤ 8 ∧ Q (.bl true) H
noncomputable def IsDue (h : List Key → Key) (ks : List (List Key)) : Option (List Key × List Key) → Prop
  | none => ∀ (j k : Nat) a b, j < k → ks[j]? = some a → ks[k]? = some b → h a = h b → a = b
  | some r => ∃ j k : Nat, j < k ∧ ks[j]? = some r.1 ∧ ks[k]? = some r.2 ∧ r.1 ≠ r.2 ∧ h r.1 = h r.2 ∧ (∀ (j' k' : Nat) a b, j' < k' → k' < k → ks[j']? = some a → ks[k']? = some b → h a = h b → a = b) ∧ ∀ (j' : Nat) a, j' < j → ks[j']? = some a → h a = h r.2 → a = r.2
noncomputable def RetDue (H : Hp) : Option (List Key × List Key) → V → Prop
  | none, v => v = .non
  | some r, v => ∃ p a b : Addr, v = .ref p ∧ H p = some (.tup [.ref a, .ref b]) ∧ H a = some (.tup (r.1.map kV)) ∧ H b = some (.tup (r.2.map kV)) ∧ okT r.1 = true ∧ okT r.2 = true
noncomputable def sp_clash (K : PySem.W.Frag) (A : Adr) : Sp := fun vs H Q _ => ∃ (f : Addr) (d : Kd) (L : Addr) (ps : List Addr) (ks : List (List Key)) (g : List Key → Option Key) (n : Nat), vs = [.ref f, .ref L] ∧ Stp A H f d g n ∧ H L = some (.lst (ps.map V.ref)) ∧ PK H ps ks ∧ ks.length ≤ 900 ∧ n ≤ 40000 ∧
  ∀ (v : V) (H' : Hp) (g' : List Key → Option Key) (r : Option (List Key × List Key)), KeepB d.a.b H H' → Stp A H' f d g' (n + ks.length) → Sub g g' → RetDue H' r v → (∀ h : List Key → Key, Ext (eff d g') h → IsDue h ks r) → Q v H'
noncomputable def sp__law_pair_right (K : PySem.W.Frag) (A : Adr) : Sp := fun vs H Q _ => ∃ (b k l m : Int) (p : Addr) (v w : V) (fi st su : List (Int × Key)) (e o : List Key), vs = [.int b, .int k, .ref p, v, w, .int m] ∧ DatW H (.ref p) (.tup (fi.map stD)) ∧ goodSteps b 0 (fi.map stD) ∧ l = placeFrom 0 (fi.map stD) ∧
  PartW H v b k st e ∧ goodSteps b l (st.map stD) ∧ isEndD b k (placeFrom l (st.map stD)) (.tup (e.map datK)) = true ∧ PartW H w b k su o ∧ goodSteps b l (su.map stD) ∧ isEndD b k (placeFrom l (su.map stD)) (.tup (o.map datK)) = true ∧ TabS A H ∧ TabP A H ∧ A.t__law_sure ≠ A.t__law_planted ∧
  ∀ H', (∀ x o, H x = some o → (∀ ps, o ≠ .tbl ps) → H' x = some o) → TabS A H' → TabP A H' → Q (.bl true) H'
noncomputable def sp_law (K : PySem.W.Frag) (A : Adr) : Sp := fun vs H Q _ => ∃ (a : Addr) (ns : List Int), vs = [.ref a] ∧ SqL K H a (ns.map V.int) ∧ ns.length ≤ 63 ∧ Tabs0 A H ∧ ∀ H', Q (.bl true) H'
end Rs
namespace Rs
open PySem PySem.Spec PyProof.Rows L2
noncomputable def Knd1 (K : PySem.W.Frag) (A : Adr) : L2.Kinds := [(ct__law_sure__c0, sp__law_sure__c0 K A), (ct__law_planted__c0, sp__law_planted__c0 K A)]
noncomputable def Knd1_0 (K : PySem.W.Frag) (A : Adr) : L2.Kinds := [(ct__law_sure__c0, sp__law_sure__c0 K A)]
noncomputable def T__law_sure__c0 (K : PySem.W.Frag) (A : Adr) : TS := tRet (tBM K "dict" rSetDef (mVar 1) (tCons (mVar 0) (tCons (tOp (mAddG K) (tOp (mMulB) (tC (.int 3)) (tCB (kLenA K) (tCons (mVar 1) (tNil)))) (mVar 2)) (tNil))))
noncomputable def T__law_planted__c0 (K : PySem.W.Frag) (A : Adr) : TS := tSeq (mIfS (mTest (tOp (mEqC K) (mVar 0) (mVar 2))) (tRet (tHeld (Knd1_0 K A) (fun _ => E0) (mVar 1) (tCons (mVar 3) (tNil)))) (tNext)) (tRet (tHeld (Knd1_0 K A) (fun _ => E0) (mVar 1) (tCons (mVar 0) (tNil))))
noncomputable def T__law_bits (K : PySem.W.Frag) (A : Adr) : TS := tRet (tOp (mAddG K) (tC (.int 1)) (tOp (mMod) (tOp (mFdivB) (mVar 0) (tC (.int 3))) (tOp (rIxA K) (tLst (tCons (tC (.int 60)) (tCons (tC (.int 8)) (tCons (tC (.int 60)) (tNil))))) (tOp (mMod) (mVar 0) (tC (.int 3))))))
noncomputable def T__law_at (K : PySem.W.Frag) (A : Adr) : TS := tSeq (mIfS (mTest (tOp (mLt) (mVar 1) (tCB (kLenA K) (tCons (mVar 0) (tNil))))) (tRet (tOp (rIxA K) (mVar 0) (mVar 1))) (tNext)) (tSeq (tAsg (tOp (mAddG K) (tC (.int 17)) (tCB (kLenA K) (tCons (mVar 0) (tNil)))) (gName 2)) (tSeq (tFor (iSeqA K (tSl (rSlA K) (mVar 0) (tNoPart) (tPart (tC (.int 5))))) (gName 3) (tAsg (tOp (mMod) (tOp (mAddG K) (tOp (mMulB) (mVar 2) (tC (.int 31))) (mVar 3)) (tC (.int 1000003))) (gName 2))) (tSeq (tAsg (tOp (mMod) (tOp (mAddG K) (mVar 2) (tOp (mMulB) (tC (.int 7919)) (mVar 1))) (tC (.int 1000003))) (gName 2)) (tRet (tOp (mMod) (tOp (mMulB) (mVar 2) (mVar 2)) (tC (.int 2147483629)))))))
noncomputable def T__law_key (K : PySem.W.Frag) (A : Adr) : TS := tSeq (tAsg (tOp (mShl) (tC (.int 1)) (mVar 0)) (gName 3)) (tSeq (tAsg (tOp (mFdivB) (mVar 1) (tC (.int 5))) (gName 4)) (tSeq (mIfS (mTest (tOp (mEqC K) (tOp (mMod) (mVar 1) (tC (.int 5))) (tC (.int 0)))) (tRet (tOp (mMod) (mVar 4) (mVar 3))) (tNext)) (tSeq (mIfS (mTest (tOp (mEqC K) (tOp (mMod) (mVar 1) (tC (.int 5))) (tC (.int 1)))) (tRet (tOp (mSub) (tOp (mSub) (mVar 3) (tC (.int 1))) (tOp (mMod) (mVar 4) (mVar 3)))) (tNext)) (tSeq (mIfS (mAnd (mTest (tOp (mEqC K) (tOp (mMod) (mVar 1) (tC (.int 5))) (tC (.int 2)))) (mTest (tOp (mNeB K) (mVar 2) (tLst (tNil))))) (tSeq (tAsg (tOp (mMod) (tOp (mMod) (tOp (mMulB) (mVar 4) (tC (.int 48271))) (tC (.int 65537))) (mVar 0)) (gName 5)) (tRet (tOp (mXor) (tOp (rIxA K) (mVar 2) (tOp (mMod) (mVar 4) (tCB (kLenA K) (tCons (mVar 2) (tNil))))) (tOp (mShl) (tC (.int 1)) (mVar 5))))) (tNext)) (tRet (tOp (mMod) (tOp (mMulB) (mVar 4) (tC (.int 1152921504606846883))) (mVar 3)))))))
noncomputable def T__law_mark (K : PySem.W.Frag) (A : Adr) : TS := tSeq (tAsg (tOp (mMod) (tOp (mMulB) (mVar 0) (tC (.int 69621))) (tC (.int 1000003))) (gName 0)) (tSeq (mIfS (mTest (tOp (mEqC K) (tOp (mMod) (mVar 0) (tC (.int 4))) (tC (.int 0)))) (tRet (tOp (mAddG K) (tC (.str "m")) (tCB (kStr) (tCons (tOp (mMod) (mVar 0) (tC (.int 50))) (tNil))))) (tNext)) (tSeq (mIfS (mTest (tOp (mEqC K) (tOp (mMod) (mVar 0) (tC (.int 4))) (tC (.int 1)))) (tRet (tOp (mMod) (tOp (mFdivB) (mVar 0) (tC (.int 4))) (tC (.int 12)))) (tNext)) (tSeq (mIfS (mTest (tOp (mEqC K) (tOp (mMod) (mVar 0) (tC (.int 4))) (tC (.int 2)))) (tRet (tOp (mMulB) (mVar 0) (tOp (mPow) (tC (.int 10)) (tC (.int 30))))) (tNext)) (tRet (tOp (mSub) (tOp (mSub) (tOp (mPow) (tC (.int 10)) (tC (.int 60))) (tC (.int 1))) (mVar 0))))))
noncomputable def T__law_steps (K : PySem.W.Frag) (A : Adr) : TS := tSeq (tAsg (tOp (mMod) (tOp (mFdivB) (mVar 0) (tC (.int 4))) (tC (.int 65537))) (gName 3)) (tSeq (tAsg (tLst (tNil)) (gName 4)) (tSeq (tFor (iRng2 (tCons (mVar 1) (tCons (mVar 2) (tNil)))) (gName 5) (mIfS (mTest (tOp (mLt) (tOp (mMod) (tOp (mMod) (tOp (mMulB) (tOp (mMulB) (mVar 3) (tOp (mAddG K) (mVar 5) (tC (.int 3)))) (tC (.int 48271))) (tC (.int 65537))) (tC (.int 4))) (tOp (mMod) (mVar 0) (tC (.int 4))))) (tDrop (tBM K "list" rAppend (mVar 4) (tCons (tTup (tCons (mVar 5) (tCons (tCallX (sp__law_mark K A) (fun _ => E0) (tCons (tOp (mAddG K) (mVar 3) (tOp (mMulB) (tC (.int 97)) (mVar 5))) (tNil))) (tNil)))) (tNil)))) (tNext))) (tRet (tCB (kTuple K) (tCons (mVar 4) (tNil))))))
noncomputable def T__law_place (K : PySem.W.Frag) (A : Adr) : TS := tSeq (mIfS (mTest (tOp (mEqC K) (mVar 0) (tTup (tNil)))) (tRet (mVar 1)) (tNext)) (tRet (tOp (mAddG K) (tOp (rIxA K) (tOp (rIxA K) (mVar 0) (tUn mNeg (tC (.int 1)))) (tC (.int 0))) (tC (.int 1))))
noncomputable def R__law_text_7 (K : PySem.W.Frag) (A : Adr) : TS := tRet (mVar 3)
noncomputable def R__law_text_6 (K : PySem.W.Frag) (A : Adr) : TS := tSeq (tFor (iRng1 (tCons (mVar 2) (tNil))) (gName 4) (tAsg (tOp (mAddG K) (mVar 3) (tOp (rIxA K) (mVar 1) (tOp (mMod) (tOp (mAddG K) (tOp (mFdivB) (mVar 0) (tC (.int 4))) (tOp (mMulB) (mVar 4) (tOp (mMod) (tOp (mFdivB) (mVar 0) (tC (.int 128))) (tC (.int 5))))) (tCB (kLenA K) (tCons (mVar 1) (tNil)))))) (gName 3))) (R__law_text_7 K A)
noncomputable def R__law_text_5 (K : PySem.W.Frag) (A : Adr) : TS := tSeq (tAsg (tC (.str "")) (gName 3)) (R__law_text_6 K A)
noncomputable def R__law_text_4 (K : PySem.W.Frag) (A : Adr) : TS := tSeq (mIfS (mTest (tOp (mEqC K) (tOp (mMod) (tOp (mFdivB) (mVar 0) (tC (.int 4))) (tC (.int 8))) (tC (.int 2)))) (tAsg (tOp (mMod) (tOp (mFdivB) (mVar 0) (tC (.int 32))) (tC (.int 61))) (gName 2)) (tNext)) (R__law_text_5 K A)
noncomputable def T__law_text (K : PySem.W.Frag) (A : Adr) : TS := tSeq (tAsg (tC (.str " !\"#$&'()*+,-./0123456789:;<=>?@ABCDEFGHIJKLMNOPQRSTUVWXYZ[\\]^_`")) (gName 1)) (tSeq (tAsg (tOp (mAddG K) (mVar 1) (tC (.str "abcdefghijklmnopqrstuvwxyz{|}~"))) (gName 1)) (tSeq (tAsg (tOp (mMod) (mVar 0) (tC (.int 4))) (gName 2)) (tSeq (mIfS (mTest (tOp (mEqC K) (tOp (mMod) (tOp (mFdivB) (mVar 0) (tC (.int 4))) (tC (.int 8))) (tC (.int 1)))) (tAsg (tC (.int 60)) (gName 2)) (tNext)) (tSeq (mIfS (mTest (tOp (mEqC K) (tOp (mMod) (tOp (mFdivB) (mVar 0) (tC (.int 4))) (tC (.int 8))) (tC (.int 2)))) (tAsg (tOp (mMod) (tOp (mFdivB) (mVar 0) (tC (.int 32))) (tC (.int 61))) (gName 2)) (tNext)) (tSeq (tAsg (tC (.str "")) (gName 3)) (tSeq (tFor (iRng1 (tCons (mVar 2) (tNil))) (gName 4) (tAsg (tOp (mAddG K) (mVar 3) (tOp (rIxA K) (mVar 1) (tOp (mMod) (tOp (mAddG K) (tOp (mFdivB) (mVar 0) (tC (.int 4))) (tOp (mMulB) (mVar 4) (tOp (mMod) (tOp (mFdivB) (mVar 0) (tC (.int 128))) (tC (.int 5))))) (tCB (kLenA K) (tCons (mVar 1) (tNil)))))) (gName 3))) (tRet (mVar 3))))))))
noncomputable def R__law_end_5 (K : PySem.W.Frag) (A : Adr) : TS := tRet (tTup (tCons (tC (.str "leaf")) (tCons (tOp (mAddG K) (tOp (mSub) (mVar 2) (tOp (mMod) (mVar 2) (mVar 9))) (tOp (mMod) (tOp (mMulB) (mVar 4) (tC (.int 982451653))) (mVar 9))) (tCons (tCallX (sp__law_text K A) (fun _ => E0) (tCons (tOp (mFdivB) (mVar 4) (tC (.int 3))) (tNil))) (tNil)))))
noncomputable def R__law_end_4 (K : PySem.W.Frag) (A : Adr) : TS := tSeq (mIfS (mTest (tOp (mEqC K) (tOp (mMod) (mVar 0) (tC (.int 4))) (tC (.int 2)))) (tRet (tTup (tCons (tC (.str "leaf")) (tCons (mVar 2) (tCons (tCallX (sp__law_text K A) (fun _ => E0) (tCons (mVar 4) (tNil))) (tNil)))))) (tNext)) (R__law_end_5 K A)
noncomputable def R__law_end_3 (K : PySem.W.Frag) (A : Adr) : TS := tSeq (tAsg (tOp (mShl) (tC (.int 1)) (tOp (mSub) (mVar 1) (mVar 3))) (gName 9)) (R__law_end_4 K A)
noncomputable def R__law_end_2 (K : PySem.W.Frag) (A : Adr) : TS := tSeq (mIfS (mAnd (mTest (tOp (mEqC K) (tOp (mMod) (mVar 0) (tC (.int 4))) (tC (.int 1)))) (mTest (tOp (mLt) (tOp (mAddG K) (mVar 3) (tC (.int 1))) (mVar 1)))) (tSeq (tAsg (tOp (mAddG K) (tOp (mAddG K) (mVar 3) (tC (.int 1))) (tOp (mMod) (mVar 4) (tOp (mSub) (tOp (mSub) (mVar 1) (tC (.int 1))) (mVar 3)))) (gName 5)) (tSeq (tAsg (tOp (mShr) (mVar 2) (tOp (mSub) (mVar 1) (mVar 5))) (gName 6)) (tSeq (tAsg (tOp (mShl) (tC (.int 1)) (tOp (mSub) (mVar 5) (mVar 3))) (gName 7)) (tSeq (tAsg (tOp (mMod) (tOp (mAddG K) (tOp (mAddG K) (tOp (mMod) (mVar 6) (mVar 7)) (tC (.int 1))) (tOp (mMod) (tOp (mMulB) (mVar 4) (tC (.int 69621))) (tOp (mSub) (mVar 7) (tC (.int 1))))) (mVar 7)) (gName 8)) (tRet (tTup (tCons (tC (.str "fork")) (tCons (mVar 5) (tCons (tOp (mAddG K) (tOp (mSub) (mVar 6) (tOp (mMod) (mVar 6) (mVar 7))) (mVar 8)) (tCons (tCallX (sp__law_mark K A) (fun _ => E0) (tCons (mVar 4) (tNil))) (tCons (tCallX (sp__law_mark K A) (fun _ => E0) (tCons (tOp (mAddG K) (tOp (mFdivB) (mVar 4) (tC (.int 7))) (tC (.int 5))) (tNil))) (tNil)))))))))))) (tNext)) (R__law_end_3 K A)
noncomputable def T__law_end (K : PySem.W.Frag) (A : Adr) : TS := tSeq (tAsg (tOp (mFdivB) (mVar 0) (tC (.int 4))) (gName 4)) (tSeq (mIfS (mAnd (mTest (tOp (mEqC K) (tOp (mMod) (mVar 0) (tC (.int 4))) (tC (.int 0)))) (mTest (tOp (mEqC K) (mVar 3) (tC (.int 0))))) (tRet (tTup (tCons (tC (.str "bare")) (tNil)))) (tNext)) (tSeq (mIfS (mAnd (mTest (tOp (mEqC K) (tOp (mMod) (mVar 0) (tC (.int 4))) (tC (.int 1)))) (mTest (tOp (mLt) (tOp (mAddG K) (mVar 3) (tC (.int 1))) (mVar 1)))) (tSeq (tAsg (tOp (mAddG K) (tOp (mAddG K) (mVar 3) (tC (.int 1))) (tOp (mMod) (mVar 4) (tOp (mSub) (tOp (mSub) (mVar 1) (tC (.int 1))) (mVar 3)))) (gName 5)) (tSeq (tAsg (tOp (mShr) (mVar 2) (tOp (mSub) (mVar 1) (mVar 5))) (gName 6)) (tSeq (tAsg (tOp (mShl) (tC (.int 1)) (tOp (mSub) (mVar 5) (mVar 3))) (gName 7)) (tSeq (tAsg (tOp (mMod) (tOp (mAddG K) (tOp (mAddG K) (tOp (mMod) (mVar 6) (mVar 7)) (tC (.int 1))) (tOp (mMod) (tOp (mMulB) (mVar 4) (tC (.int 69621))) (tOp (mSub) (mVar 7) (tC (.int 1))))) (mVar 7)) (gName 8)) (tRet (tTup (tCons (tC (.str "fork")) (tCons (mVar 5) (tCons (tOp (mAddG K) (tOp (mSub) (mVar 6) (tOp (mMod) (mVar 6) (mVar 7))) (mVar 8)) (tCons (tCallX (sp__law_mark K A) (fun _ => E0) (tCons (mVar 4) (tNil))) (tCons (tCallX (sp__law_mark K A) (fun _ => E0) (tCons (tOp (mAddG K) (tOp (mFdivB) (mVar 4) (tC (.int 7))) (tC (.int 5))) (tNil))) (tNil)))))))))))) (tNext)) (tSeq (tAsg (tOp (mShl) (tC (.int 1)) (tOp (mSub) (mVar 1) (mVar 3))) (gName 9)) (tSeq (mIfS (mTest (tOp (mEqC K) (tOp (mMod) (mVar 0) (tC (.int 4))) (tC (.int 2)))) (tRet (tTup (tCons (tC (.str "leaf")) (tCons (mVar 2) (tCons (tCallX (sp__law_text K A) (fun _ => E0) (tCons (mVar 4) (tNil))) (tNil)))))) (tNext)) (tRet (tTup (tCons (tC (.str "leaf")) (tCons (tOp (mAddG K) (tOp (mSub) (mVar 2) (tOp (mMod) (mVar 2) (mVar 9))) (tOp (mMod) (tOp (mMulB) (mVar 4) (tC (.int 982451653))) (mVar 9))) (tCons (tCallX (sp__law_text K A) (fun _ => E0) (tCons (tOp (mFdivB) (mVar 4) (tC (.int 3))) (tNil))) (tNil))))))))))
noncomputable def T__law_sure (K : PySem.W.Frag) (A : Adr) (q0 q1 : Addr) : TSM := mSeq (mLift (tAsg (tDNewA) (gName 1))) (mSeq (mLift (tAsg (tLam A.t__law_sure ⟨146, 4, 147, 81⟩ ct__law_sure__c0 [q1, q0]) (gName 2))) (mRet (mVar 2)))
noncomputable def T__law_terms (K : PySem.W.Frag) (A : Adr) : TS := tSeq (tAsg (tLst (tCons (tOp (rIxA K) (mVar 3) (tC (.int 1))) (tNil))) (gName 4)) (tSeq (tFor (iRev K (tCons (tOp (rIxA K) (mVar 3) (tC (.int 0))) (tNil))) (gTup K 2 (gCons (gName 5) (gCons (gName 6) gNil))) (tSeq (tAsg (tHeld (Knd1 K A) (fun _ => E0) (mVar 0) (tCons (tOp (rIxA K) (mVar 4) (tUn mNeg (tC (.int 1)))) (tNil))) (gName 7)) (tSeq (tAsg (tOp (mFdivB) (mVar 2) (tOp (mShl) (tC (.int 1)) (tOp (mSub) (mVar 1) (mVar 5)))) (gName 8)) (mIfS (mTest (tOp (mEqC K) (tOp (mMod) (tOp (mFdivB) (mVar 2) (tOp (mShl) (tC (.int 1)) (tOp (mSub) (tOp (mSub) (mVar 1) (mVar 5)) (tC (.int 1))))) (tC (.int 2))) (tC (.int 0)))) (tDrop (tBM K "list" rAppend (mVar 4) (tCons (tTup (tCons (tC (.str "fork")) (tCons (mVar 5) (tCons (mVar 8) (tCons (mVar 7) (tCons (mVar 6) (tNil))))))) (tNil)))) (tDrop (tBM K "list" rAppend (mVar 4) (tCons (tTup (tCons (tC (.str "fork")) (tCons (mVar 5) (tCons (mVar 8) (tCons (mVar 6) (tCons (mVar 7) (tNil))))))) (tNil)))))))) (tRet (mVar 4)))
noncomputable def T__law_planted (K : PySem.W.Frag) (A : Adr) (q0 q1 q2 : Addr) : TSM := mSeq (mLift (tAsg (tLam A.t__law_planted ⟨151, 4, 154, 39⟩ ct__law_planted__c0 [q0, q2, q1]) (gName 3))) (mRet (mVar 3))
noncomputable def T__law_part_alike (K : PySem.W.Frag) (A : Adr) : TS := tSeq (mIfS (mTru K (tCB (kIsi) (tCons (mVar 1) (tCons (tC (.ty "str")) (tNil))))) (tRet (mAndV (tCB (kIsi) (tCons (mVar 0) (tCons (tC (.ty "str")) (tNil)))) (tOp (mEqC K) (mVar 0) (mVar 1)))) (tNext)) (tRet (mAndV (tCB (kIsi) (tCons (mVar 0) (tCons (tC (.ty "int")) (tNil)))) (mAndV (mNotV (tCB (kIsi) (tCons (mVar 0) (tCons (tC (.ty "bool")) (tNil))))) (tOp (mEqC K) (mVar 0) (mVar 1)))))
noncomputable def T_is_whole (K : PySem.W.Frag) (A : Adr) : TS := tRet (mAndV (tCB (kIsi) (tCons (mVar 0) (tCons (tC (.ty "int")) (tNil)))) (mNotV (tCB (kIsi) (tCons (mVar 0) (tCons (tC (.ty "bool")) (tNil))))))
noncomputable def T_is_key (K : PySem.W.Frag) (A : Adr) : TS := tRet (mAndV (tCallX (sp_is_whole K A) (fun _ => E0) (tCons (mVar 1) (tNil))) (mChain (mLe) (mLt) (tC (.int 0)) (mVar 1) (tOp (mShl) (tC (.int 1)) (mVar 0))))
noncomputable def T_is_stamp (K : PySem.W.Frag) (A : Adr) : TS := tSeq (mIfS (mTru K (tCallX (sp_is_whole K A) (fun _ => E0) (tCons (mVar 0) (tNil)))) (tRet (mChain (mLe) (mLt) (tC (.int 0)) (mVar 0) (tOp (mPow) (tC (.int 10)) (tC (.int 60))))) (tNext)) (tRet (tCB (kIsi) (tCons (mVar 0) (tCons (tC (.ty "str")) (tNil)))))
noncomputable def T_is_step (K : PySem.W.Frag) (A : Adr) : TS := tSeq (mIfS (mOr (tNot (mTru K (tCB (kIsi) (tCons (mVar 2) (tCons (tC (.ty "tuple")) (tNil)))))) (mTest (tOp (mNeB K) (tCB (kLenA K) (tCons (mVar 2) (tNil))) (tC (.int 2))))) (tRet (tC (.bl false))) (tNext)) (tRet (mAndV (tCallX (sp_is_whole K A) (fun _ => E0) (tCons (tOp (rIxA K) (mVar 2) (tC (.int 0))) (tNil))) (mAndV (mChain (mLe) (mLt) (mVar 1) (tOp (rIxA K) (mVar 2) (tC (.int 0))) (mVar 0)) (tCallX (sp_is_stamp K A) (fun _ => E0) (tCons (tOp (rIxA K) (mVar 2) (tC (.int 1))) (tNil))))))
noncomputable def T_are_steps (K : PySem.W.Frag) (A : Adr) : TS := tSeq (mIfS (tNot (mTru K (tCB (kIsi) (tCons (mVar 1) (tCons (tC (.ty "tuple")) (tNil)))))) (tRet (tC (.bl false))) (tNext)) (tSeq (tAsg (tC (.int 0)) (gName 2)) (tSeq (tFor (iSeqA K (mVar 1)) (gName 3) (tSeq (mIfS (tNot (mTru K (tCallX (sp_is_step K A) (fun _ => E0) (tCons (mVar 0) (tCons (mVar 2) (tCons (mVar 3) (tNil))))))) (tRet (tC (.bl false))) (tNext)) (tAsg (tOp (mAddG K) (tOp (rIxA K) (mVar 3) (tC (.int 0))) (tC (.int 1))) (gName 2)))) (tRet (tC (.bl true)))))
noncomputable def T_start (K : PySem.W.Frag) (A : Adr) : TS := tRet (tOp (mShr) (mVar 1) (tOp (mSub) (mVar 0) (mVar 2)))
noncomputable def T_is_value (K : PySem.W.Frag) (A : Adr) : TS := tRet (mAndV (tCB (kIsi) (tCons (mVar 0) (tCons (tC (.ty "str")) (tNil)))) (tOp (mLe) (tCB (kLenA K) (tCons (mVar 0) (tNil))) (tC (.int 60))))
noncomputable def T_is_leaf (K : PySem.W.Frag) (A : Adr) : TS := tSeq (mIfS (mOr (tNot (mTru K (tCB (kIsi) (tCons (mVar 3) (tCons (tC (.ty "tuple")) (tNil)))))) (mOr (mTest (tOp (mNeB K) (tCB (kLenA K) (tCons (mVar 3) (tNil))) (tC (.int 3)))) (mTest (tOp (mNeB K) (tOp (rIxA K) (mVar 3) (tC (.int 0))) (tC (.str "leaf")))))) (tRet (tC (.bl false))) (tNext)) (tSeq (mIfS (mOr (tNot (mTru K (tCallX (sp_is_key K A) (fun _ => E0) (tCons (mVar 0) (tCons (tOp (rIxA K) (mVar 3) (tC (.int 1))) (tNil)))))) (tNot (mTru K (tCallX (sp_is_value K A) (fun _ => E0) (tCons (tOp (rIxA K) (mVar 3) (tC (.int 2))) (tNil)))))) (tRet (tC (.bl false))) (tNext)) (tRet (tOp (mEqC K) (tCallX (sp_start K A) (fun _ => E0) (tCons (mVar 0) (tCons (tOp (rIxA K) (mVar 3) (tC (.int 1))) (tCons (mVar 1) (tNil))))) (mVar 2))))
noncomputable def T_is_fork (K : PySem.W.Frag) (A : Adr) : TS := tSeq (mIfS (mOr (tNot (mTru K (tCB (kIsi) (tCons (mVar 3) (tCons (tC (.ty "tuple")) (tNil)))))) (mOr (mTest (tOp (mNeB K) (tCB (kLenA K) (tCons (mVar 3) (tNil))) (tC (.int 5)))) (mTest (tOp (mNeB K) (tOp (rIxA K) (mVar 3) (tC (.int 0))) (tC (.str "fork")))))) (tRet (tC (.bl false))) (tNext)) (tSeq (mIfS (mOr (tNot (mTru K (tCallX (sp_is_whole K A) (fun _ => E0) (tCons (tOp (rIxA K) (mVar 3) (tC (.int 1))) (tNil))))) (tNot (mTest (mChain (mLe) (mLt) (mVar 1) (tOp (rIxA K) (mVar 3) (tC (.int 1))) (mVar 0))))) (tRet (tC (.bl false))) (tNext)) (tSeq (mIfS (mOr (tNot (mTru K (tCallX (sp_is_whole K A) (fun _ => E0) (tCons (tOp (rIxA K) (mVar 3) (tC (.int 2))) (tNil))))) (tNot (mTest (mChain (mLe) (mLt) (tC (.int 0)) (tOp (rIxA K) (mVar 3) (tC (.int 2))) (tOp (mShl) (tC (.int 1)) (tOp (rIxA K) (mVar 3) (tC (.int 1)))))))) (tRet (tC (.bl false))) (tNext)) (tRet (tOp (mEqC K) (tOp (mShr) (tOp (rIxA K) (mVar 3) (tC (.int 2))) (tOp (mSub) (tOp (rIxA K) (mVar 3) (tC (.int 1))) (mVar 1))) (mVar 2)))))
noncomputable def T_is_end (K : PySem.W.Frag) (A : Adr) : TS := tSeq (mIfS (mTest (tOp (mEqC K) (mVar 3) (tTup (tCons (tC (.str "bare")) (tNil))))) (tRet (tOp (mEqC K) (mVar 2) (tC (.int 0)))) (tNext)) (tSeq (tAsg (tCallX (sp_start K A) (fun _ => E0) (tCons (mVar 0) (tCons (mVar 1) (tCons (mVar 2) (tNil))))) (gName 4)) (tSeq (mIfS (mTru K (tCallX (sp_is_leaf K A) (fun _ => E0) (tCons (mVar 0) (tCons (mVar 2) (tCons (mVar 4) (tCons (mVar 3) (tNil))))))) (tRet (tC (.bl true))) (tNext)) (tSeq (mIfS (tNot (mTru K (tCallX (sp_is_fork K A) (fun _ => E0) (tCons (mVar 0) (tCons (mVar 2) (tCons (mVar 4) (tCons (mVar 3) (tNil)))))))) (tRet (tC (.bl false))) (tNext)) (tSeq (mIfS (mTest (tOp (mEqC K) (tOp (rIxA K) (mVar 3) (tC (.int 2))) (tCallX (sp_start K A) (fun _ => E0) (tCons (mVar 0) (tCons (mVar 1) (tCons (tOp (rIxA K) (mVar 3) (tC (.int 1))) (tNil))))))) (tRet (tC (.bl false))) (tNext)) (tRet (mAndV (tCallX (sp_is_stamp K A) (fun _ => E0) (tCons (tOp (rIxA K) (mVar 3) (tC (.int 3))) (tNil))) (tCallX (sp_is_stamp K A) (fun _ => E0) (tCons (tOp (rIxA K) (mVar 3) (tC (.int 4))) (tNil)))))))))
noncomputable def T_is_slip (K : PySem.W.Frag) (A : Adr) : TS := tSeq (mIfS (mOr (tNot (mTru K (tCB (kIsi) (tCons (mVar 2) (tCons (tC (.ty "tuple")) (tNil)))))) (mTest (tOp (mNeB K) (tCB (kLenA K) (tCons (mVar 2) (tNil))) (tC (.int 2))))) (tRet (tC (.bl false))) (tNext)) (tSeq (mIfS (tNot (mTru K (tCallX (sp_are_steps K A) (fun _ => E0) (tCons (mVar 0) (tCons (tOp (rIxA K) (mVar 2) (tC (.int 0))) (tNil)))))) (tRet (tC (.bl false))) (tNext)) (tSeq (tAsg (mIf (mTru K (tOp (rIxA K) (mVar 2) (tC (.int 0)))) (tOp (mAddG K) (tOp (rIxA K) (tOp (rIxA K) (tOp (rIxA K) (mVar 2) (tC (.int 0))) (tUn mNeg (tC (.int 1)))) (tC (.int 0))) (tC (.int 1))) (tC (.int 0))) (gName 3)) (tRet (tCallX (sp_is_end K A) (fun _ => E0) (tCons (mVar 0) (tCons (mVar 1) (tCons (mVar 3) (tCons (tOp (rIxA K) (mVar 2) (tC (.int 1))) (tNil)))))))))
noncomputable def T_side (K : PySem.W.Frag) (A : Adr) : TS := tRet (tOp (mBAnd) (tOp (mShr) (mVar 1) (tOp (mSub) (tOp (mSub) (mVar 0) (mVar 2)) (tC (.int 1)))) (tC (.int 1)))
noncomputable def T_step_term (K : PySem.W.Frag) (A : Adr) : TS := tSeq (tAsg (tOp (rIxA K) (mVar 2) (tC (.int 0))) (gName 4)) (tSeq (tAsg (tCallX (sp_start K A) (fun _ => E0) (tCons (mVar 0) (tCons (mVar 1) (tCons (mVar 4) (tNil))))) (gName 5)) (tSeq (mIfS (mTest (tOp (mEqC K) (tCallX (sp_side K A) (fun _ => E0) (tCons (mVar 0) (tCons (mVar 1) (tCons (mVar 4) (tNil))))) (tC (.int 0)))) (tRet (tTup (tCons (tC (.str "fork")) (tCons (mVar 4) (tCons (mVar 5) (tCons (mVar 3) (tCons (tOp (rIxA K) (mVar 2) (tC (.int 1))) (tNil)))))))) (tNext)) (tRet (tTup (tCons (tC (.str "fork")) (tCons (mVar 4) (tCons (mVar 5) (tCons (tOp (rIxA K) (mVar 2) (tC (.int 1))) (tCons (mVar 3) (tNil))))))))))
noncomputable def T_slip_terms (K : PySem.W.Frag) (A : Adr) : TS := tSeq (mIfS (tNot (mTru K (tCallX (sp_is_key K A) (fun _ => E0) (tCons (mVar 1) (tCons (mVar 2) (tNil)))))) (tNever) (tNext)) (tSeq (mIfS (tNot (mTru K (tCallX (sp_is_slip K A) (fun _ => E0) (tCons (mVar 1) (tCons (mVar 2) (tCons (mVar 3) (tNil))))))) (tNever) (tNext)) (tSeq (tAsg (tLst (tCons (tOp (rIxA K) (mVar 3) (tC (.int 1))) (tNil))) (gName 4)) (tSeq (tFor (iRev K (tCons (tOp (rIxA K) (mVar 3) (tC (.int 0))) (tNil))) (gName 5) (tDrop (tBM K "list" rAppend (mVar 4) (tCons (tCallX (sp_step_term K A) (fun _ => E0) (tCons (mVar 1) (tCons (mVar 2) (tCons (mVar 5) (tCons (tHeld (Knd1 K A) (fun _ => E0) (mVar 0) (tCons (tOp (rIxA K) (mVar 4) (tUn mNeg (tC (.int 1)))) (tNil))) (tNil)))))) (tNil))))) (tRet (mVar 4)))))
noncomputable def T_slip_mark (K : PySem.W.Frag) (A : Adr) : TS := tRet (tHeld (Knd1 K A) (fun _ => E0) (mVar 0) (tCons (tOp (rIxA K) (tCallX (sp_slip_terms K A) (fun _ => E0) (tCons (mVar 0) (tCons (mVar 1) (tCons (mVar 2) (tCons (mVar 3) (tNil)))))) (tUn mNeg (tC (.int 1)))) (tNil)))
noncomputable def T__law_same (K : PySem.W.Frag) (A : Adr) : TS := tSeq (mIfS (mTest (tOp (mIsA) (mVar 1) (tC .non))) (tRet (tOp (mIsA) (mVar 0) (tC .non))) (tNext)) (tRet (mAndV (tCB (kIsi) (tCons (mVar 0) (tCons (tC (.ty "str")) (tNil)))) (tOp (mEqC K) (mVar 0) (mVar 1))))
noncomputable def T_slip_value (K : PySem.W.Frag) (A : Adr) : TS := tSeq (tAsg (tOp (rIxA K) (mVar 1) (tC (.int 1))) (gName 2)) (tRet (mIf (mAnd (mTest (tOp (mEqC K) (tOp (rIxA K) (mVar 2) (tC (.int 0))) (tC (.str "leaf")))) (mTest (tOp (mEqC K) (tOp (rIxA K) (mVar 2) (tC (.int 1))) (mVar 0)))) (tOp (rIxA K) (mVar 2) (tC (.int 2))) (tC .non)))
noncomputable def T_slip_answer (K : PySem.W.Frag) (A : Adr) : TS := tSeq (tAsg (tCallX (sp_slip_mark K A) (fun _ => E0) (tCons (mVar 0) (tCons (mVar 1) (tCons (mVar 3) (tCons (mVar 4) (tNil)))))) (gName 5)) (tSeq (mIfS (mTest (tOp (mNeB K) (mVar 5) (mVar 2))) (tNever) (tNext)) (tRet (tCallX (sp_slip_value K A) (fun _ => E0) (tCons (mVar 3) (tCons (mVar 4) (tNil))))))
noncomputable def T__law_told (K : PySem.W.Frag) (A : Adr) : TS := tSeq (mIfS (mAnd (mTest (tOp (mEqC K) (tOp (rIxA K) (tOp (rIxA K) (mVar 1) (tC (.int 1))) (tC (.int 0))) (tC (.str "leaf")))) (mTest (tOp (mEqC K) (tOp (rIxA K) (tOp (rIxA K) (mVar 1) (tC (.int 1))) (tC (.int 1))) (mVar 0)))) (tRet (tOp (rIxA K) (tOp (rIxA K) (mVar 1) (tC (.int 1))) (tC (.int 2)))) (tNext)) (tRet (tC .non))
noncomputable def T_clash (K : PySem.W.Frag) (A : Adr) : TS := tSeq (tAsg (tDNewA) (gName 2)) (tSeq (tFor (iSeqA K (mVar 1)) (gName 3) (tSeq (tAsg (tBM K "dict" rSetDef (mVar 2) (tCons (tHeld (Knd1 K A) (fun _ => E0) (mVar 0) (tCons (mVar 3) (tNil))) (tCons (mVar 3) (tNil)))) (gName 4)) (mIfS (mTest (tOp (mNeB K) (mVar 4) (mVar 3))) (tRet (tTup (tCons (mVar 4) (tCons (mVar 3) (tNil))))) (tNext)))) (tRet (tC .non)))
noncomputable def T__law_term_alike (K : PySem.W.Frag) (A : Adr) : TS := tSeq (mIfS (mOr (tNot (mTru K (tCB (kIsi) (tCons (mVar 0) (tCons (tC (.ty "tuple")) (tNil)))))) (mTest (tOp (mNeB K) (tCB (kLenA K) (tCons (mVar 0) (tNil))) (tCB (kLenA K) (tCons (mVar 1) (tNil)))))) (tRet (tC (.bl false))) (tNext)) (tSeq (tFor (iRng1 (tCons (tCB (kLenA K) (tCons (mVar 1) (tNil))) (tNil))) (gName 2) (mIfS (tNot (mTru K (tCallX (sp__law_part_alike K A) (fun _ => E0) (tCons (tOp (rIxA K) (mVar 0) (mVar 2)) (tCons (tOp (rIxA K) (mVar 1) (mVar 2)) (tNil)))))) (tRet (tC (.bl false))) (tNext))) (tRet (tC (.bl true))))
noncomputable def R__law_pair_right_12 (K : PySem.W.Frag) (A : Adr) : TS := tRet (mAndV (tCallX (sp__law_term_alike K A) (fun _ => E0) (tCons (tOp (rIxA K) (mVar 14) (tC (.int 0))) (tCons (tOp (rIxA K) (mVar 7) (tUn mNeg (tC (.int 1)))) (tNil)))) (tCallX (sp__law_term_alike K A) (fun _ => E0) (tCons (tOp (rIxA K) (mVar 14) (tC (.int 1))) (tCons (tOp (rIxA K) (mVar 8) (tUn mNeg (tC (.int 1)))) (tNil)))))
noncomputable def R__law_pair_right_11 (K : PySem.W.Frag) (A : Adr) : TS := tSeq (mIfS (mOr (tNot (mTru K (tCB (kIsi) (tCons (mVar 14) (tCons (tC (.ty "tuple")) (tNil)))))) (mTest (tOp (mNeB K) (tCB (kLenA K) (tCons (mVar 14) (tNil))) (tC (.int 2))))) (tRet (tC (.bl false))) (tNext)) (R__law_pair_right_12 K A)
noncomputable def R__law_pair_right_10 (K : PySem.W.Frag) (A : Adr) : TS := tSeq (mIfS (mTest (tOp (mEqC K) (mVar 10) (mVar 11))) (tRet (tOp (mIsA) (mVar 14) (tC .non))) (tNext)) (R__law_pair_right_11 K A)
noncomputable def R__law_pair_right_9 (K : PySem.W.Frag) (A : Adr) : TS := tSeq (tAsg (tCallX (sp_clash K A) (fun _ => E0) (tCons (mVar 9) (tCons (tOp (mAddG K) (tCallX (sp_slip_terms K A) (fun _ => E0) (tCons (mVar 9) (tCons (mVar 0) (tCons (mVar 1) (tCons (mVar 10) (tNil)))))) (tCallX (sp_slip_terms K A) (fun _ => E0) (tCons (mVar 9) (tCons (mVar 0) (tCons (mVar 1) (tCons (mVar 11) (tNil))))))) (tNil)))) (gName 14)) (R__law_pair_right_10 K A)
noncomputable def R__law_pair_right_8 (K : PySem.W.Frag) (A : Adr) : TS := tSeq (tFor (iSeqA K (tLst (tCons (mVar 10) (tCons (mVar 11) (tNil))))) (gName 13) (tSeq (mIfS (tNot (mTru K (tCallX (sp__law_part_alike K A) (fun _ => E0) (tCons (tCallX (sp_slip_mark K A) (fun _ => E0) (tCons (mVar 9) (tCons (mVar 0) (tCons (mVar 1) (tCons (mVar 13) (tNil)))))) (tCons (mVar 12) (tNil)))))) (tRet (tC (.bl false))) (tNext)) (mIfS (tNot (mTru K (tCallX (sp__law_same K A) (fun _ => E0) (tCons (tCallX (sp_slip_answer K A) (fun _ => E0) (tCons (mVar 9) (tCons (mVar 0) (tCons (mVar 12) (tCons (mVar 1) (tCons (mVar 13) (tNil))))))) (tCons (tCallX (sp__law_told K A) (fun _ => E0) (tCons (mVar 1) (tCons (mVar 13) (tNil)))) (tNil)))))) (tRet (tC (.bl false))) (tNext)))) (R__law_pair_right_9 K A)
noncomputable def R__law_pair_right_7 (K : PySem.W.Frag) (A : Adr) : TS := tSeq (tAsg (tHeld (Knd1 K A) (fun _ => E0) (mVar 9) (tCons (tOp (rIxA K) (tCallX (sp__law_terms K A) (fun _ => E0) (tCons (mVar 9) (tCons (mVar 0) (tCons (mVar 1) (tCons (mVar 10) (tNil)))))) (tUn mNeg (tC (.int 1)))) (tNil))) (gName 12)) (R__law_pair_right_8 K A)
noncomputable def R__law_pair_right_6 (K : PySem.W.Frag) (A : Adr) : TS := tSeq (tAsg (tTup (tCons (tOp (mAddG K) (mVar 2) (tOp (rIxA K) (mVar 4) (tC (.int 0)))) (tCons (tOp (rIxA K) (mVar 4) (tC (.int 1))) (tNil)))) (gName 11)) (R__law_pair_right_7 K A)
noncomputable def R__law_pair_right_5 (K : PySem.W.Frag) (A : Adr) : TS := tSeq (tAsg (tTup (tCons (tOp (mAddG K) (mVar 2) (tOp (rIxA K) (mVar 3) (tC (.int 0)))) (tCons (tOp (rIxA K) (mVar 3) (tC (.int 1))) (tNil)))) (gName 10)) (R__law_pair_right_6 K A)
noncomputable def R__law_pair_right_4 (K : PySem.W.Frag) (A : Adr) : TS := tSeq (tAsg (tCallX (sp__law_planted K A) (fun _ => E0) (tCons (mVar 6) (tCons (tOp (rIxA K) (mVar 7) (tUn mNeg (tC (.int 1)))) (tCons (tOp (rIxA K) (mVar 8) (tUn mNeg (tC (.int 1)))) (tNil))))) (gName 9)) (R__law_pair_right_5 K A)
noncomputable def R__law_pair_right_3 (K : PySem.W.Frag) (A : Adr) : TS := tSeq (mIfS (mTest (tOp (mInA K) (tOp (rIxA K) (mVar 8) (tUn mNeg (tC (.int 1)))) (mVar 7))) (tSeq (tPar 3 4 (tCons (mVar 4) (tCons (mVar 3) (tNil)))) (tPar 7 8 (tCons (mVar 8) (tCons (mVar 7) (tNil))))) (tNext)) (R__law_pair_right_4 K A)
noncomputable def R__law_pair_right_2 (K : PySem.W.Frag) (A : Adr) : TS := tSeq (tAsg (tCallX (sp__law_terms K A) (fun _ => E0) (tCons (mVar 6) (tCons (mVar 0) (tCons (mVar 1) (tCons (mVar 4) (tNil)))))) (gName 8)) (R__law_pair_right_3 K A)
noncomputable def R__law_pair_right_1 (K : PySem.W.Frag) (A : Adr) : TS := tSeq (tAsg (tCallX (sp__law_terms K A) (fun _ => E0) (tCons (mVar 6) (tCons (mVar 0) (tCons (mVar 1) (tCons (mVar 3) (tNil)))))) (gName 7)) (R__law_pair_right_2 K A)
noncomputable def T__law_pair_right (K : PySem.W.Frag) (A : Adr) : TS := tSeq (tAsg (tCallX (sp__law_sure K A) (fun _ => E0) (tCons (tOp (mMod) (mVar 5) (tC (.int 1000))) (tNil))) (gName 6)) (tSeq (tAsg (tCallX (sp__law_terms K A) (fun _ => E0) (tCons (mVar 6) (tCons (mVar 0) (tCons (mVar 1) (tCons (mVar 3) (tNil)))))) (gName 7)) (tSeq (tAsg (tCallX (sp__law_terms K A) (fun _ => E0) (tCons (mVar 6) (tCons (mVar 0) (tCons (mVar 1) (tCons (mVar 4) (tNil)))))) (gName 8)) (tSeq (mIfS (mTest (tOp (mInA K) (tOp (rIxA K) (mVar 8) (tUn mNeg (tC (.int 1)))) (mVar 7))) (tSeq (tPar 3 4 (tCons (mVar 4) (tCons (mVar 3) (tNil)))) (tPar 7 8 (tCons (mVar 8) (tCons (mVar 7) (tNil))))) (tNext)) (tSeq (tAsg (tCallX (sp__law_planted K A) (fun _ => E0) (tCons (mVar 6) (tCons (tOp (rIxA K) (mVar 7) (tUn mNeg (tC (.int 1)))) (tCons (tOp (rIxA K) (mVar 8) (tUn mNeg (tC (.int 1)))) (tNil))))) (gName 9)) (tSeq (tAsg (tTup (tCons (tOp (mAddG K) (mVar 2) (tOp (rIxA K) (mVar 3) (tC (.int 0)))) (tCons (tOp (rIxA K) (mVar 3) (tC (.int 1))) (tNil)))) (gName 10)) (tSeq (tAsg (tTup (tCons (tOp (mAddG K) (mVar 2) (tOp (rIxA K) (mVar 4) (tC (.int 0)))) (tCons (tOp (rIxA K) (mVar 4) (tC (.int 1))) (tNil)))) (gName 11)) (tSeq (tAsg (tHeld (Knd1 K A) (fun _ => E0) (mVar 9) (tCons (tOp (rIxA K) (tCallX (sp__law_terms K A) (fun _ => E0) (tCons (mVar 9) (tCons (mVar 0) (tCons (mVar 1) (tCons (mVar 10) (tNil)))))) (tUn mNeg (tC (.int 1)))) (tNil))) (gName 12)) (tSeq (tFor (iSeqA K (tLst (tCons (mVar 10) (tCons (mVar 11) (tNil))))) (gName 13) (tSeq (mIfS (tNot (mTru K (tCallX (sp__law_part_alike K A) (fun _ => E0) (tCons (tCallX (sp_slip_mark K A) (fun _ => E0) (tCons (mVar 9) (tCons (mVar 0) (tCons (mVar 1) (tCons (mVar 13) (tNil)))))) (tCons (mVar 12) (tNil)))))) (tRet (tC (.bl false))) (tNext)) (mIfS (tNot (mTru K (tCallX (sp__law_same K A) (fun _ => E0) (tCons (tCallX (sp_slip_answer K A) (fun _ => E0) (tCons (mVar 9) (tCons (mVar 0) (tCons (mVar 12) (tCons (mVar 1) (tCons (mVar 13) (tNil))))))) (tCons (tCallX (sp__law_told K A) (fun _ => E0) (tCons (mVar 1) (tCons (mVar 13) (tNil)))) (tNil)))))) (tRet (tC (.bl false))) (tNext)))) (tSeq (tAsg (tCallX (sp_clash K A) (fun _ => E0) (tCons (mVar 9) (tCons (tOp (mAddG K) (tCallX (sp_slip_terms K A) (fun _ => E0) (tCons (mVar 9) (tCons (mVar 0) (tCons (mVar 1) (tCons (mVar 10) (tNil)))))) (tCallX (sp_slip_terms K A) (fun _ => E0) (tCons (mVar 9) (tCons (mVar 0) (tCons (mVar 1) (tCons (mVar 11) (tNil))))))) (tNil)))) (gName 14)) (tSeq (mIfS (mTest (tOp (mEqC K) (mVar 10) (mVar 11))) (tRet (tOp (mIsA) (mVar 14) (tC .non))) (tNext)) (tSeq (mIfS (mOr (tNot (mTru K (tCB (kIsi) (tCons (mVar 14) (tCons (tC (.ty "tuple")) (tNil)))))) (mTest (tOp (mNeB K) (tCB (kLenA K) (tCons (mVar 14) (tNil))) (tC (.int 2))))) (tRet (tC (.bl false))) (tNext)) (tRet (mAndV (tCallX (sp__law_term_alike K A) (fun _ => E0) (tCons (tOp (rIxA K) (mVar 14) (tC (.int 0))) (tCons (tOp (rIxA K) (mVar 7) (tUn mNeg (tC (.int 1)))) (tNil)))) (tCallX (sp__law_term_alike K A) (fun _ => E0) (tCons (tOp (rIxA K) (mVar 14) (tC (.int 1))) (tCons (tOp (rIxA K) (mVar 8) (tUn mNeg (tC (.int 1)))) (tNil)))))))))))))))))
noncomputable def R_law_8 (K : PySem.W.Frag) (A : Adr) : TS := tRet (tC (.bl true))
noncomputable def R_law_7 (K : PySem.W.Frag) (A : Adr) : TS := tSeq (tFor (iRng1 (tCons (tCB (kLenA K) (tCons (mVar 5) (tNil))) (tNil))) (gName 6) (mIfS (tNot (mTru K (tCallX (sp__law_pair_right K A) (fun _ => E0) (tCons (mVar 1) (tCons (mVar 2) (tCons (mVar 3) (tCons (tOp (rIxA K) (mVar 5) (tOp (mSub) (mVar 6) (tC (.int 1)))) (tCons (tOp (rIxA K) (mVar 5) (mVar 6)) (tCons (tOp (mFdivB) (tCallX (sp__law_at K A) (fun _ => E0) (tCons (mVar 0) (tCons (tC (.int 3)) (tNil)))) (tC (.int 64))) (tNil)))))))))) (tRet (tC (.bl false))) (tNext))) (R_law_8 K A)
noncomputable def R_law_6 (K : PySem.W.Frag) (A : Adr) : TS := tSeq (tFor (iRng1 (tCons (tOp (mAddG K) (tC (.int 2)) (tCB (kMin) (tCons (tC (.int 3)) (tCons (tOp (mFdivB) (tCB (kMax) (tCons (tC (.int 0)) (tCons (tOp (mSub) (tCB (kLenA K) (tCons (mVar 0) (tNil))) (tC (.int 8))) (tNil)))) (tC (.int 2))) (tNil))))) (tNil))) (gName 6) (tSeq (tAsg (tCallX (sp__law_steps K A) (fun _ => E0) (tCons (tCallX (sp__law_at K A) (fun _ => E0) (tCons (mVar 0) (tCons (tOp (mAddG K) (tC (.int 4)) (tOp (mMulB) (tC (.int 2)) (mVar 6))) (tNil)))) (tCons (mVar 4) (tCons (mVar 1) (tNil))))) (gName 7)) (tSeq (tAsg (tCallX (sp__law_end K A) (fun _ => E0) (tCons (tCallX (sp__law_at K A) (fun _ => E0) (tCons (mVar 0) (tCons (tOp (mAddG K) (tC (.int 5)) (tOp (mMulB) (tC (.int 2)) (mVar 6))) (tNil)))) (tCons (mVar 1) (tCons (mVar 2) (tCons (tCallX (sp__law_place K A) (fun _ => E0) (tCons (mVar 7) (tCons (mVar 4) (tNil)))) (tNil)))))) (gName 8)) (tDrop (tBM K "list" rAppend (mVar 5) (tCons (tTup (tCons (mVar 7) (tCons (mVar 8) (tNil)))) (tNil))))))) (R_law_7 K A)
noncomputable def R_law_5 (K : PySem.W.Frag) (A : Adr) : TS := tSeq (tAsg (tLst (tNil)) (gName 5)) (R_law_6 K A)
noncomputable def R_law_4 (K : PySem.W.Frag) (A : Adr) : TS := tSeq (tAsg (tCallX (sp__law_place K A) (fun _ => E0) (tCons (mVar 3) (tCons (tC (.int 0)) (tNil)))) (gName 4)) (R_law_5 K A)
noncomputable def R_law_3 (K : PySem.W.Frag) (A : Adr) : TS := tSeq (tAsg (tSl (rSlA K) (mVar 3) (tNoPart) (tPart (tOp (mMod) (tCallX (sp__law_at K A) (fun _ => E0) (tCons (mVar 0) (tCons (tC (.int 3)) (tNil)))) (tOp (mAddG K) (tCB (kLenA K) (tCons (mVar 3) (tNil))) (tC (.int 1)))))) (gName 3)) (R_law_4 K A)
noncomputable def R_law_2 (K : PySem.W.Frag) (A : Adr) : TS := tSeq (tAsg (tCallX (sp__law_steps K A) (fun _ => E0) (tCons (tCallX (sp__law_at K A) (fun _ => E0) (tCons (mVar 0) (tCons (tC (.int 2)) (tNil)))) (tCons (tC (.int 0)) (tCons (mVar 1) (tNil))))) (gName 3)) (R_law_3 K A)
noncomputable def R_law_1 (K : PySem.W.Frag) (A : Adr) : TS := tSeq (tAsg (tCallX (sp__law_key K A) (fun _ => E0) (tCons (mVar 1) (tCons (tCallX (sp__law_at K A) (fun _ => E0) (tCons (mVar 0) (tCons (tC (.int 1)) (tNil)))) (tCons (tLst (tNil)) (tNil))))) (gName 2)) (R_law_2 K A)
noncomputable def T_law (K : PySem.W.Frag) (A : Adr) : TS := tSeq (tAsg (tCallX (sp__law_bits K A) (fun _ => E0) (tCons (tCallX (sp__law_at K A) (fun _ => E0) (tCons (mVar 0) (tCons (tC (.int 0)) (tNil)))) (tNil))) (gName 1)) (tSeq (tAsg (tCallX (sp__law_key K A) (fun _ => E0) (tCons (mVar 1) (tCons (tCallX (sp__law_at K A) (fun _ => E0) (tCons (mVar 0) (tCons (tC (.int 1)) (tNil)))) (tCons (tLst (tNil)) (tNil))))) (gName 2)) (tSeq (tAsg (tCallX (sp__law_steps K A) (fun _ => E0) (tCons (tCallX (sp__law_at K A) (fun _ => E0) (tCons (mVar 0) (tCons (tC (.int 2)) (tNil)))) (tCons (tC (.int 0)) (tCons (mVar 1) (tNil))))) (gName 3)) (tSeq (tAsg (tSl (rSlA K) (mVar 3) (tNoPart) (tPart (tOp (mMod) (tCallX (sp__law_at K A) (fun _ => E0) (tCons (mVar 0) (tCons (tC (.int 3)) (tNil)))) (tOp (mAddG K) (tCB (kLenA K) (tCons (mVar 3) (tNil))) (tC (.int 1)))))) (gName 3)) (tSeq (tAsg (tCallX (sp__law_place K A) (fun _ => E0) (tCons (mVar 3) (tCons (tC (.int 0)) (tNil)))) (gName 4)) (tSeq (tAsg (tLst (tNil)) (gName 5)) (tSeq (tFor (iRng1 (tCons (tOp (mAddG K) (tC (.int 2)) (tCB (kMin) (tCons (tC (.int 3)) (tCons (tOp (mFdivB) (tCB (kMax) (tCons (tC (.int 0)) (tCons (tOp (mSub) (tCB (kLenA K) (tCons (mVar 0) (tNil))) (tC (.int 8))) (tNil)))) (tC (.int 2))) (tNil))))) (tNil))) (gName 6) (tSeq (tAsg (tCallX (sp__law_steps K A) (fun _ => E0) (tCons (tCallX (sp__law_at K A) (fun _ => E0) (tCons (mVar 0) (tCons (tOp (mAddG K) (tC (.int 4)) (tOp (mMulB) (tC (.int 2)) (mVar 6))) (tNil)))) (tCons (mVar 4) (tCons (mVar 1) (tNil))))) (gName 7)) (tSeq (tAsg (tCallX (sp__law_end K A) (fun _ => E0) (tCons (tCallX (sp__law_at K A) (fun _ => E0) (tCons (mVar 0) (tCons (tOp (mAddG K) (tC (.int 5)) (tOp (mMulB) (tC (.int 2)) (mVar 6))) (tNil)))) (tCons (mVar 1) (tCons (mVar 2) (tCons (tCallX (sp__law_place K A) (fun _ => E0) (tCons (mVar 7) (tCons (mVar 4) (tNil)))) (tNil)))))) (gName 8)) (tDrop (tBM K "list" rAppend (mVar 5) (tCons (tTup (tCons (mVar 7) (tCons (mVar 8) (tNil)))) (tNil))))))) (tSeq (tFor (iRng1 (tCons (tCB (kLenA K) (tCons (mVar 5) (tNil))) (tNil))) (gName 6) (mIfS (tNot (mTru K (tCallX (sp__law_pair_right K A) (fun _ => E0) (tCons (mVar 1) (tCons (mVar 2) (tCons (mVar 3) (tCons (tOp (rIxA K) (mVar 5) (tOp (mSub) (mVar 6) (tC (.int 1)))) (tCons (tOp (rIxA K) (mVar 5) (mVar 6)) (tCons (tOp (mFdivB) (tCallX (sp__law_at K A) (fun _ => E0) (tCons (mVar 0) (tCons (tC (.int 3)) (tNil)))) (tC (.int 64))) (tNil)))))))))) (tRet (tC (.bl false))) (tNext))) (tRet (tC (.bl true))))))))))
end Rs
namespace Rs
open PySem PySem.Spec PyProof.Rows L2
theorem tm__law_sure__c0 {P : Program} {w : World} {K : PySem.W.Frag} {mg : Str → Option Value} {base : Heap} {A : Adr} (T : Txt K mg A)  (f c : Addr) (cl : List (Str × Addr)) (Ar : Around) (outer : List Env) (s : Shared) (H : Hp) (E : XK)
    (hr : Room 0 (Ar.deeper (PySem.W.envX ct__law_sure__c0.qual ct__law_sure__c0.scope s.heap.objs.size f (.ref c) cl))) : PSs (cxClo P w K mg base ["_law_term", "_law_known", "_law_first"] ct__law_sure__c0.qual ct__law_sure__c0.scope f c cl Ar outer s H E).nox (defBody e__law_sure__c0) (T__law_sure__c0 K A) := QSs.out (
  x_sone (x_ret (x_bm PySem.F.plainAttrs_dict PySem.F.slot_dict_setdefault PySem.F.type_dict_setdefault (mt_setdef hr.units1) (x_var 1) (x_cons (x_var 0) (x_cons (x_op oAddG (x_op oMulB (x_int) (x_callB cLenA T.z_len PySem.boot_len (x_cons (x_var 1) (x_nil)))) (x_var 2)) (x_nil))))))
theorem tm__law_planted__c0 {P : Program} {w : World} {K : PySem.W.Frag} {mg : Str → Option Value} {base : Heap} {A : Adr} (T : Txt K mg A) (HK1_0 : KindsOk P w K mg base 1 (Knd1_0 K A)) (f c : Addr) (cl : List (Str × Addr)) (Ar : Around) (outer : List Env) (s : Shared) (H : Hp) (E : XK)
    (hr : Room 1 (Ar.deeper (PySem.W.envX ct__law_planted__c0.qual ct__law_planted__c0.scope s.heap.objs.size f (.ref c) cl))) : PSs (cxClo P w K mg base ["_law_term", "_law_sure_one", "_law_other", "_law_one"] ct__law_planted__c0.qual ct__law_planted__c0.scope f c cl Ar outer s H E).nox (defBody e__law_planted__c0) (T__law_planted__c0 K A) := QSs.out (
  x_scons (x_ifS (x_tcmp (oEqC hr.units150) (x_var 0) (x_var 2)) (x_sone (x_ret (x_held HK1_0 (hr.mono (by decide)) passF (x_var 1) (x_cons (x_var 3) (x_nil))))) (x_snil)) (x_sone (x_ret (x_held HK1_0 (hr.mono (by decide)) passF (x_var 1) (x_cons (x_var 0) (x_nil))))))
theorem tm__law_bits {P : Program} {w : World} {K : PySem.W.Frag} {mg : Str → Option Value} {base : Heap} {A : Adr} (T : Txt K mg A)  (cdv : Value) (Ar : Around) (outer : List Env) (s : Shared) (H : Hp) (E : XK)
    (hr : Room 0 (Ar.deeper (envOfC "_law_bits" (defScope s__law_bits) s.heap.objs.size A.a__law_bits cdv))) : PSs (cxOf (CX1 P w) P w K mg base ["_law_cell"] "_law_bits" (defScope s__law_bits) A.a__law_bits cdv Ar outer s H E).nox (defBody s__law_bits) (T__law_bits K A) := QSs.out (
  x_sone (x_ret (x_op oAddG (x_int) (x_op oMod (x_op oFdivB (x_var 0) (x_int)) (x_ix (ix_any hr.units1) (x_lst (x_cons (x_int) (x_cons (x_int) (x_cons (x_int) (x_nil))))) (x_op oMod (x_var 0) (x_int)) (fun _ _ => rfl))))))
theorem tm__law_at {P : Program} {w : World} {K : PySem.W.Frag} {mg : Str → Option Value} {base : Heap} {A : Adr} (T : Txt K mg A)  (cdv : Value) (Ar : Around) (outer : List Env) (s : Shared) (H : Hp) (E : XK)
    (hr : Room 0 (Ar.deeper (envOfC "_law_at" (defScope s__law_at) s.heap.objs.size A.a__law_at cdv))) : PSs (cxOf (CX1 P w) P w K mg base ["_law_script", "_law_k", "_law_number_here", "_law_cell"] "_law_at" (defScope s__law_at) A.a__law_at cdv Ar outer s H E).nox (defBody s__law_at) (T__law_at K A) := QSs.out (
  x_scons (x_ifS (x_tcmp oLt (x_var 1) (x_callB cLenA T.z_len PySem.boot_len (x_cons (x_var 0) (x_nil)))) (x_sone (x_ret (x_ix (ix_any hr.units1) (x_var 0) (x_var 1) (fun _ _ => rfl)))) (x_snil)) (x_scons (x_set 2 sc__law_at.nd (x_op oAddG (x_int) (x_callB cLenA T.z_len PySem.boot_len (x_cons (x_var 0) (x_nil))))) (x_scons (x_for 3 sc__law_at.nd (x_seqA (x_slice sl_all (x_var 0) (x_onone) (x_osome (x_int)))) (x_sone (x_set 2 sc__law_at.nd (x_op oMod (x_op oAddG (x_op oMulB (x_var 2) (x_int)) (x_var 3)) (x_int)))) PassesOwn.never) (x_scons (x_set 2 sc__law_at.nd (x_op oMod (x_op oAddG (x_var 2) (x_op oMulB (x_int) (x_var 1))) (x_int))) (x_sone (x_ret (x_op oMod (x_op oMulB (x_var 2) (x_var 2)) (x_int))))))))
theorem tm__law_key {P : Program} {w : World} {K : PySem.W.Frag} {mg : Str → Option Value} {base : Heap} {A : Adr} (T : Txt K mg A)  (cdv : Value) (Ar : Around) (outer : List Env) (s : Shared) (H : Hp) (E : XK)
    (hr : Room 0 (Ar.deeper (envOfC "_law_key" (defScope s__law_key) s.heap.objs.size A.a__law_key cdv))) : PSs (cxOf (CX1 P w) P w K mg base ["_law_bits_here", "_law_cell", "_law_others", "_law_many", "_law_number_here", "_law_flip"] "_law_key" (defScope s__law_key) A.a__law_key cdv Ar outer s H E).nox (defBody s__law_key) (T__law_key K A) := QSs.out (
  x_scons (x_set 3 sc__law_key.nd (x_op oShl (x_int) (x_var 0))) (x_scons (x_set 4 sc__law_key.nd (x_op oFdivB (x_var 1) (x_int))) (x_scons (x_ifS (x_tcmp (oEqC hr.units150) (x_op oMod (x_var 1) (x_int)) (x_int)) (x_sone (x_ret (x_op oMod (x_var 4) (x_var 3)))) (x_snil)) (x_scons (x_ifS (x_tcmp (oEqC hr.units150) (x_op oMod (x_var 1) (x_int)) (x_int)) (x_sone (x_ret (x_op oSub (x_op oSub (x_var 3) (x_int)) (x_op oMod (x_var 4) (x_var 3))))) (x_snil)) (x_scons (x_ifS (x_w (x_wand (x_tcmp (oEqC hr.units150) (x_op oMod (x_var 1) (x_int)) (x_int)) (x_wand1 (x_tcmp (oNeB hr.units150) (x_var 2) (x_lst (x_nil)))))) (x_scons (x_set 5 sc__law_key.nd (x_op oMod (x_op oMod (x_op oMulB (x_var 4) (x_int)) (x_int)) (x_var 0))) (x_sone (x_ret (x_op oXor (x_ix (ix_any hr.units1) (x_var 2) (x_op oMod (x_var 4) (x_callB cLenA T.z_len PySem.boot_len (x_cons (x_var 2) (x_nil)))) (fun _ _ => rfl)) (x_op oShl (x_int) (x_var 5)))))) (x_snil)) (x_sone (x_ret (x_op oMod (x_op oMulB (x_var 4) (x_int)) (x_var 3)))))))))
theorem tm__law_mark {P : Program} {w : World} {K : PySem.W.Frag} {mg : Str → Option Value} {base : Heap} {A : Adr} (T : Txt K mg A)  (cdv : Value) (Ar : Around) (outer : List Env) (s : Shared) (H : Hp) (E : XK)
    (hr : Room 0 (Ar.deeper (envOfC "_law_mark" (defScope s__law_mark) s.heap.objs.size A.a__law_mark cdv))) : PSs (cxOf (CX1 P w) P w K mg base ["_law_number_here"] "_law_mark" (defScope s__law_mark) A.a__law_mark cdv Ar outer s H E).nox (defBody s__law_mark) (T__law_mark K A) := QSs.out (
  x_scons (x_set 0 sc__law_mark.nd (x_op oMod (x_op oMulB (x_var 0) (x_int)) (x_int))) (x_scons (x_ifS (x_tcmp (oEqC hr.units150) (x_op oMod (x_var 0) (x_int)) (x_int)) (x_sone (x_ret (x_op oAddG (x_str) (x_callTy cStr T.z_str boot_str (x_cons (x_op oMod (x_var 0) (x_int)) (x_nil)))))) (x_snil)) (x_scons (x_ifS (x_tcmp (oEqC hr.units150) (x_op oMod (x_var 0) (x_int)) (x_int)) (x_sone (x_ret (x_op oMod (x_op oFdivB (x_var 0) (x_int)) (x_int)))) (x_snil)) (x_scons (x_ifS (x_tcmp (oEqC hr.units150) (x_op oMod (x_var 0) (x_int)) (x_int)) (x_sone (x_ret (x_op oMulB (x_var 0) (x_op oPow (x_int) (x_int))))) (x_snil)) (x_sone (x_ret (x_op oSub (x_op oSub (x_op oPow (x_int) (x_int)) (x_int)) (x_var 0))))))))
theorem tm__law_steps {P : Program} {w : World} {K : PySem.W.Frag} {mg : Str → Option Value} {base : Heap} {A : Adr} (T : Txt K mg A) (G__law_mark : FnOk P w K mg base (CX1 P w) 1 A.a__law_mark A.d__law_mark ["_law_number_here"] (sp__law_mark K A)) (cdv : Value) (Ar : Around) (outer : List Env) (s : Shared) (H : Hp) (E : XK)
    (hr : Room 1 (Ar.deeper (envOfC "_law_steps" (defScope s__law_steps) s.heap.objs.size A.a__law_steps cdv))) : PSs (cxOf (CX1 P w) P w K mg base ["_law_cell", "_law_low", "_law_bits_here", "_law_number_here", "_law_found", "_law_depth"] "_law_steps" (defScope s__law_steps) A.a__law_steps cdv Ar outer s H E).nox (defBody s__law_steps) (T__law_steps K A) := QSs.out (
  x_scons (x_set 3 sc__law_steps.nd (x_op oMod (x_op oFdivB (x_var 0) (x_int)) (x_int))) (x_scons (x_set 4 sc__law_steps.nd (x_lst (x_nil))) (x_scons (x_for 5 sc__law_steps.nd (x_range2 T.z_range (x_cons (x_var 1) (x_cons (x_var 2) (x_nil)))) (x_sone (x_ifS (x_tcmp oLt (x_op oMod (x_op oMod (x_op oMulB (x_op oMulB (x_var 3) (x_op oAddG (x_var 5) (x_int))) (x_int)) (x_int)) (x_int)) (x_op oMod (x_var 0) (x_int))) (x_sone (x_drop (x_bm PySem.F.plainAttrs_list PySem.F.slot_list_append PySem.F.type_list_append mt_append (x_var 4) (x_cons (x_tup (x_cons (x_var 5) (x_cons (x_callX G__law_mark (hr.mono (by decide)) T.m__law_mark T.f__law_mark.kp T.b__law_mark passF (x_cons (x_op oAddG (x_var 3) (x_op oMulB (x_int) (x_var 5))) (x_nil))) (x_nil)))) (x_nil))))) (x_snil))) PassesOwn.never) (x_sone (x_ret (x_callTy cTuple T.z_tuple boot_tuple (x_cons (x_var 4) (x_nil))))))))
theorem tm__law_place {P : Program} {w : World} {K : PySem.W.Frag} {mg : Str → Option Value} {base : Heap} {A : Adr} (T : Txt K mg A)  (cdv : Value) (Ar : Around) (outer : List Env) (s : Shared) (H : Hp) (E : XK)
    (hr : Room 0 (Ar.deeper (envOfC "_law_place" (defScope s__law_place) s.heap.objs.size A.a__law_place cdv))) : PSs (cxOf (CX1 P w) P w K mg base ["_law_steps_here", "_law_low"] "_law_place" (defScope s__law_place) A.a__law_place cdv Ar outer s H E).nox (defBody s__law_place) (T__law_place K A) := QSs.out (
  x_scons (x_ifS (x_tcmp (oEqC hr.units150) (x_var 0) (x_tup (x_nil))) (x_sone (x_ret (x_var 1))) (x_snil)) (x_sone (x_ret (x_op oAddG (x_ix (ix_any hr.units1) (x_ix (ix_any hr.units1) (x_var 0) (x_neg (x_int)) (fun _ _ => rfl)) (x_int) (fun _ _ => rfl)) (x_int)))))
theorem tm__law_text {P : Program} {w : World} {K : PySem.W.Frag} {mg : Str → Option Value} {base : Heap} {A : Adr} (T : Txt K mg A)  (cdv : Value) (Ar : Around) (outer : List Env) (s : Shared) (H : Hp) (E : XK)
    (hr : Room 0 (Ar.deeper (envOfC "_law_text" (defScope s__law_text) s.heap.objs.size A.a__law_text cdv))) : PSs (cxOf (CX1 P w) P w K mg base ["_law_cell", "_law_signs", "_law_size", "_law_made", "_law_k"] "_law_text" (defScope s__law_text) A.a__law_text cdv Ar outer s H E).nox (defBody s__law_text) (T__law_text K A) := QSs.out (
  x_scons (x_set 1 sc__law_text.nd (x_str)) (x_scons (x_set 1 sc__law_text.nd (x_op oAddG (x_var 1) (x_str))) (x_scons (x_set 2 sc__law_text.nd (x_op oMod (x_var 0) (x_int))) (x_scons (x_ifS (x_tcmp (oEqC hr.units150) (x_op oMod (x_op oFdivB (x_var 0) (x_int)) (x_int)) (x_int)) (x_sone (x_set 2 sc__law_text.nd (x_int))) (x_snil)) (x_scons (x_ifS (x_tcmp (oEqC hr.units150) (x_op oMod (x_op oFdivB (x_var 0) (x_int)) (x_int)) (x_int)) (x_sone (x_set 2 sc__law_text.nd (x_op oMod (x_op oFdivB (x_var 0) (x_int)) (x_int)))) (x_snil)) (x_scons (x_set 3 sc__law_text.nd (x_str)) (x_scons (x_for 4 sc__law_text.nd (x_range1 T.z_range (x_cons (x_var 2) (x_nil))) (x_sone (x_set 3 sc__law_text.nd (x_op oAddG (x_var 3) (x_ix (ix_any hr.units1) (x_var 1) (x_op oMod (x_op oAddG (x_op oFdivB (x_var 0) (x_int)) (x_op oMulB (x_var 4) (x_op oMod (x_op oFdivB (x_var 0) (x_int)) (x_int)))) (x_callB cLenA T.z_len PySem.boot_len (x_cons (x_var 1) (x_nil)))) (fun _ _ => rfl))))) PassesOwn.never) (x_sone (x_ret (x_var 3))))))))))
theorem tm__law_end {P : Program} {w : World} {K : PySem.W.Frag} {mg : Str → Option Value} {base : Heap} {A : Adr} (T : Txt K mg A) (G__law_mark : FnOk P w K mg base (CX1 P w) 1 A.a__law_mark A.d__law_mark ["_law_number_here"] (sp__law_mark K A)) (G__law_text : FnOk P w K mg base (CX1 P w) 1 A.a__law_text A.d__law_text ["_law_cell"] (sp__law_text K A)) (cdv : Value) (Ar : Around) (outer : List Env) (s : Shared) (H : Hp) (E : XK)
    (hr : Room 1 (Ar.deeper (envOfC "_law_end" (defScope s__law_end) s.heap.objs.size A.a__law_end cdv))) : PSs (cxOf (CX1 P w) P w K mg base ["_law_cell", "_law_bits_here", "_law_key_here", "_law_low", "_law_number_here", "_law_depth", "_law_own", "_law_wide", "_law_rest", "_law_free"] "_law_end" (defScope s__law_end) A.a__law_end cdv Ar outer s H E).nox (defBody s__law_end) (T__law_end K A) := QSs.out (
  x_scons (x_set 4 sc__law_end.nd (x_op oFdivB (x_var 0) (x_int))) (x_scons (x_ifS (x_w (x_wand (x_tcmp (oEqC hr.units150) (x_op oMod (x_var 0) (x_int)) (x_int)) (x_wand1 (x_tcmp (oEqC hr.units150) (x_var 3) (x_int))))) (x_sone (x_ret (x_tup (x_cons (x_str) (x_nil))))) (x_snil)) (x_scons (x_ifS (x_w (x_wand (x_tcmp (oEqC hr.units150) (x_op oMod (x_var 0) (x_int)) (x_int)) (x_wand1 (x_tcmp oLt (x_op oAddG (x_var 3) (x_int)) (x_var 1))))) (x_scons (x_set 5 sc__law_end.nd (x_op oAddG (x_op oAddG (x_var 3) (x_int)) (x_op oMod (x_var 4) (x_op oSub (x_op oSub (x_var 1) (x_int)) (x_var 3))))) (x_scons (x_set 6 sc__law_end.nd (x_op oShr (x_var 2) (x_op oSub (x_var 1) (x_var 5)))) (x_scons (x_set 7 sc__law_end.nd (x_op oShl (x_int) (x_op oSub (x_var 5) (x_var 3)))) (x_scons (x_set 8 sc__law_end.nd (x_op oMod (x_op oAddG (x_op oAddG (x_op oMod (x_var 6) (x_var 7)) (x_int)) (x_op oMod (x_op oMulB (x_var 4) (x_int)) (x_op oSub (x_var 7) (x_int)))) (x_var 7))) (x_sone (x_ret (x_tup (x_cons (x_str) (x_cons (x_var 5) (x_cons (x_op oAddG (x_op oSub (x_var 6) (x_op oMod (x_var 6) (x_var 7))) (x_var 8)) (x_cons (x_callX G__law_mark (hr.mono (by decide)) T.m__law_mark T.f__law_mark.kp T.b__law_mark passF (x_cons (x_var 4) (x_nil))) (x_cons (x_callX G__law_mark (hr.mono (by decide)) T.m__law_mark T.f__law_mark.kp T.b__law_mark passF (x_cons (x_op oAddG (x_op oFdivB (x_var 4) (x_int)) (x_int)) (x_nil))) (x_nil))))))))))))) (x_snil)) (x_scons (x_set 9 sc__law_end.nd (x_op oShl (x_int) (x_op oSub (x_var 1) (x_var 3)))) (x_scons (x_ifS (x_tcmp (oEqC hr.units150) (x_op oMod (x_var 0) (x_int)) (x_int)) (x_sone (x_ret (x_tup (x_cons (x_str) (x_cons (x_var 2) (x_cons (x_callX G__law_text (hr.mono (by decide)) T.m__law_text T.f__law_text.kp T.b__law_text passF (x_cons (x_var 4) (x_nil))) (x_nil))))))) (x_snil)) (x_sone (x_ret (x_tup (x_cons (x_str) (x_cons (x_op oAddG (x_op oSub (x_var 2) (x_op oMod (x_var 2) (x_var 9))) (x_op oMod (x_op oMulB (x_var 4) (x_int)) (x_var 9))) (x_cons (x_callX G__law_text (hr.mono (by decide)) T.m__law_text T.f__law_text.kp T.b__law_text passF (x_cons (x_op oFdivB (x_var 4) (x_int)) (x_nil))) (x_nil))))))))))))
theorem tm__law_sure {P : Program} {w : World} {K : PySem.W.Frag} {mg : Str → Option Value} {base : Heap} {A : Adr} (T : Txt K mg A) (B : BM mg base) (C : PySem.W.CodeHd base A.k__law_sure A.t__law_sure)  (Ar : Around) (outer : List Env) (s : Shared) (H : Hp) (E : XK)
    (hr : Room 0 (Ar.deeper (envOfC "_law_sure" (defScope s__law_sure) s.heap.objs.size A.a__law_sure (.ref A.k__law_sure)))) : QMs (cxOf (CX1 P w) P w K mg base ["_law_first", "_law_known", "_law_number"] "_law_sure" (defScope s__law_sure) A.a__law_sure (.ref A.k__law_sure) Ar outer s H E).nox (defBody s__law_sure) (T__law_sure K A (s.heap.objs.size + 1) (s.heap.objs.size + 1 + 1)) := (
  y_cons (y_lift (x_set 1 sc__law_sure.nd (x_dnewA))) (y_cons (y_lift (x_def 2 sc__law_sure.nd B C rfl (by rfl) (by simp) rfl rfl rfl rfl (fun _ _ _ _ _ us hl => by obtain ⟨_, rfl⟩ := L2.len1x hl; rfl))) (y_one (y_ret (x_var 2)))))
theorem tm__law_terms {P : Program} {w : World} {K : PySem.W.Frag} {mg : Str → Option Value} {base : Heap} {A : Adr} (T : Txt K mg A) (HK1 : KindsOk P w K mg base 2 (Knd1 K A)) (cdv : Value) (Ar : Around) (outer : List Env) (s : Shared) (H : Hp) (E : XK)
    (hr : Room 2 (Ar.deeper (envOfC "_law_terms" (defScope s__law_terms) s.heap.objs.size A.a__law_terms cdv))) : PSs (cxOf (CX1 P w) P w K mg base ["_law_stamper", "_law_bits_here", "_law_key_here", "_law_slip", "_law_terms_here", "_law_depth", "_law_mark_here", "_law_below", "_law_begin"] "_law_terms" (defScope s__law_terms) A.a__law_terms cdv Ar outer s H E).nox (defBody s__law_terms) (T__law_terms K A) := QSs.out (
  x_scons (x_set 4 sc__law_terms.nd (x_lst (x_cons (x_ix (ix_any hr.units1) (x_var 3) (x_int) (fun _ _ => rfl)) (x_nil)))) (x_scons (x_for2 5 6 sc__law_terms.nd (x_rev T.z_reversed (x_cons (x_ix (ix_any hr.units1) (x_var 3) (x_int) (fun _ _ => rfl)) (x_nil))) (x_scons (x_set 7 sc__law_terms.nd (x_held HK1 (hr.mono (by decide)) passF (x_var 0) (x_cons (x_ix (ix_any hr.units1) (x_var 4) (x_neg (x_int)) (fun _ _ => rfl)) (x_nil)))) (x_scons (x_set 8 sc__law_terms.nd (x_op oFdivB (x_var 2) (x_op oShl (x_int) (x_op oSub (x_var 1) (x_var 5))))) (x_sone (x_ifS (x_tcmp (oEqC hr.units150) (x_op oMod (x_op oFdivB (x_var 2) (x_op oShl (x_int) (x_op oSub (x_op oSub (x_var 1) (x_var 5)) (x_int)))) (x_int)) (x_int)) (x_sone (x_drop (x_bm PySem.F.plainAttrs_list PySem.F.slot_list_append PySem.F.type_list_append mt_append (x_var 4) (x_cons (x_tup (x_cons (x_str) (x_cons (x_var 5) (x_cons (x_var 8) (x_cons (x_var 7) (x_cons (x_var 6) (x_nil))))))) (x_nil))))) (x_sone (x_drop (x_bm PySem.F.plainAttrs_list PySem.F.slot_list_append PySem.F.type_list_append mt_append (x_var 4) (x_cons (x_tup (x_cons (x_str) (x_cons (x_var 5) (x_cons (x_var 8) (x_cons (x_var 6) (x_cons (x_var 7) (x_nil))))))) (x_nil))))))))) PassesOwn.never) (x_sone (x_ret (x_var 4)))))
theorem tm__law_planted {P : Program} {w : World} {K : PySem.W.Frag} {mg : Str → Option Value} {base : Heap} {A : Adr} (T : Txt K mg A) (B : BM mg base) (C : PySem.W.CodeHd base A.k__law_planted A.t__law_planted)  (Ar : Around) (outer : List Env) (s : Shared) (H : Hp) (E : XK)
    (hr : Room 0 (Ar.deeper (envOfC "_law_planted" (defScope s__law_planted) s.heap.objs.size A.a__law_planted (.ref A.k__law_planted)))) : QMs (cxOf (CX1 P w) P w K mg base ["_law_sure_one", "_law_one", "_law_other", "_law_number"] "_law_planted" (defScope s__law_planted) A.a__law_planted (.ref A.k__law_planted) Ar outer s H E).nox (defBody s__law_planted) (T__law_planted K A (s.heap.objs.size + 1) (s.heap.objs.size + 1 + 1) (s.heap.objs.size + 1 + 1 + 1)) := (
  y_cons (y_lift (x_def 3 sc__law_planted.nd B C rfl (by rfl) (by simp) rfl rfl rfl rfl (fun _ _ _ _ _ us hl => by obtain ⟨_, rfl⟩ := L2.len1x hl; rfl))) (y_one (y_ret (x_var 3))))
theorem tm__law_part_alike {P : Program} {w : World} {K : PySem.W.Frag} {mg : Str → Option Value} {base : Heap} {A : Adr} (T : Txt K mg A)  (cdv : Value) (Ar : Around) (outer : List Env) (s : Shared) (H : Hp) (E : XK)
    (hr : Room 0 (Ar.deeper (envOfC "_law_part_alike" (defScope s__law_part_alike) s.heap.objs.size A.a__law_part_alike cdv))) : PSs (cxOf (CX1 P w) P w K mg base ["_law_found", "_law_due"] "_law_part_alike" (defScope s__law_part_alike) A.a__law_part_alike cdv Ar outer s H E).nox (defBody s__law_part_alike) (T__law_part_alike K A) := QSs.out (
  x_scons (x_ifS (x_test (x_callB cIsi T.z_isinstance boot_isinstance (x_cons (x_var 1) (x_cons (x_ty T.z_str boot_str) (x_nil))))) (x_sone (x_ret (x_and (x_callB cIsi T.z_isinstance boot_isinstance (x_cons (x_var 0) (x_cons (x_ty T.z_str boot_str) (x_nil)))) (x_one (x_cmp (oEqC hr.units150) (x_var 0) (x_var 1)))))) (x_snil)) (x_sone (x_ret (x_and (x_callB cIsi T.z_isinstance boot_isinstance (x_cons (x_var 0) (x_cons (x_ty T.z_int boot_int) (x_nil)))) (x_and (x_not (x_callB cIsi T.z_isinstance boot_isinstance (x_cons (x_var 0) (x_cons (x_ty T.z_bool boot_bool) (x_nil))))) (x_one (x_cmp (oEqC hr.units150) (x_var 0) (x_var 1))))))))
theorem tm_is_whole {P : Program} {w : World} {K : PySem.W.Frag} {mg : Str → Option Value} {base : Heap} {A : Adr} (T : Txt K mg A)  (cdv : Value) (Ar : Around) (outer : List Env) (s : Shared) (H : Hp) (E : XK)
    (hr : Room 0 (Ar.deeper (envOfC "is_whole" (defScope s_is_whole) s.heap.objs.size A.a_is_whole cdv))) : PSs (cxOf (CX1 P w) P w K mg base ["thing"] "is_whole" (defScope s_is_whole) A.a_is_whole cdv Ar outer s H E).nox (defBody s_is_whole) (T_is_whole K A) := QSs.out (
  x_sone (x_ret (x_and (x_callB cIsi T.z_isinstance boot_isinstance (x_cons (x_var 0) (x_cons (x_ty T.z_int boot_int) (x_nil)))) (x_one (x_not (x_callB cIsi T.z_isinstance boot_isinstance (x_cons (x_var 0) (x_cons (x_ty T.z_bool boot_bool) (x_nil)))))))))
theorem tm_is_key {P : Program} {w : World} {K : PySem.W.Frag} {mg : Str → Option Value} {base : Heap} {A : Adr} (T : Txt K mg A) (G_is_whole : FnOk P w K mg base (CX1 P w) 1 A.a_is_whole A.d_is_whole ["thing"] (sp_is_whole K A)) (cdv : Value) (Ar : Around) (outer : List Env) (s : Shared) (H : Hp) (E : XK)
    (hr : Room 1 (Ar.deeper (envOfC "is_key" (defScope s_is_key) s.heap.objs.size A.a_is_key cdv))) : PSs (cxOf (CX1 P w) P w K mg base ["bits", "thing"] "is_key" (defScope s_is_key) A.a_is_key cdv Ar outer s H E).nox (defBody s_is_key) (T_is_key K A) := QSs.out (
  x_sone (x_ret (x_and (x_callX G_is_whole (hr.mono (by decide)) T.m_is_whole T.f_is_whole.kp T.b_is_whole passF (x_cons (x_var 1) (x_nil))) (x_one (x_chain oLe oLt (x_int) (x_var 1) (x_op oShl (x_int) (x_var 0)))))))
theorem tm_is_stamp {P : Program} {w : World} {K : PySem.W.Frag} {mg : Str → Option Value} {base : Heap} {A : Adr} (T : Txt K mg A) (G_is_whole : FnOk P w K mg base (CX1 P w) 1 A.a_is_whole A.d_is_whole ["thing"] (sp_is_whole K A)) (cdv : Value) (Ar : Around) (outer : List Env) (s : Shared) (H : Hp) (E : XK)
    (hr : Room 1 (Ar.deeper (envOfC "is_stamp" (defScope s_is_stamp) s.heap.objs.size A.a_is_stamp cdv))) : PSs (cxOf (CX1 P w) P w K mg base ["thing"] "is_stamp" (defScope s_is_stamp) A.a_is_stamp cdv Ar outer s H E).nox (defBody s_is_stamp) (T_is_stamp K A) := QSs.out (
  x_scons (x_ifS (x_test (x_callX G_is_whole (hr.mono (by decide)) T.m_is_whole T.f_is_whole.kp T.b_is_whole passF (x_cons (x_var 0) (x_nil)))) (x_sone (x_ret (x_chain oLe oLt (x_int) (x_var 0) (x_op oPow (x_int) (x_int))))) (x_snil)) (x_sone (x_ret (x_callB cIsi T.z_isinstance boot_isinstance (x_cons (x_var 0) (x_cons (x_ty T.z_str boot_str) (x_nil)))))))
theorem tm_is_step {P : Program} {w : World} {K : PySem.W.Frag} {mg : Str → Option Value} {base : Heap} {A : Adr} (T : Txt K mg A) (G_is_whole : FnOk P w K mg base (CX1 P w) 1 A.a_is_whole A.d_is_whole ["thing"] (sp_is_whole K A)) (G_is_stamp : FnOk P w K mg base (CX1 P w) 2 A.a_is_stamp A.d_is_stamp ["thing"] (sp_is_stamp K A)) (cdv : Value) (Ar : Around) (outer : List Env) (s : Shared) (H : Hp) (E : XK)
    (hr : Room 2 (Ar.deeper (envOfC "is_step" (defScope s_is_step) s.heap.objs.size A.a_is_step cdv))) : PSs (cxOf (CX1 P w) P w K mg base ["bits", "least", "thing"] "is_step" (defScope s_is_step) A.a_is_step cdv Ar outer s H E).nox (defBody s_is_step) (T_is_step K A) := QSs.out (
  x_scons (x_ifS (x_w (x_wor (x_tnot (x_test (x_callB cIsi T.z_isinstance boot_isinstance (x_cons (x_var 2) (x_cons (x_ty T.z_tuple boot_tuple) (x_nil)))))) (x_wor1 (x_tcmp (oNeB hr.units150) (x_callB cLenA T.z_len PySem.boot_len (x_cons (x_var 2) (x_nil))) (x_int))))) (x_sone (x_ret (x_bl))) (x_snil)) (x_sone (x_ret (x_and (x_callX G_is_whole (hr.mono (by decide)) T.m_is_whole T.f_is_whole.kp T.b_is_whole passF (x_cons (x_ix (ix_any hr.units1) (x_var 2) (x_int) (fun _ _ => rfl)) (x_nil))) (x_and (x_chain oLe oLt (x_var 1) (x_ix (ix_any hr.units1) (x_var 2) (x_int) (fun _ _ => rfl)) (x_var 0)) (x_one (x_callX G_is_stamp (hr.mono (by decide)) T.m_is_stamp T.f_is_stamp.kp T.b_is_stamp passF (x_cons (x_ix (ix_any hr.units1) (x_var 2) (x_int) (fun _ _ => rfl)) (x_nil)))))))))
theorem tm_are_steps {P : Program} {w : World} {K : PySem.W.Frag} {mg : Str → Option Value} {base : Heap} {A : Adr} (T : Txt K mg A) (G_is_step : FnOk P w K mg base (CX1 P w) 3 A.a_is_step A.d_is_step ["bits", "least", "thing"] (sp_is_step K A)) (cdv : Value) (Ar : Around) (outer : List Env) (s : Shared) (H : Hp) (E : XK)
    (hr : Room 3 (Ar.deeper (envOfC "are_steps" (defScope s_are_steps) s.heap.objs.size A.a_are_steps cdv))) : PSs (cxOf (CX1 P w) P w K mg base ["bits", "thing", "least", "step"] "are_steps" (defScope s_are_steps) A.a_are_steps cdv Ar outer s H E).nox (defBody s_are_steps) (T_are_steps K A) := QSs.out (
  x_scons (x_ifS (x_tnot (x_test (x_callB cIsi T.z_isinstance boot_isinstance (x_cons (x_var 1) (x_cons (x_ty T.z_tuple boot_tuple) (x_nil)))))) (x_sone (x_ret (x_bl))) (x_snil)) (x_scons (x_set 2 sc_are_steps.nd (x_int)) (x_scons (x_for 3 sc_are_steps.nd (x_seqA (x_var 1)) (x_scons (x_ifS (x_tnot (x_test (x_callX G_is_step (hr.mono (by decide)) T.m_is_step T.f_is_step.kp T.b_is_step passF (x_cons (x_var 0) (x_cons (x_var 2) (x_cons (x_var 3) (x_nil))))))) (x_sone (x_ret (x_bl))) (x_snil)) (x_sone (x_set 2 sc_are_steps.nd (x_op oAddG (x_ix (ix_any hr.units1) (x_var 3) (x_int) (fun _ _ => rfl)) (x_int))))) PassesOwn.never) (x_sone (x_ret (x_bl))))))
theorem tm_start {P : Program} {w : World} {K : PySem.W.Frag} {mg : Str → Option Value} {base : Heap} {A : Adr} (T : Txt K mg A)  (cdv : Value) (Ar : Around) (outer : List Env) (s : Shared) (H : Hp) (E : XK)
    (hr : Room 0 (Ar.deeper (envOfC "start" (defScope s_start) s.heap.objs.size A.a_start cdv))) : PSs (cxOf (CX1 P w) P w K mg base ["bits", "key", "depth"] "start" (defScope s_start) A.a_start cdv Ar outer s H E).nox (defBody s_start) (T_start K A) := QSs.out (
  x_sone (x_ret (x_op oShr (x_var 1) (x_op oSub (x_var 0) (x_var 2)))))
theorem tm_is_value {P : Program} {w : World} {K : PySem.W.Frag} {mg : Str → Option Value} {base : Heap} {A : Adr} (T : Txt K mg A)  (cdv : Value) (Ar : Around) (outer : List Env) (s : Shared) (H : Hp) (E : XK)
    (hr : Room 0 (Ar.deeper (envOfC "is_value" (defScope s_is_value) s.heap.objs.size A.a_is_value cdv))) : PSs (cxOf (CX1 P w) P w K mg base ["thing"] "is_value" (defScope s_is_value) A.a_is_value cdv Ar outer s H E).nox (defBody s_is_value) (T_is_value K A) := QSs.out (
  x_sone (x_ret (x_and (x_callB cIsi T.z_isinstance boot_isinstance (x_cons (x_var 0) (x_cons (x_ty T.z_str boot_str) (x_nil)))) (x_one (x_cmp oLe (x_callB cLenA T.z_len PySem.boot_len (x_cons (x_var 0) (x_nil))) (x_gi T.c_MOST_SIGNS))))))
theorem tm_is_leaf {P : Program} {w : World} {K : PySem.W.Frag} {mg : Str → Option Value} {base : Heap} {A : Adr} (T : Txt K mg A) (G_is_key : FnOk P w K mg base (CX1 P w) 2 A.a_is_key A.d_is_key ["bits", "thing"] (sp_is_key K A)) (G_is_value : FnOk P w K mg base (CX1 P w) 1 A.a_is_value A.d_is_value ["thing"] (sp_is_value K A)) (G_start : FnOk P w K mg base (CX1 P w) 1 A.a_start A.d_start ["bits", "key", "depth"] (sp_start K A)) (cdv : Value) (Ar : Around) (outer : List Env) (s : Shared) (H : Hp) (E : XK)
    (hr : Room 2 (Ar.deeper (envOfC "is_leaf" (defScope s_is_leaf) s.heap.objs.size A.a_is_leaf cdv))) : PSs (cxOf (CX1 P w) P w K mg base ["bits", "depth", "begin", "thing"] "is_leaf" (defScope s_is_leaf) A.a_is_leaf cdv Ar outer s H E).nox (defBody s_is_leaf) (T_is_leaf K A) := QSs.out (
  x_scons (x_ifS (x_w (x_wor (x_tnot (x_test (x_callB cIsi T.z_isinstance boot_isinstance (x_cons (x_var 3) (x_cons (x_ty T.z_tuple boot_tuple) (x_nil)))))) (x_wor (x_tcmp (oNeB hr.units150) (x_callB cLenA T.z_len PySem.boot_len (x_cons (x_var 3) (x_nil))) (x_int)) (x_wor1 (x_tcmp (oNeB hr.units150) (x_ix (ix_any hr.units1) (x_var 3) (x_int) (fun _ _ => rfl)) (x_str)))))) (x_sone (x_ret (x_bl))) (x_snil)) (x_scons (x_ifS (x_w (x_wor (x_tnot (x_test (x_callX G_is_key (hr.mono (by decide)) T.m_is_key T.f_is_key.kp T.b_is_key passF (x_cons (x_var 0) (x_cons (x_ix (ix_any hr.units1) (x_var 3) (x_int) (fun _ _ => rfl)) (x_nil)))))) (x_wor1 (x_tnot (x_test (x_callX G_is_value (hr.mono (by decide)) T.m_is_value T.f_is_value.kp T.b_is_value passF (x_cons (x_ix (ix_any hr.units1) (x_var 3) (x_int) (fun _ _ => rfl)) (x_nil)))))))) (x_sone (x_ret (x_bl))) (x_snil)) (x_sone (x_ret (x_cmp (oEqC hr.units150) (x_callX G_start (hr.mono (by decide)) T.m_start T.f_start.kp T.b_start passF (x_cons (x_var 0) (x_cons (x_ix (ix_any hr.units1) (x_var 3) (x_int) (fun _ _ => rfl)) (x_cons (x_var 1) (x_nil))))) (x_var 2))))))
theorem tm_is_fork {P : Program} {w : World} {K : PySem.W.Frag} {mg : Str → Option Value} {base : Heap} {A : Adr} (T : Txt K mg A) (G_is_whole : FnOk P w K mg base (CX1 P w) 1 A.a_is_whole A.d_is_whole ["thing"] (sp_is_whole K A)) (cdv : Value) (Ar : Around) (outer : List Env) (s : Shared) (H : Hp) (E : XK)
    (hr : Room 1 (Ar.deeper (envOfC "is_fork" (defScope s_is_fork) s.heap.objs.size A.a_is_fork cdv))) : PSs (cxOf (CX1 P w) P w K mg base ["bits", "depth", "begin", "thing"] "is_fork" (defScope s_is_fork) A.a_is_fork cdv Ar outer s H E).nox (defBody s_is_fork) (T_is_fork K A) := QSs.out (
  x_scons (x_ifS (x_w (x_wor (x_tnot (x_test (x_callB cIsi T.z_isinstance boot_isinstance (x_cons (x_var 3) (x_cons (x_ty T.z_tuple boot_tuple) (x_nil)))))) (x_wor (x_tcmp (oNeB hr.units150) (x_callB cLenA T.z_len PySem.boot_len (x_cons (x_var 3) (x_nil))) (x_int)) (x_wor1 (x_tcmp (oNeB hr.units150) (x_ix (ix_any hr.units1) (x_var 3) (x_int) (fun _ _ => rfl)) (x_str)))))) (x_sone (x_ret (x_bl))) (x_snil)) (x_scons (x_ifS (x_w (x_wor (x_tnot (x_test (x_callX G_is_whole (hr.mono (by decide)) T.m_is_whole T.f_is_whole.kp T.b_is_whole passF (x_cons (x_ix (ix_any hr.units1) (x_var 3) (x_int) (fun _ _ => rfl)) (x_nil))))) (x_wor1 (x_tnot (x_tchain oLe oLt (x_var 1) (x_ix (ix_any hr.units1) (x_var 3) (x_int) (fun _ _ => rfl)) (x_var 0)))))) (x_sone (x_ret (x_bl))) (x_snil)) (x_scons (x_ifS (x_w (x_wor (x_tnot (x_test (x_callX G_is_whole (hr.mono (by decide)) T.m_is_whole T.f_is_whole.kp T.b_is_whole passF (x_cons (x_ix (ix_any hr.units1) (x_var 3) (x_int) (fun _ _ => rfl)) (x_nil))))) (x_wor1 (x_tnot (x_tchain oLe oLt (x_int) (x_ix (ix_any hr.units1) (x_var 3) (x_int) (fun _ _ => rfl)) (x_op oShl (x_int) (x_ix (ix_any hr.units1) (x_var 3) (x_int) (fun _ _ => rfl)))))))) (x_sone (x_ret (x_bl))) (x_snil)) (x_sone (x_ret (x_cmp (oEqC hr.units150) (x_op oShr (x_ix (ix_any hr.units1) (x_var 3) (x_int) (fun _ _ => rfl)) (x_op oSub (x_ix (ix_any hr.units1) (x_var 3) (x_int) (fun _ _ => rfl)) (x_var 1))) (x_var 2)))))))
theorem tm_is_end {P : Program} {w : World} {K : PySem.W.Frag} {mg : Str → Option Value} {base : Heap} {A : Adr} (T : Txt K mg A) (G_start : FnOk P w K mg base (CX1 P w) 1 A.a_start A.d_start ["bits", "key", "depth"] (sp_start K A)) (G_is_leaf : FnOk P w K mg base (CX1 P w) 3 A.a_is_leaf A.d_is_leaf ["bits", "depth", "begin", "thing"] (sp_is_leaf K A)) (G_is_fork : FnOk P w K mg base (CX1 P w) 2 A.a_is_fork A.d_is_fork ["bits", "depth", "begin", "thing"] (sp_is_fork K A)) (G_is_stamp : FnOk P w K mg base (CX1 P w) 2 A.a_is_stamp A.d_is_stamp ["thing"] (sp_is_stamp K A)) (cdv : Value) (Ar : Around) (outer : List Env) (s : Shared) (H : Hp) (E : XK)
    (hr : Room 3 (Ar.deeper (envOfC "is_end" (defScope s_is_end) s.heap.objs.size A.a_is_end cdv))) : PSs (cxOf (CX1 P w) P w K mg base ["bits", "key", "place", "thing", "begin"] "is_end" (defScope s_is_end) A.a_is_end cdv Ar outer s H E).nox (defBody s_is_end) (T_is_end K A) := QSs.out (
  x_scons (x_ifS (x_tcmp (oEqC hr.units150) (x_var 3) (x_tup (x_cons (x_str) (x_nil)))) (x_sone (x_ret (x_cmp (oEqC hr.units150) (x_var 2) (x_int)))) (x_snil)) (x_scons (x_set 4 sc_is_end.nd (x_callX G_start (hr.mono (by decide)) T.m_start T.f_start.kp T.b_start passF (x_cons (x_var 0) (x_cons (x_var 1) (x_cons (x_var 2) (x_nil)))))) (x_scons (x_ifS (x_test (x_callX G_is_leaf (hr.mono (by decide)) T.m_is_leaf T.f_is_leaf.kp T.b_is_leaf passF (x_cons (x_var 0) (x_cons (x_var 2) (x_cons (x_var 4) (x_cons (x_var 3) (x_nil))))))) (x_sone (x_ret (x_bl))) (x_snil)) (x_scons (x_ifS (x_tnot (x_test (x_callX G_is_fork (hr.mono (by decide)) T.m_is_fork T.f_is_fork.kp T.b_is_fork passF (x_cons (x_var 0) (x_cons (x_var 2) (x_cons (x_var 4) (x_cons (x_var 3) (x_nil)))))))) (x_sone (x_ret (x_bl))) (x_snil)) (x_scons (x_ifS (x_tcmp (oEqC hr.units150) (x_ix (ix_any hr.units1) (x_var 3) (x_int) (fun _ _ => rfl)) (x_callX G_start (hr.mono (by decide)) T.m_start T.f_start.kp T.b_start passF (x_cons (x_var 0) (x_cons (x_var 1) (x_cons (x_ix (ix_any hr.units1) (x_var 3) (x_int) (fun _ _ => rfl)) (x_nil)))))) (x_sone (x_ret (x_bl))) (x_snil)) (x_sone (x_ret (x_and (x_callX G_is_stamp (hr.mono (by decide)) T.m_is_stamp T.f_is_stamp.kp T.b_is_stamp passF (x_cons (x_ix (ix_any hr.units1) (x_var 3) (x_int) (fun _ _ => rfl)) (x_nil))) (x_one (x_callX G_is_stamp (hr.mono (by decide)) T.m_is_stamp T.f_is_stamp.kp T.b_is_stamp passF (x_cons (x_ix (ix_any hr.units1) (x_var 3) (x_int) (fun _ _ => rfl)) (x_nil))))))))))))
theorem tm_is_slip {P : Program} {w : World} {K : PySem.W.Frag} {mg : Str → Option Value} {base : Heap} {A : Adr} (T : Txt K mg A) (G_are_steps : FnOk P w K mg base (CX1 P w) 4 A.a_are_steps A.d_are_steps ["bits", "thing"] (sp_are_steps K A)) (G_is_end : FnOk P w K mg base (CX1 P w) 4 A.a_is_end A.d_is_end ["bits", "key", "place", "thing"] (sp_is_end K A)) (cdv : Value) (Ar : Around) (outer : List Env) (s : Shared) (H : Hp) (E : XK)
    (hr : Room 4 (Ar.deeper (envOfC "is_slip" (defScope s_is_slip) s.heap.objs.size A.a_is_slip cdv))) : PSs (cxOf (CX1 P w) P w K mg base ["bits", "key", "thing", "place"] "is_slip" (defScope s_is_slip) A.a_is_slip cdv Ar outer s H E).nox (defBody s_is_slip) (T_is_slip K A) := QSs.out (
  x_scons (x_ifS (x_w (x_wor (x_tnot (x_test (x_callB cIsi T.z_isinstance boot_isinstance (x_cons (x_var 2) (x_cons (x_ty T.z_tuple boot_tuple) (x_nil)))))) (x_wor1 (x_tcmp (oNeB hr.units150) (x_callB cLenA T.z_len PySem.boot_len (x_cons (x_var 2) (x_nil))) (x_int))))) (x_sone (x_ret (x_bl))) (x_snil)) (x_scons (x_ifS (x_tnot (x_test (x_callX G_are_steps (hr.mono (by decide)) T.m_are_steps T.f_are_steps.kp T.b_are_steps passF (x_cons (x_var 0) (x_cons (x_ix (ix_any hr.units1) (x_var 2) (x_int) (fun _ _ => rfl)) (x_nil)))))) (x_sone (x_ret (x_bl))) (x_snil)) (x_scons (x_set 3 sc_is_slip.nd (x_if (x_test (x_ix (ix_any hr.units1) (x_var 2) (x_int) (fun _ _ => rfl))) (x_op oAddG (x_ix (ix_any hr.units1) (x_ix (ix_any hr.units1) (x_ix (ix_any hr.units1) (x_var 2) (x_int) (fun _ _ => rfl)) (x_neg (x_int)) (fun _ _ => rfl)) (x_int) (fun _ _ => rfl)) (x_int)) (x_int))) (x_sone (x_ret (x_callX G_is_end (hr.mono (by decide)) T.m_is_end T.f_is_end.kp T.b_is_end passF (x_cons (x_var 0) (x_cons (x_var 1) (x_cons (x_var 3) (x_cons (x_ix (ix_any hr.units1) (x_var 2) (x_int) (fun _ _ => rfl)) (x_nil)))))))))))
theorem tm_side {P : Program} {w : World} {K : PySem.W.Frag} {mg : Str → Option Value} {base : Heap} {A : Adr} (T : Txt K mg A)  (cdv : Value) (Ar : Around) (outer : List Env) (s : Shared) (H : Hp) (E : XK)
    (hr : Room 0 (Ar.deeper (envOfC "side" (defScope s_side) s.heap.objs.size A.a_side cdv))) : PSs (cxOf (CX1 P w) P w K mg base ["bits", "key", "depth"] "side" (defScope s_side) A.a_side cdv Ar outer s H E).nox (defBody s_side) (T_side K A) := QSs.out (
  x_sone (x_ret (x_op oBAnd (x_op oShr (x_var 1) (x_op oSub (x_op oSub (x_var 0) (x_var 2)) (x_int))) (x_int))))
theorem tm_step_term {P : Program} {w : World} {K : PySem.W.Frag} {mg : Str → Option Value} {base : Heap} {A : Adr} (T : Txt K mg A) (G_start : FnOk P w K mg base (CX1 P w) 1 A.a_start A.d_start ["bits", "key", "depth"] (sp_start K A)) (G_side : FnOk P w K mg base (CX1 P w) 1 A.a_side A.d_side ["bits", "key", "depth"] (sp_side K A)) (cdv : Value) (Ar : Around) (outer : List Env) (s : Shared) (H : Hp) (E : XK)
    (hr : Room 1 (Ar.deeper (envOfC "step_term" (defScope s_step_term) s.heap.objs.size A.a_step_term cdv))) : PSs (cxOf (CX1 P w) P w K mg base ["bits", "key", "step", "mark", "depth", "begin"] "step_term" (defScope s_step_term) A.a_step_term cdv Ar outer s H E).nox (defBody s_step_term) (T_step_term K A) := QSs.out (
  x_scons (x_set 4 sc_step_term.nd (x_ix (ix_any hr.units1) (x_var 2) (x_int) (fun _ _ => rfl))) (x_scons (x_set 5 sc_step_term.nd (x_callX G_start (hr.mono (by decide)) T.m_start T.f_start.kp T.b_start passF (x_cons (x_var 0) (x_cons (x_var 1) (x_cons (x_var 4) (x_nil)))))) (x_scons (x_ifS (x_tcmp (oEqC hr.units150) (x_callX G_side (hr.mono (by decide)) T.m_side T.f_side.kp T.b_side passF (x_cons (x_var 0) (x_cons (x_var 1) (x_cons (x_var 4) (x_nil))))) (x_int)) (x_sone (x_ret (x_tup (x_cons (x_str) (x_cons (x_var 4) (x_cons (x_var 5) (x_cons (x_var 3) (x_cons (x_ix (ix_any hr.units1) (x_var 2) (x_int) (fun _ _ => rfl)) (x_nil))))))))) (x_snil)) (x_sone (x_ret (x_tup (x_cons (x_str) (x_cons (x_var 4) (x_cons (x_var 5) (x_cons (x_ix (ix_any hr.units1) (x_var 2) (x_int) (fun _ _ => rfl)) (x_cons (x_var 3) (x_nil))))))))))))
theorem tm_slip_terms {P : Program} {w : World} {K : PySem.W.Frag} {mg : Str → Option Value} {base : Heap} {A : Adr} (T : Txt K mg A) (G_is_key : FnOk P w K mg base (CX1 P w) 2 A.a_is_key A.d_is_key ["bits", "thing"] (sp_is_key K A)) (G_is_slip : FnOk P w K mg base (CX1 P w) 5 A.a_is_slip A.d_is_slip ["bits", "key", "thing"] (sp_is_slip K A)) (G_step_term : FnOk P w K mg base (CX1 P w) 2 A.a_step_term A.d_step_term ["bits", "key", "step", "mark"] (sp_step_term K A)) (HK1 : KindsOk P w K mg base 2 (Knd1 K A)) (cdv : Value) (Ar : Around) (outer : List Env) (s : Shared) (H : Hp) (E : XK)
    (hr : Room 5 (Ar.deeper (envOfC "slip_terms" (defScope s_slip_terms) s.heap.objs.size A.a_slip_terms cdv))) : PSs (cxOf (CX1 P w) P w K mg base ["stamper", "bits", "key", "slip", "terms", "step"] "slip_terms" (defScope s_slip_terms) A.a_slip_terms cdv Ar outer s H E).nox (defBody s_slip_terms) (T_slip_terms K A) := QSs.out (
  x_scons (x_ifS (x_tnot (x_test (x_callX G_is_key (hr.mono (by decide)) T.m_is_key T.f_is_key.kp T.b_is_key passF (x_cons (x_var 1) (x_cons (x_var 2) (x_nil)))))) (x_sone (x_never)) (x_snil)) (x_scons (x_ifS (x_tnot (x_test (x_callX G_is_slip (hr.mono (by decide)) T.m_is_slip T.f_is_slip.kp T.b_is_slip passF (x_cons (x_var 1) (x_cons (x_var 2) (x_cons (x_var 3) (x_nil))))))) (x_sone (x_never)) (x_snil)) (x_scons (x_set 4 sc_slip_terms.nd (x_lst (x_cons (x_ix (ix_any hr.units1) (x_var 3) (x_int) (fun _ _ => rfl)) (x_nil)))) (x_scons (x_for 5 sc_slip_terms.nd (x_rev T.z_reversed (x_cons (x_ix (ix_any hr.units1) (x_var 3) (x_int) (fun _ _ => rfl)) (x_nil))) (x_sone (x_drop (x_bm PySem.F.plainAttrs_list PySem.F.slot_list_append PySem.F.type_list_append mt_append (x_var 4) (x_cons (x_callX G_step_term (hr.mono (by decide)) T.m_step_term T.f_step_term.kp T.b_step_term passF (x_cons (x_var 1) (x_cons (x_var 2) (x_cons (x_var 5) (x_cons (x_held HK1 (hr.mono (by decide)) passF (x_var 0) (x_cons (x_ix (ix_any hr.units1) (x_var 4) (x_neg (x_int)) (fun _ _ => rfl)) (x_nil))) (x_nil)))))) (x_nil))))) PassesOwn.never) (x_sone (x_ret (x_var 4)))))))
theorem tm_slip_mark {P : Program} {w : World} {K : PySem.W.Frag} {mg : Str → Option Value} {base : Heap} {A : Adr} (T : Txt K mg A) (G_slip_terms : FnOk P w K mg base (CX1 P w) 6 A.a_slip_terms A.d_slip_terms ["stamper", "bits", "key", "slip"] (sp_slip_terms K A)) (HK1 : KindsOk P w K mg base 2 (Knd1 K A)) (cdv : Value) (Ar : Around) (outer : List Env) (s : Shared) (H : Hp) (E : XK)
    (hr : Room 6 (Ar.deeper (envOfC "slip_mark" (defScope s_slip_mark) s.heap.objs.size A.a_slip_mark cdv))) : PSs (cxOf (CX1 P w) P w K mg base ["stamper", "bits", "key", "slip"] "slip_mark" (defScope s_slip_mark) A.a_slip_mark cdv Ar outer s H E).nox (defBody s_slip_mark) (T_slip_mark K A) := QSs.out (
  x_sone (x_ret (x_held HK1 (hr.mono (by decide)) passF (x_var 0) (x_cons (x_ix (ix_any hr.units1) (x_callX G_slip_terms (hr.mono (by decide)) T.m_slip_terms T.f_slip_terms.kp T.b_slip_terms passF (x_cons (x_var 0) (x_cons (x_var 1) (x_cons (x_var 2) (x_cons (x_var 3) (x_nil)))))) (x_neg (x_int)) (fun _ _ => rfl)) (x_nil)))))
theorem tm__law_same {P : Program} {w : World} {K : PySem.W.Frag} {mg : Str → Option Value} {base : Heap} {A : Adr} (T : Txt K mg A)  (cdv : Value) (Ar : Around) (outer : List Env) (s : Shared) (H : Hp) (E : XK)
    (hr : Room 0 (Ar.deeper (envOfC "_law_same" (defScope s__law_same) s.heap.objs.size A.a__law_same cdv))) : PSs (cxOf (CX1 P w) P w K mg base ["_law_found", "_law_due"] "_law_same" (defScope s__law_same) A.a__law_same cdv Ar outer s H E).nox (defBody s__law_same) (T__law_same K A) := QSs.out (
  x_scons (x_ifS (x_tcmp oIsA (x_var 1) (x_non)) (x_sone (x_ret (x_cmp oIsA (x_var 0) (x_non)))) (x_snil)) (x_sone (x_ret (x_and (x_callB cIsi T.z_isinstance boot_isinstance (x_cons (x_var 0) (x_cons (x_ty T.z_str boot_str) (x_nil)))) (x_one (x_cmp (oEqC hr.units150) (x_var 0) (x_var 1)))))))
theorem tm_slip_value {P : Program} {w : World} {K : PySem.W.Frag} {mg : Str → Option Value} {base : Heap} {A : Adr} (T : Txt K mg A)  (cdv : Value) (Ar : Around) (outer : List Env) (s : Shared) (H : Hp) (E : XK)
    (hr : Room 0 (Ar.deeper (envOfC "slip_value" (defScope s_slip_value) s.heap.objs.size A.a_slip_value cdv))) : PSs (cxOf (CX1 P w) P w K mg base ["key", "slip", "end"] "slip_value" (defScope s_slip_value) A.a_slip_value cdv Ar outer s H E).nox (defBody s_slip_value) (T_slip_value K A) := QSs.out (
  x_scons (x_set 2 sc_slip_value.nd (x_ix (ix_any hr.units1) (x_var 1) (x_int) (fun _ _ => rfl))) (x_sone (x_ret (x_if (x_w (x_wand (x_tcmp (oEqC hr.units150) (x_ix (ix_any hr.units1) (x_var 2) (x_int) (fun _ _ => rfl)) (x_str)) (x_wand1 (x_tcmp (oEqC hr.units150) (x_ix (ix_any hr.units1) (x_var 2) (x_int) (fun _ _ => rfl)) (x_var 0))))) (x_ix (ix_any hr.units1) (x_var 2) (x_int) (fun _ _ => rfl)) (x_non)))))
theorem tm_slip_answer {P : Program} {w : World} {K : PySem.W.Frag} {mg : Str → Option Value} {base : Heap} {A : Adr} (T : Txt K mg A) (G_slip_mark : FnOk P w K mg base (CX1 P w) 7 A.a_slip_mark A.d_slip_mark ["stamper", "bits", "key", "slip"] (sp_slip_mark K A)) (G_slip_value : FnOk P w K mg base (CX1 P w) 1 A.a_slip_value A.d_slip_value ["key", "slip"] (sp_slip_value K A)) (cdv : Value) (Ar : Around) (outer : List Env) (s : Shared) (H : Hp) (E : XK)
    (hr : Room 7 (Ar.deeper (envOfC "slip_answer" (defScope s_slip_answer) s.heap.objs.size A.a_slip_answer cdv))) : PSs (cxOf (CX1 P w) P w K mg base ["stamper", "bits", "mark", "key", "slip", "came"] "slip_answer" (defScope s_slip_answer) A.a_slip_answer cdv Ar outer s H E).nox (defBody s_slip_answer) (T_slip_answer K A) := QSs.out (
  x_scons (x_set 5 sc_slip_answer.nd (x_callX G_slip_mark (hr.mono (by decide)) T.m_slip_mark T.f_slip_mark.kp T.b_slip_mark passF (x_cons (x_var 0) (x_cons (x_var 1) (x_cons (x_var 3) (x_cons (x_var 4) (x_nil))))))) (x_scons (x_ifS (x_tcmp (oNeB hr.units150) (x_var 5) (x_var 2)) (x_sone (x_never)) (x_snil)) (x_sone (x_ret (x_callX G_slip_value (hr.mono (by decide)) T.m_slip_value T.f_slip_value.kp T.b_slip_value passF (x_cons (x_var 3) (x_cons (x_var 4) (x_nil))))))))
theorem tm__law_told {P : Program} {w : World} {K : PySem.W.Frag} {mg : Str → Option Value} {base : Heap} {A : Adr} (T : Txt K mg A)  (cdv : Value) (Ar : Around) (outer : List Env) (s : Shared) (H : Hp) (E : XK)
    (hr : Room 0 (Ar.deeper (envOfC "_law_told" (defScope s__law_told) s.heap.objs.size A.a__law_told cdv))) : PSs (cxOf (CX1 P w) P w K mg base ["_law_key_here", "_law_slip"] "_law_told" (defScope s__law_told) A.a__law_told cdv Ar outer s H E).nox (defBody s__law_told) (T__law_told K A) := QSs.out (
  x_scons (x_ifS (x_w (x_wand (x_tcmp (oEqC hr.units150) (x_ix (ix_any hr.units1) (x_ix (ix_any hr.units1) (x_var 1) (x_int) (fun _ _ => rfl)) (x_int) (fun _ _ => rfl)) (x_str)) (x_wand1 (x_tcmp (oEqC hr.units150) (x_ix (ix_any hr.units1) (x_ix (ix_any hr.units1) (x_var 1) (x_int) (fun _ _ => rfl)) (x_int) (fun _ _ => rfl)) (x_var 0))))) (x_sone (x_ret (x_ix (ix_any hr.units1) (x_ix (ix_any hr.units1) (x_var 1) (x_int) (fun _ _ => rfl)) (x_int) (fun _ _ => rfl)))) (x_snil)) (x_sone (x_ret (x_non))))
theorem tm_clash {P : Program} {w : World} {K : PySem.W.Frag} {mg : Str → Option Value} {base : Heap} {A : Adr} (T : Txt K mg A) (HK1 : KindsOk P w K mg base 2 (Knd1 K A)) (cdv : Value) (Ar : Around) (outer : List Env) (s : Shared) (H : Hp) (E : XK)
    (hr : Room 2 (Ar.deeper (envOfC "clash" (defScope s_clash) s.heap.objs.size A.a_clash cdv))) : PSs (cxOf (CX1 P w) P w K mg base ["stamper", "terms", "firsts", "term", "ahead"] "clash" (defScope s_clash) A.a_clash cdv Ar outer s H E).nox (defBody s_clash) (T_clash K A) := QSs.out (
  x_scons (x_set 2 sc_clash.nd (x_dnewA)) (x_scons (x_for 3 sc_clash.nd (x_seqA (x_var 1)) (x_scons (x_set 4 sc_clash.nd (x_bm PySem.F.plainAttrs_dict PySem.F.slot_dict_setdefault PySem.F.type_dict_setdefault (mt_setdef hr.units1) (x_var 2) (x_cons (x_held HK1 (hr.mono (by decide)) passF (x_var 0) (x_cons (x_var 3) (x_nil))) (x_cons (x_var 3) (x_nil))))) (x_sone (x_ifS (x_tcmp (oNeB hr.units150) (x_var 4) (x_var 3)) (x_sone (x_ret (x_tup (x_cons (x_var 4) (x_cons (x_var 3) (x_nil)))))) (x_snil)))) PassesOwn.never) (x_sone (x_ret (x_non)))))
theorem tm__law_term_alike {P : Program} {w : World} {K : PySem.W.Frag} {mg : Str → Option Value} {base : Heap} {A : Adr} (T : Txt K mg A) (G__law_part_alike : FnOk P w K mg base (CX1 P w) 1 A.a__law_part_alike A.d__law_part_alike ["_law_found", "_law_due"] (sp__law_part_alike K A)) (cdv : Value) (Ar : Around) (outer : List Env) (s : Shared) (H : Hp) (E : XK)
    (hr : Room 1 (Ar.deeper (envOfC "_law_term_alike" (defScope s__law_term_alike) s.heap.objs.size A.a__law_term_alike cdv))) : PSs (cxOf (CX1 P w) P w K mg base ["_law_found", "_law_due", "_law_k"] "_law_term_alike" (defScope s__law_term_alike) A.a__law_term_alike cdv Ar outer s H E).nox (defBody s__law_term_alike) (T__law_term_alike K A) := QSs.out (
  x_scons (x_ifS (x_w (x_wor (x_tnot (x_test (x_callB cIsi T.z_isinstance boot_isinstance (x_cons (x_var 0) (x_cons (x_ty T.z_tuple boot_tuple) (x_nil)))))) (x_wor1 (x_tcmp (oNeB hr.units150) (x_callB cLenA T.z_len PySem.boot_len (x_cons (x_var 0) (x_nil))) (x_callB cLenA T.z_len PySem.boot_len (x_cons (x_var 1) (x_nil))))))) (x_sone (x_ret (x_bl))) (x_snil)) (x_scons (x_for 2 sc__law_term_alike.nd (x_range1 T.z_range (x_cons (x_callB cLenA T.z_len PySem.boot_len (x_cons (x_var 1) (x_nil))) (x_nil))) (x_sone (x_ifS (x_tnot (x_test (x_callX G__law_part_alike (hr.mono (by decide)) T.m__law_part_alike T.f__law_part_alike.kp T.b__law_part_alike passF (x_cons (x_ix (ix_any hr.units1) (x_var 0) (x_var 2) (fun _ _ => rfl)) (x_cons (x_ix (ix_any hr.units1) (x_var 1) (x_var 2) (fun _ _ => rfl)) (x_nil)))))) (x_sone (x_ret (x_bl))) (x_snil))) PassesOwn.never) (x_sone (x_ret (x_bl)))))
theorem tm__law_pair_right {P : Program} {w : World} {K : PySem.W.Frag} {mg : Str → Option Value} {base : Heap} {A : Adr} (T : Txt K mg A) (G__law_sure : FnOk P w K mg base (CX1 P w) 1 A.a__law_sure A.d__law_sure ["_law_first"] (sp__law_sure K A)) (G__law_terms : FnOk P w K mg base (CX1 P w) 3 A.a__law_terms A.d__law_terms ["_law_stamper", "_law_bits_here", "_law_key_here", "_law_slip"] (sp__law_terms K A)) (G__law_planted : FnOk P w K mg base (CX1 P w) 1 A.a__law_planted A.d__law_planted ["_law_sure_one", "_law_one", "_law_other"] (sp__law_planted K A)) (G__law_part_alike : FnOk P w K mg base (CX1 P w) 1 A.a__law_part_alike A.d__law_part_alike ["_law_found", "_law_due"] (sp__law_part_alike K A)) (G_slip_mark : FnOk P w K mg base (CX1 P w) 7 A.a_slip_mark A.d_slip_mark ["stamper", "bits", "key", "slip"] (sp_slip_mark K A)) (G__law_same : FnOk P w K mg base (CX1 P w) 1 A.a__law_same A.d__law_same ["_law_found", "_law_due"] (sp__law_same K A)) (G_slip_answer : FnOk P w K mg base (CX1 P w) 8 A.a_slip_answer A.d_slip_answer ["stamper", "bits", "mark", "key", "slip"] (sp_slip_answer K A)) (G__law_told : FnOk P w K mg base (CX1 P w) 1 A.a__law_told A.d__law_told ["_law_key_here", "_law_slip"] (sp__law_told K A)) (G_clash : FnOk P w K mg base (CX1 P w) 3 A.a_clash A.d_clash ["stamper", "terms"] (sp_clash K A)) (G_slip_terms : FnOk P w K mg base (CX1 P w) 6 A.a_slip_terms A.d_slip_terms ["stamper", "bits", "key", "slip"] (sp_slip_terms K A)) (G__law_term_alike : FnOk P w K mg base (CX1 P w) 2 A.a__law_term_alike A.d__law_term_alike ["_law_found", "_law_due"] (sp__law_term_alike K A)) (HK1 : KindsOk P w K mg base 2 (Knd1 K A)) (cdv : Value) (Ar : Around) (outer : List Env) (s : Shared) (H : Hp) (E : XK)
    (hr : Room 8 (Ar.deeper (envOfC "_law_pair_right" (defScope s__law_pair_right) s.heap.objs.size A.a__law_pair_right cdv))) : PSs (cxOf (CX1 P w) P w K mg base ["_law_bits_here", "_law_key_here", "_law_first", "_law_ones", "_law_others", "_law_number_here", "_law_sure_one", "_law_mine", "_law_theirs", "_law_stamper", "_law_one", "_law_other", "_law_mark_here", "_law_slip", "_law_found"] "_law_pair_right" (defScope s__law_pair_right) A.a__law_pair_right cdv Ar outer s H E).nox (defBody s__law_pair_right) (T__law_pair_right K A) := QSs.out (
  x_scons (x_set 6 sc__law_pair_right.nd (x_callX G__law_sure (hr.mono (by decide)) T.m__law_sure T.f__law_sure.kp T.b__law_sure passF (x_cons (x_op oMod (x_var 5) (x_int)) (x_nil)))) (x_scons (x_set 7 sc__law_pair_right.nd (x_callX G__law_terms (hr.mono (by decide)) T.m__law_terms T.f__law_terms.kp T.b__law_terms passF (x_cons (x_var 6) (x_cons (x_var 0) (x_cons (x_var 1) (x_cons (x_var 3) (x_nil))))))) (x_scons (x_set 8 sc__law_pair_right.nd (x_callX G__law_terms (hr.mono (by decide)) T.m__law_terms T.f__law_terms.kp T.b__law_terms passF (x_cons (x_var 6) (x_cons (x_var 0) (x_cons (x_var 1) (x_cons (x_var 4) (x_nil))))))) (x_scons (x_ifS (x_tcmp (oInA hr.units150) (x_ix (ix_any hr.units1) (x_var 8) (x_neg (x_int)) (fun _ _ => rfl)) (x_var 7)) (x_scons (x_par 3 4 sc__law_pair_right.nd rfl (x_cons (x_var 4) (x_cons (x_var 3) (x_nil)))) (x_sone (x_par 7 8 sc__law_pair_right.nd rfl (x_cons (x_var 8) (x_cons (x_var 7) (x_nil)))))) (x_snil)) (x_scons (x_set 9 sc__law_pair_right.nd (x_callX G__law_planted (hr.mono (by decide)) T.m__law_planted T.f__law_planted.kp T.b__law_planted passF (x_cons (x_var 6) (x_cons (x_ix (ix_any hr.units1) (x_var 7) (x_neg (x_int)) (fun _ _ => rfl)) (x_cons (x_ix (ix_any hr.units1) (x_var 8) (x_neg (x_int)) (fun _ _ => rfl)) (x_nil)))))) (x_scons (x_set 10 sc__law_pair_right.nd (x_tup (x_cons (x_op oAddG (x_var 2) (x_ix (ix_any hr.units1) (x_var 3) (x_int) (fun _ _ => rfl))) (x_cons (x_ix (ix_any hr.units1) (x_var 3) (x_int) (fun _ _ => rfl)) (x_nil))))) (x_scons (x_set 11 sc__law_pair_right.nd (x_tup (x_cons (x_op oAddG (x_var 2) (x_ix (ix_any hr.units1) (x_var 4) (x_int) (fun _ _ => rfl))) (x_cons (x_ix (ix_any hr.units1) (x_var 4) (x_int) (fun _ _ => rfl)) (x_nil))))) (x_scons (x_set 12 sc__law_pair_right.nd (x_held HK1 (hr.mono (by decide)) passF (x_var 9) (x_cons (x_ix (ix_any hr.units1) (x_callX G__law_terms (hr.mono (by decide)) T.m__law_terms T.f__law_terms.kp T.b__law_terms passF (x_cons (x_var 9) (x_cons (x_var 0) (x_cons (x_var 1) (x_cons (x_var 10) (x_nil)))))) (x_neg (x_int)) (fun _ _ => rfl)) (x_nil)))) (x_scons (x_for 13 sc__law_pair_right.nd (x_seqA (x_lst (x_cons (x_var 10) (x_cons (x_var 11) (x_nil))))) (x_scons (x_ifS (x_tnot (x_test (x_callX G__law_part_alike (hr.mono (by decide)) T.m__law_part_alike T.f__law_part_alike.kp T.b__law_part_alike passF (x_cons (x_callX G_slip_mark (hr.mono (by decide)) T.m_slip_mark T.f_slip_mark.kp T.b_slip_mark passF (x_cons (x_var 9) (x_cons (x_var 0) (x_cons (x_var 1) (x_cons (x_var 13) (x_nil)))))) (x_cons (x_var 12) (x_nil)))))) (x_sone (x_ret (x_bl))) (x_snil)) (x_sone (x_ifS (x_tnot (x_test (x_callX G__law_same (hr.mono (by decide)) T.m__law_same T.f__law_same.kp T.b__law_same passF (x_cons (x_callX G_slip_answer (hr.mono (by decide)) T.m_slip_answer T.f_slip_answer.kp T.b_slip_answer passF (x_cons (x_var 9) (x_cons (x_var 0) (x_cons (x_var 12) (x_cons (x_var 1) (x_cons (x_var 13) (x_nil))))))) (x_cons (x_callX G__law_told (hr.mono (by decide)) T.m__law_told T.f__law_told.kp T.b__law_told passF (x_cons (x_var 1) (x_cons (x_var 13) (x_nil)))) (x_nil)))))) (x_sone (x_ret (x_bl))) (x_snil)))) PassesOwn.never) (x_scons (x_set 14 sc__law_pair_right.nd (x_callX G_clash (hr.mono (by decide)) T.m_clash T.f_clash.kp T.b_clash passF (x_cons (x_var 9) (x_cons (x_op oAddG (x_callX G_slip_terms (hr.mono (by decide)) T.m_slip_terms T.f_slip_terms.kp T.b_slip_terms passF (x_cons (x_var 9) (x_cons (x_var 0) (x_cons (x_var 1) (x_cons (x_var 10) (x_nil)))))) (x_callX G_slip_terms (hr.mono (by decide)) T.m_slip_terms T.f_slip_terms.kp T.b_slip_terms passF (x_cons (x_var 9) (x_cons (x_var 0) (x_cons (x_var 1) (x_cons (x_var 11) (x_nil))))))) (x_nil))))) (x_scons (x_ifS (x_tcmp (oEqC hr.units150) (x_var 10) (x_var 11)) (x_sone (x_ret (x_cmp oIsA (x_var 14) (x_non)))) (x_snil)) (x_scons (x_ifS (x_w (x_wor (x_tnot (x_test (x_callB cIsi T.z_isinstance boot_isinstance (x_cons (x_var 14) (x_cons (x_ty T.z_tuple boot_tuple) (x_nil)))))) (x_wor1 (x_tcmp (oNeB hr.units150) (x_callB cLenA T.z_len PySem.boot_len (x_cons (x_var 14) (x_nil))) (x_int))))) (x_sone (x_ret (x_bl))) (x_snil)) (x_sone (x_ret (x_and (x_callX G__law_term_alike (hr.mono (by decide)) T.m__law_term_alike T.f__law_term_alike.kp T.b__law_term_alike passF (x_cons (x_ix (ix_any hr.units1) (x_var 14) (x_int) (fun _ _ => rfl)) (x_cons (x_ix (ix_any hr.units1) (x_var 7) (x_neg (x_int)) (fun _ _ => rfl)) (x_nil)))) (x_one (x_callX G__law_term_alike (hr.mono (by decide)) T.m__law_term_alike T.f__law_term_alike.kp T.b__law_term_alike passF (x_cons (x_ix (ix_any hr.units1) (x_var 14) (x_int) (fun _ _ => rfl)) (x_cons (x_ix (ix_any hr.units1) (x_var 8) (x_neg (x_int)) (fun _ _ => rfl)) (x_nil))))))))))))))))))))
theorem tm_law {P : Program} {w : World} {K : PySem.W.Frag} {mg : Str → Option Value} {base : Heap} {A : Adr} (T : Txt K mg A) (G__law_bits : FnOk P w K mg base (CX1 P w) 1 A.a__law_bits A.d__law_bits ["_law_cell"] (sp__law_bits K A)) (G__law_at : FnOk P w K mg base (CX1 P w) 1 A.a__law_at A.d__law_at ["_law_script", "_law_k"] (sp__law_at K A)) (G__law_key : FnOk P w K mg base (CX1 P w) 1 A.a__law_key A.d__law_key ["_law_bits_here", "_law_cell", "_law_others"] (sp__law_key K A)) (G__law_steps : FnOk P w K mg base (CX1 P w) 2 A.a__law_steps A.d__law_steps ["_law_cell", "_law_low", "_law_bits_here"] (sp__law_steps K A)) (G__law_place : FnOk P w K mg base (CX1 P w) 1 A.a__law_place A.d__law_place ["_law_steps_here", "_law_low"] (sp__law_place K A)) (G__law_end : FnOk P w K mg base (CX1 P w) 2 A.a__law_end A.d__law_end ["_law_cell", "_law_bits_here", "_law_key_here", "_law_low"] (sp__law_end K A)) (G__law_pair_right : FnOk P w K mg base (CX1 P w) 9 A.a__law_pair_right A.d__law_pair_right ["_law_bits_here", "_law_key_here", "_law_first", "_law_ones", "_law_others", "_law_number_here"] (sp__law_pair_right K A)) (cdv : Value) (Ar : Around) (outer : List Env) (s : Shared) (H : Hp) (E : XK)
    (hr : Room 9 (Ar.deeper (envOfC "law" (defScope s_law) s.heap.objs.size A.a_law cdv))) : PSs (cxOf (CX1 P w) P w K mg base ["_law_script", "_law_bits_here", "_law_key_here", "_law_first", "_law_low", "_law_rests", "_law_k", "_law_steps_here", "_law_end_here"] "law" (defScope s_law) A.a_law cdv Ar outer s H E).nox (defBody s_law) (T_law K A) := QSs.out (
  x_scons (x_set 1 sc_law.nd (x_callX G__law_bits (hr.mono (by decide)) T.m__law_bits T.f__law_bits.kp T.b__law_bits passF (x_cons (x_callX G__law_at (hr.mono (by decide)) T.m__law_at T.f__law_at.kp T.b__law_at passF (x_cons (x_var 0) (x_cons (x_int) (x_nil)))) (x_nil)))) (x_scons (x_set 2 sc_law.nd (x_callX G__law_key (hr.mono (by decide)) T.m__law_key T.f__law_key.kp T.b__law_key passF (x_cons (x_var 1) (x_cons (x_callX G__law_at (hr.mono (by decide)) T.m__law_at T.f__law_at.kp T.b__law_at passF (x_cons (x_var 0) (x_cons (x_int) (x_nil)))) (x_cons (x_lst (x_nil)) (x_nil)))))) (x_scons (x_set 3 sc_law.nd (x_callX G__law_steps (hr.mono (by decide)) T.m__law_steps T.f__law_steps.kp T.b__law_steps passF (x_cons (x_callX G__law_at (hr.mono (by decide)) T.m__law_at T.f__law_at.kp T.b__law_at passF (x_cons (x_var 0) (x_cons (x_int) (x_nil)))) (x_cons (x_int) (x_cons (x_var 1) (x_nil)))))) (x_scons (x_set 3 sc_law.nd (x_slice sl_all (x_var 3) (x_onone) (x_osome (x_op oMod (x_callX G__law_at (hr.mono (by decide)) T.m__law_at T.f__law_at.kp T.b__law_at passF (x_cons (x_var 0) (x_cons (x_int) (x_nil)))) (x_op oAddG (x_callB cLenA T.z_len PySem.boot_len (x_cons (x_var 3) (x_nil))) (x_int)))))) (x_scons (x_set 4 sc_law.nd (x_callX G__law_place (hr.mono (by decide)) T.m__law_place T.f__law_place.kp T.b__law_place passF (x_cons (x_var 3) (x_cons (x_int) (x_nil))))) (x_scons (x_set 5 sc_law.nd (x_lst (x_nil))) (x_scons (x_for 6 sc_law.nd (x_range1 T.z_range (x_cons (x_op oAddG (x_int) (x_callB (cMin rfl) T.z_min boot_min (x_cons (x_int) (x_cons (x_op oFdivB (x_callB (cMax rfl) T.z_max boot_max (x_cons (x_int) (x_cons (x_op oSub (x_callB cLenA T.z_len PySem.boot_len (x_cons (x_var 0) (x_nil))) (x_int)) (x_nil)))) (x_int)) (x_nil))))) (x_nil))) (x_scons (x_set 7 sc_law.nd (x_callX G__law_steps (hr.mono (by decide)) T.m__law_steps T.f__law_steps.kp T.b__law_steps passF (x_cons (x_callX G__law_at (hr.mono (by decide)) T.m__law_at T.f__law_at.kp T.b__law_at passF (x_cons (x_var 0) (x_cons (x_op oAddG (x_int) (x_op oMulB (x_int) (x_var 6))) (x_nil)))) (x_cons (x_var 4) (x_cons (x_var 1) (x_nil)))))) (x_scons (x_set 8 sc_law.nd (x_callX G__law_end (hr.mono (by decide)) T.m__law_end T.f__law_end.kp T.b__law_end passF (x_cons (x_callX G__law_at (hr.mono (by decide)) T.m__law_at T.f__law_at.kp T.b__law_at passF (x_cons (x_var 0) (x_cons (x_op oAddG (x_int) (x_op oMulB (x_int) (x_var 6))) (x_nil)))) (x_cons (x_var 1) (x_cons (x_var 2) (x_cons (x_callX G__law_place (hr.mono (by decide)) T.m__law_place T.f__law_place.kp T.b__law_place passF (x_cons (x_var 7) (x_cons (x_var 4) (x_nil)))) (x_nil))))))) (x_sone (x_drop (x_bm PySem.F.plainAttrs_list PySem.F.slot_list_append PySem.F.type_list_append mt_append (x_var 5) (x_cons (x_tup (x_cons (x_var 7) (x_cons (x_var 8) (x_nil)))) (x_nil))))))) PassesOwn.never) (x_scons (x_for 6 sc_law.nd (x_range1 T.z_range (x_cons (x_callB cLenA T.z_len PySem.boot_len (x_cons (x_var 5) (x_nil))) (x_nil))) (x_sone (x_ifS (x_tnot (x_test (x_callX G__law_pair_right (hr.mono (by decide)) T.m__law_pair_right T.f__law_pair_right.kp T.b__law_pair_right passF (x_cons (x_var 1) (x_cons (x_var 2) (x_cons (x_var 3) (x_cons (x_ix (ix_any hr.units1) (x_var 5) (x_op oSub (x_var 6) (x_int)) (fun _ _ => rfl)) (x_cons (x_ix (ix_any hr.units1) (x_var 5) (x_var 6) (fun _ _ => rfl)) (x_cons (x_op oFdivB (x_callX G__law_at (hr.mono (by decide)) T.m__law_at T.f__law_at.kp T.b__law_at passF (x_cons (x_var 0) (x_cons (x_int) (x_nil)))) (x_int)) (x_nil)))))))))) (x_sone (x_ret (x_bl))) (x_snil))) PassesOwn.never) (x_sone (x_ret (x_bl)))))))))))
end Rs
namespace Rs
open PySem PySem.Spec PyProof.Rows L2
noncomputable def tyD : Dat → String
  | .non => "NoneType"
  | .bl _ => "bool"
  | .int _ => "int"
  | .str _ => "str"
  | .lst _ => "list"
  | .tup _ => "tuple"
  | .dic => "dict"
theorem DatW.ty {H : Hp} {v : V} {d : Dat} (h : DatW H v d) : tyN H v = some (tyD d) := by
  cases h with
  | lst e _ => unfold tyN; dsimp only; rw [e]; rfl
  | tup e _ => unfold tyN; dsimp only; rw [e]; rfl
  | dic e => unfold tyN; dsimp only; rcases e with ⟨kvs, e⟩ | ⟨kvs, e⟩ <;> rw [e] <;> rfl
  | _ => rfl
mutual
theorem DatW.toV {K : PySem.W.Frag} {H : Hp} {v : V} {d : Dat} (h : DatW H v d) (ok : okD d = true) : DatV K H v (toPy d) := by
  cases h with
  | non => exact .non
  | bl b => exact .bl b
  | int i => exact .int i
  | str z => exact .str z
  | lst e r => exact .lst (SqL.of e) (DatWs.toV r ok)
  | tup e r => exact .tup (SqT.of e) (DatWs.toV r ok)
  | dic e => cases ok
theorem DatWs.toV {K : PySem.W.Frag} {H : Hp} {xs : List V} {ds : List Dat} (h : DatWs H xs ds) (ok : okDs ds = true) : DatVs K H xs (toPys ds) := by
  cases h with
  | nil => exact .nil
  | cons a r =>
    have ok : (okD _ && okDs _) = true := ok
    rw [Bool.and_eq_true] at ok
    exact .cons (DatW.toV a ok.1) (DatWs.toV r ok.2)
end
theorem asc_ok {z : Str} (h : ascS z = true) : PyData.strOk z = true := by
  unfold PyData.strOk
  unfold ascS at h
  rw [Array.all_eq_true] at h ⊢
  intro i hi
  have := of_decide_eq_true (h i hi)
  exact decide_eq_true (by omega)
mutual
theorem lay_toPy : ∀ {d : Dat}, okD d = true → (toPy d).canLay0 = true
  | .non, _ => rfl
  | .bl _, _ => rfl
  | .int _, _ => rfl
  | .str z, h => asc_ok (Bool.and_eq_true_iff.mp h).1
  | .lst ds, h => lay_toPys h
  | .tup ds, h => lay_toPys h
theorem lay_toPys : ∀ {ds : List Dat}, okDs ds = true → PyData.canLayAll0 (toPys ds) = true
  | [], _ => rfl
  | d :: r, h => by
    have h : (okD d && okDs r) = true := h
    rw [Bool.and_eq_true] at h
    show ((toPy d).canLay0 && PyData.canLayAll0 (toPys r)) = true
    rw [lay_toPy h.1, lay_toPys h.2]; rfl
end
theorem DatWs.len {H : Hp} : ∀ {xs : List V} {ds : List Dat}, DatWs H xs ds → xs.length = ds.length
  | _, _, .nil => rfl
  | _, _, .cons _ r => by rw [List.length_cons, List.length_cons, r.len]
theorem DatWs.get {H : Hp} : ∀ {xs : List V} {ds : List Dat}, DatWs H xs ds → ∀ {i : Nat} {x : V}, xs[i]? = some x → ∃ d, ds[i]? = some d ∧ DatW H x d
  | _, _, .nil, i, x, e => by cases e
  | _, _, .cons a r, i, x, e => by
    cases i with
    | zero => cases e; exact ⟨_, rfl, a⟩
    | succ i => exact r.get e
mutual
theorem DatW.mono {H H' : Hp} {v : V} {d : Dat} (s : Same H H') (h : DatW H v d) : DatW H' v d := by
  cases h with
  | non => exact .non
  | bl b => exact .bl b
  | int i => exact .int i
  | str z => exact .str z
  | lst e r => exact .lst (s _ _ e) (DatWs.mono s r)
  | tup e r => exact .tup (s _ _ e) (DatWs.mono s r)
  | dic e => exact .dic (e.imp (fun ⟨k, e⟩ => ⟨k, s _ _ e⟩) fun ⟨k, e⟩ => ⟨k, s _ _ e⟩)
theorem DatWs.mono {H H' : Hp} {xs : List V} {ds : List Dat} (s : Same H H') (h : DatWs H xs ds) : DatWs H' xs ds := by
  cases h with
  | nil => exact .nil
  | cons a r => exact .cons (DatW.mono s a) (DatWs.mono s r)
end
theorem ne_word {K : PySem.W.Frag} {H : Hp} {v : V} {d : Dat} {w : Str} {Q : VK} (h : DatW H v d) (ok : okD d = true) (dp : (toPy d).depth ≤ 150) (hw : PyData.strOk w = true) (q : Q (.bl (!isStrD w d)) H) : mNeB K v (.str w) H Q := by
  have ref : ∀ a, v = .ref a → (toPy d).eqv (.str w) = false → isStrD w d = false → mNeB K v (.str w) H Q := fun a e e1 e2 => by
    subst e
    refine ⟨_, _, h.toV ok, .str w, lay_toPy ok, hw, dp, ?_⟩
    rw [e1]; rw [e2] at q; exact q
  cases h with
  | non => exact q
  | bl b => exact q
  | int i => exact q
  | str z => exact q
  | lst e r => exact ref _ rfl rfl rfl
  | tup e r => exact ref _ rfl rfl rfl
  | dic e => cases ok
theorem ixT {K : PySem.W.Frag} {H : Hp} {Q : VK} {a : Addr} {xs : List V} {x : V} {i : Int} {j : Nat} (ha : H a = some (.tup xs)) (e : i = j) (hx : xs[j]? = some x) (q : Q x H) : rIxA K (.ref a) (.int i) H Q := by
  subst e
  refine .inl (.inr (.inl ⟨a, xs, j, x, rfl, rfl, SqT.of ha, ?_, q⟩))
  have hj := (List.getElem?_eq_some_iff.mp hx).1
  rw [atI_lt (by omega) (by omega)]
  simp [List.getD_eq_getElem?_getD, hx]
variable {K : PySem.W.Frag} {mg : Str → Option Value} {A : Adr}
theorem len_is_whole (K : PySem.W.Frag) (A : Adr) : ∀ vs H Q E, sp_is_whole K A vs H Q E → vs.length = 1 := by rintro vs H Q E ⟨v, d, rfl, _⟩; rfl
theorem rd_is_whole (T : Txt K mg A) (vs : List V) (H : Hp) (Q : VK) (E : XK) (h : sp_is_whole K A vs H Q E) : T_is_whole K A { nx := fun _ H' => Q .non H', rt := Q } (start ["thing"] vs) H := by
  obtain ⟨v, d, rfl, w, q⟩ := h
  refine ⟨by decide, _, w.ty, ?_⟩
  cases d
  case int i => exact Sel.yes rfl ⟨by decide, _, w.ty, q⟩
  case bl b => exact Sel.yes rfl ⟨by decide, _, w.ty, q⟩
  all_goals exact Sel.no rfl q
theorem len_is_stamp (K : PySem.W.Frag) (A : Adr) : ∀ vs H Q E, sp_is_stamp K A vs H Q E → vs.length = 1 := by rintro vs H Q E ⟨v, d, rfl, _⟩; rfl
theorem rd_is_stamp (T : Txt K mg A) (vs : List V) (H : Hp) (Q : VK) (E : XK) (h : sp_is_stamp K A vs H Q E) : T_is_stamp K A { nx := fun _ H' => Q .non H', rt := Q } (start ["thing"] vs) H := by
  obtain ⟨v, d, rfl, w, q⟩ := h
  refine ⟨v, d, rfl, w, ?_⟩
  cases w with
  | int i =>
    refine Sel.yes rfl (Sel.dec (fun h0 => ⟨⟨by decide, by decide, by decide⟩, ?_⟩) (fun h0 => ?_))
    · show Q (.bl (decide (i < 10 ^ ((60 : Int).toNat)))) H
      have e : isStampD (.int i) = decide (i < 10 ^ ((60 : Int).toNat)) := by
        show decide (0 ≤ i ∧ i < 10 ^ 60) = decide (i < 10 ^ 60)
        by_cases h1 : i < 10 ^ 60
        · rw [decide_eq_true h1, decide_eq_true ⟨h0, h1⟩]
        · rw [decide_eq_false h1, decide_eq_false fun z => h1 z.2]
      rw [← e]; exact q
    · have e : isStampD (.int i) = false := decide_eq_false fun z => h0 z.1
      rw [← e]; exact q
  | non => exact Sel.no rfl ⟨by decide, _, rfl, q⟩
  | bl b => exact Sel.no rfl ⟨by decide, _, rfl, q⟩
  | str z => exact Sel.no rfl ⟨by decide, _, rfl, q⟩
  | lst e r => exact Sel.no rfl ⟨by decide, _, (DatW.lst e r).ty, q⟩
  | tup e r => exact Sel.no rfl ⟨by decide, _, (DatW.tup e r).ty, q⟩
  | dic e => exact Sel.no rfl ⟨by decide, _, (DatW.dic e).ty, q⟩
theorem len_start (K : PySem.W.Frag) (A : Adr) : ∀ vs H Q E, sp_start K A vs H Q E → vs.length = 3 := by rintro vs H Q E ⟨b, k, d, rfl, _⟩; rfl
theorem rd_start (T : Txt K mg A) (vs : List V) (H : Hp) (Q : VK) (E : XK) (h : sp_start K A vs H Q E) : T_start K A { nx := fun _ H' => Q .non H', rt := Q } (L2.start ["bits", "key", "depth"] vs) H := by
  obtain ⟨b, k, d, rfl, hd, q⟩ := h
  exact ⟨by omega, q⟩
theorem len_is_key (K : PySem.W.Frag) (A : Adr) : ∀ vs H Q E, sp_is_key K A vs H Q E → vs.length = 2 := by rintro vs H Q E ⟨b, v, d, rfl, _⟩; rfl
theorem rd_is_key (T : Txt K mg A) (vs : List V) (H : Hp) (Q : VK) (E : XK) (h : sp_is_key K A vs H Q E) : T_is_key K A { nx := fun _ H' => Q .non H', rt := Q } (L2.start ["bits", "thing"] vs) H := by
  obtain ⟨b, v, d, rfl, h0, h1, w, q⟩ := h
  refine ⟨v, d, rfl, w, ?_⟩
  cases w with
  | int i =>
    refine Sel.yes rfl (Sel.dec (fun h2 => ⟨⟨h0, by omega, by decide⟩, ?_⟩) (fun h2 => ?_))
    · show Q (.bl (decide (i < 1 * 2 ^ b.toNat))) H
      have e : isKeyD b (.int i) = decide (i < 1 * 2 ^ b.toNat) := by
        show decide (0 ≤ i ∧ i < 2 ^ b.toNat) = _
        rw [Int.one_mul]
        by_cases h1 : i < 2 ^ b.toNat
        · rw [decide_eq_true h1, decide_eq_true ⟨h2, h1⟩]
        · rw [decide_eq_false h1, decide_eq_false fun z => h1 z.2]
      rw [← e]; exact q
    · have e : isKeyD b (.int i) = false := decide_eq_false fun z => h2 z.1
      rw [← e]; exact q
  | _ => exact Sel.no rfl q
theorem len_is_value (K : PySem.W.Frag) (A : Adr) : ∀ vs H Q E, sp_is_value K A vs H Q E → vs.length = 1 := by rintro vs H Q E ⟨v, d, rfl, _⟩; rfl
theorem rd_is_value (T : Txt K mg A) (vs : List V) (H : Hp) (Q : VK) (E : XK) (h : sp_is_value K A vs H Q E) : T_is_value K A { nx := fun _ H' => Q .non H', rt := Q } (L2.start ["thing"] vs) H := by
  obtain ⟨v, d, rfl, w, ok, q⟩ := h
  refine ⟨by decide, _, w.ty, ?_⟩
  cases w with
  | str z =>
    have hl := of_decide_eq_true (Bool.and_eq_true_iff.mp ok).2
    refine Sel.yes rfl (.inl ⟨line_ge (by omega), ?_⟩)
    have e : isValueD (.str z) = decide ((z.length : Int) ≤ 60) := by
      show decide (z.length ≤ 60) = _
      by_cases h1 : z.length ≤ 60
      · rw [decide_eq_true h1, decide_eq_true (by omega)]
      · rw [decide_eq_false h1, decide_eq_false (by omega)]
    show Q (.bl (decide ((z.length : Int) ≤ 60))) H
    rw [← e]; exact q
  | _ => exact Sel.no rfl q
theorem isStep_eq (b l i : Int) (m : Dat) : isStepD b l (.tup [.int i, m]) = (decide (l ≤ i ∧ i < b) && isStampD m) := rfl
theorem len_is_step (K : PySem.W.Frag) (A : Adr) : ∀ vs H Q E, sp_is_step K A vs H Q E → vs.length = 3 := by rintro vs H Q E ⟨b, l, v, d, rfl, _⟩; rfl
theorem rd_is_step (T : Txt K mg A) (vs : List V) (H : Hp) (Q : VK) (E : XK) (h : sp_is_step K A vs H Q E) : T_is_step K A { nx := fun _ H' => Q .non H', rt := Q } (L2.start ["bits", "least", "thing"] vs) H := by
  obtain ⟨b, l, v, d, rfl, w, q⟩ := h
  refine ⟨by decide, _, w.ty, ?_⟩
  cases w with
  | @tup a xs ds e r =>
    refine Sel.no rfl (.inl (.inr (.inl ⟨_, SqT.of e, ?_⟩)))
    have el := r.len
    refine Sel.ndec (fun hne => ?_) (fun he => ?_)
    · have e2 : isStepD b l (.tup ds) = false := by
        unfold isStepD
        split
        · rename_i heq; cases heq; simp at el; omega
        · rfl
      show Q (.bl false) H
      rw [← e2]; exact q
    · cases r with
      | nil => simp at he
      | cons w0 r =>
        cases r with
        | nil => simp at he
        | cons w1 r =>
          cases r with
          | cons _ _ => simp at he; omega
          | nil =>
            refine ixT (j := 0) e rfl rfl ⟨_, _, rfl, w0, ?_⟩
            cases w0 with
            | int i =>
              refine Sel.yes rfl (ixT (j := 0) e rfl rfl (Sel.dec (fun h1 => ?_) (fun h1 => ?_)))
              · refine Sel.dec (fun h2 => ?_) (fun h2 => ?_)
                · refine ixT (j := 1) e rfl rfl ⟨_, _, rfl, w1, ?_⟩
                  rw [isStep_eq, decide_eq_true ⟨h1, h2⟩] at q; exact q
                · rw [isStep_eq, decide_eq_false (fun z => h2 z.2)] at q; exact q
              · rw [isStep_eq, decide_eq_false (fun z => h1 z.1)] at q; exact Sel.no rfl q
            | _ => exact Sel.no rfl q
  | _ => exact Sel.yes rfl (Sel.t q)
end Rs
namespace Rs
open PySem PySem.Spec PyProof.Rows L2
theorem isStep_shape {b l : Int} {d : Dat} (h : isStepD b l d = true) : ∃ i m, d = .tup [.int i, m] := by
  unfold isStepD at h
  split at h
  · exact ⟨_, _, rfl⟩
  · cases h
theorem dp_mem {d : Dat} {ds : List Dat} (hm : d ∈ ds) : (toPy d).depth ≤ PyData.depthAll (toPys ds) := by
  induction ds with
  | nil => cases hm
  | cons x r ih =>
    show _ ≤ max (toPy x).depth (PyData.depthAll (toPys r))
    rcases List.mem_cons.mp hm with rfl | hm
    · omega
    · have := ih hm; omega
theorem ok_mem {d : Dat} {ds : List Dat} (h : okDs ds = true) (hm : d ∈ ds) : okD d = true := by
  induction ds with
  | nil => cases hm
  | cons x r ih =>
    have h : (okD x && okDs r) = true := h
    rw [Bool.and_eq_true] at h
    rcases List.mem_cons.mp hm with rfl | hm
    · exact h.1
    · exact ih h.2 hm
theorem endOk.tup {ds : List Dat} (h : endOk (.tup ds)) : okDs ds = true ∧ PyData.depthAll (toPys ds) ≤ 139 := by
  rcases h with ⟨h1, h2⟩ | h
  · exact ⟨h1, by have h2 : PyData.depthAll (toPys ds) + 1 ≤ 140 := h2; omega⟩
  · cases h
theorem eq_bare {K : PySem.W.Frag} {H : Hp} {v : V} {d : Dat} {p : Addr} {Q : VK} (w : DatW H v d) (ok : endOk d) (hp : H p = some (.tup [.str "bare"])) (q : Q (.bl (isBareD d)) H) : mEqC K v (.ref p) H Q := by
  have dv : DatV K H (.ref p) (.tuple [.str "bare"]) := .tup (SqT.of hp) (.cons (.str _) .nil)
  have lv : (PyData.tuple [.str "bare"]).canLay0 = true := by decide +kernel
  rcases ok with ⟨ok, dp⟩ | rfl
  · have hd : ∀ e : (toPy d).eqv (.tuple [.str "bare"]) = isBareD d, rEqD K v (.ref p) H Q := fun e => ⟨_, _, w.toV ok, dv, lay_toPy ok, lv, by omega, by rw [e]; exact q⟩
    cases w with
    | non => exact hd rfl
    | bl b => exact hd rfl
    | int i => exact hd rfl
    | str z => exact hd rfl
    | lst e r => exact .inr (.inl (hd rfl))
    | @tup a xs ds e r =>
      refine .inr (.inl (hd ?_))
      clear hd r ok dp q
      cases ds with
      | nil => rfl
      | cons x rs =>
        cases rs with
        | nil =>
          show ((toPy x).eqv (.str "bare") && true) = isStrD "bare" x
          rw [Bool.and_true]
          cases x with
          | str z =>
            show (z == ("bare" : Str)) = decide (z = "bare")
            by_cases h : z = "bare" <;> simp [h]
          | _ => rfl
        | cons y rs =>
          show ((toPy x).eqv (.str "bare") && false) = false
          rw [Bool.and_false]
    | dic e => cases ok
  · cases w with
    | dic e => exact .inr (.inr ⟨_, p, _, rfl, rfl, e, SqT.of hp, q⟩)
variable {K : PySem.W.Frag} {mg : Str → Option Value} {A : Adr}
theorem len_are_steps (K : PySem.W.Frag) (A : Adr) : ∀ vs H Q E, sp_are_steps K A vs H Q E → vs.length = 2 := by rintro vs H Q E ⟨b, v, d, rfl, _⟩; rfl
theorem rd_are_steps (T : Txt K mg A) (vs : List V) (H : Hp) (Q : VK) (E : XK) (h : sp_are_steps K A vs H Q E) : T_are_steps K A { nx := fun _ H' => Q .non H', rt := Q } (L2.start ["bits", "thing", "least", "step"] vs) H := by
  obtain ⟨b, v, d, rfl, w, q⟩ := h
  refine ⟨by decide, _, w.ty, ?_⟩
  cases w with
  | @tup a xs ds e r =>
    have q : Q (.bl (areStepsD b 0 ds)) H := q
    refine Sel.no rfl ⟨a, rfl, .inr ⟨⟨_, SqT.of e⟩, ?_⟩⟩
    have el := r.len
    refine for_tup (xs := xs) (fun i σ H' => H' = H ∧ ∃ l x3, σ = [some (.int b), some (.ref a), some (.int l), x3] ∧ areStepsD b 0 ds = areStepsD b l (ds.drop i)) ⟨rfl, 0, none, rfl, rfl⟩ ?_ ?_ ?_
    · rintro i σ _ _ ⟨rfl, _⟩; exact SqT.of e
    · rintro i x σ _ hx ⟨rfl, l, x3, rfl, eq⟩
      obtain ⟨d, hd, wx⟩ := r.get hx
      have hi : i < ds.length := (List.getElem?_eq_some_iff.mp hd).1
      have dr : ds.drop i = d :: ds.drop (i + 1) := by
        rw [List.drop_eq_getElem_cons hi]
        rw [List.getElem?_eq_getElem hi] at hd; rw [Option.some.inj hd]
      rw [dr] at eq
      have eq : areStepsD b 0 ds = (isStepD b l d && areStepsD b (depthOf d + 1) (ds.drop (i + 1))) := eq
      refine ⟨b, l, x, d, rfl, wx, Sel.mk (fun hf => ?_) (fun ht => ?_)⟩
      · have hf : isStepD b l d = false := by simpa using hf
        rw [hf] at eq
        rw [eq] at q; exact q
      · have ht : isStepD b l d = true := by simpa using ht
        obtain ⟨i0, m, rfl⟩ := isStep_shape ht
        cases wx with
        | tup ex rx =>
          cases rx with
          | cons w0 rx =>
            cases w0
            refine ixT (j := 0) ex rfl rfl ⟨rfl, _, _, rfl, ?_⟩
            rw [ht] at eq; exact eq
    · rintro σ _ ⟨rfl, l, x3, rfl, eq⟩
      rw [List.drop_eq_nil_of_le (by omega)] at eq
      rw [eq] at q; exact q
  | _ => exact Sel.yes rfl q
theorem len_is_leaf (K : PySem.W.Frag) (A : Adr) : ∀ vs H Q E, sp_is_leaf K A vs H Q E → vs.length = 4 := by rintro vs H Q E ⟨b, p, g, v, d, rfl, _⟩; rfl
theorem rd_is_leaf (T : Txt K mg A) (vs : List V) (H : Hp) (Q : VK) (E : XK) (h : sp_is_leaf K A vs H Q E) : T_is_leaf K A { nx := fun _ H' => Q .non H', rt := Q } (L2.start ["bits", "depth", "begin", "thing"] vs) H := by
  obtain ⟨b, p, g, v, d, rfl, b0, b60, hp, w, ok, q⟩ := h
  refine ⟨by decide, _, w.ty, ?_⟩
  cases w with
  | @tup a xs ds e r =>
    obtain ⟨ok, dp⟩ := ok.tup
    have el := r.len
    refine Sel.no rfl (.inl (.inr (.inl ⟨_, SqT.of e, Sel.ndec (fun ne => Sel.t ?_) (fun he => ?_)⟩)))
    · have e2 : isLeafD b p g (.tup ds) = false := by
        unfold isLeafD
        split
        · rename_i heq; cases heq; simp at el; omega
        · rfl
      rw [e2] at q; exact q
    · cases r with
      | nil => simp at he
      | @cons x0 _ d0 _ w0 r =>
      cases r with
      | nil => simp at he
      | @cons x1 _ d1 _ w1 r =>
      cases r with
      | nil => simp at he
      | @cons x2 _ d2 _ w2 r =>
      cases r with
      | cons _ _ => simp at he; omega
      | nil =>
      have o0 := ok_mem ok (d := d0) (by simp)
      have p0 := dp_mem (d := d0) (ds := [d0, d1, d2]) (by simp)
      have o2 := ok_mem ok (d := d2) (by simp)
      refine ixT (j := 0) e rfl rfl (ne_word w0 o0 (by omega) (by decide +kernel) (Sel.mk (fun hn => ?_) (fun hy => ?_)))
      · have hn : isStrD "leaf" d0 = false := by simpa using hn
        have e2 : isLeafD b p g (.tup [d0, d1, d2]) = false := by
          cases d1 <;> first | rfl | (show (isStrD "leaf" d0 && _ && _ && _) = false; rw [hn]; rfl)
        rw [e2] at q; exact q
      · have hy : isStrD "leaf" d0 = true := by simpa using hy
        refine ixT (j := 1) e rfl rfl ⟨b, x1, d1, rfl, b0, b60, w1, ?_⟩
        cases w1 with
        | int k =>
          have e2 : isLeafD b p g (.tup [d0, .int k, d2]) = (decide (0 ≤ k ∧ k < 2 ^ b.toNat) && isValueD d2 && decide (startI b k p = g)) := by
            show (isStrD "leaf" d0 && _ && _ && _) = _
            rw [hy]; simp
          rw [e2] at q
          refine Sel.mk (fun hk => Sel.t ?_) (fun hk => ?_)
          · have hk : isKeyD b (.int k) = false := by simpa only [Bool.not_eq_true'] using hk
            have hk : decide (0 ≤ k ∧ k < 2 ^ b.toNat) = false := hk
            rw [hk] at q; exact q
          · have hk : isKeyD b (.int k) = true := by simpa only [Bool.not_eq_false'] using hk
            have hk : decide (0 ≤ k ∧ k < 2 ^ b.toNat) = true := hk
            rw [hk, Bool.true_and] at q
            refine ixT (j := 2) e rfl rfl ⟨x2, d2, rfl, w2, o2, ?_⟩
            refine Sel.mk (fun hv => ?_) (fun hv => ?_)
            · have hv : isValueD d2 = false := by simpa using hv
              rw [hv] at q; exact q
            · have hv : isValueD d2 = true := by simpa using hv
              rw [hv, Bool.true_and] at q
              exact ixT (j := 1) e rfl rfl ⟨b, k, p, rfl, hp, q⟩
        | _ => exact Sel.t (Sel.t q)
  | _ => exact Sel.yes rfl (Sel.t q)
theorem len_is_fork (K : PySem.W.Frag) (A : Adr) : ∀ vs H Q E, sp_is_fork K A vs H Q E → vs.length = 4 := by rintro vs H Q E ⟨b, p, g, v, d, rfl, _⟩; rfl
theorem rd_is_fork (T : Txt K mg A) (vs : List V) (H : Hp) (Q : VK) (E : XK) (h : sp_is_fork K A vs H Q E) : T_is_fork K A { nx := fun _ H' => Q .non H', rt := Q } (L2.start ["bits", "depth", "begin", "thing"] vs) H := by
  obtain ⟨b, p, g, v, d, rfl, p0, b60, hp, w, ok, q⟩ := h
  refine ⟨by decide, _, w.ty, ?_⟩
  cases w with
  | @tup a xs ds e r =>
    obtain ⟨ok, dp⟩ := ok.tup
    have el := r.len
    refine Sel.no rfl (.inl (.inr (.inl ⟨_, SqT.of e, Sel.ndec (fun ne => Sel.t ?_) (fun he => ?_)⟩)))
    · have e2 : isForkD b p g (.tup ds) = false := by
        unfold isForkD
        split
        · rename_i heq; cases heq; simp at el; omega
        · rfl
      rw [e2] at q; exact q
    · cases r with
      | nil => simp at he
      | @cons x0 _ d0 _ w0 r =>
      cases r with
      | nil => simp at he
      | @cons x1 _ d1 _ w1 r =>
      cases r with
      | nil => simp at he
      | @cons x2 _ d2 _ w2 r =>
      cases r with
      | nil => simp at he
      | @cons x3 _ d3 _ w3 r =>
      cases r with
      | nil => simp at he
      | @cons x4 _ d4 _ w4 r =>
      cases r with
      | cons _ _ => simp at he; omega
      | nil =>
      have o0 := ok_mem ok (d := d0) (by simp)
      have pp := dp_mem (d := d0) (ds := [d0, d1, d2, d3, d4]) (by simp)
      refine ixT (j := 0) e rfl rfl (ne_word w0 o0 (by omega) (by decide +kernel) (Sel.mk (fun hn => ?_) (fun hy => ?_)))
      · have hn : isStrD "fork" d0 = false := by simpa using hn
        have e2 : isForkD b p g (.tup [d0, d1, d2, d3, d4]) = false := by
          cases d1 <;> first | rfl | (cases d2 <;> first | rfl | (show (isStrD "fork" d0 && _ && _ && _) = false; rw [hn]; rfl))
        rw [e2] at q; exact q
      · have hy : isStrD "fork" d0 = true := by simpa using hy
        refine ixT (j := 1) e rfl rfl ⟨x1, d1, rfl, w1, ?_⟩
        cases w1 with
        | int ee =>
          refine Sel.no rfl (ixT (j := 1) e rfl rfl ?_)
          have bad : decide (p ≤ ee ∧ ee < b) = false → isForkD b p g (.tup [d0, .int ee, d2, d3, d4]) = false := fun z => by
            cases d2 <;> first | rfl | (show (isStrD "fork" d0 && _ && _ && _) = false; rw [z]; simp)
          refine Sel.dec (fun h1 => Sel.ndec (fun h2 => ?_) (fun h2 => ?_)) (fun h1 => ?_)
          · rw [bad (decide_eq_false fun z => h2 z.2)] at q; exact q
          · refine ixT (j := 2) e rfl rfl ⟨x2, d2, rfl, w2, ?_⟩
            cases w2 with
            | int bb =>
              have e2 : isForkD b p g (.tup [d0, .int ee, .int bb, d3, d4]) = (decide (0 ≤ bb ∧ bb < 2 ^ ee.toNat) && decide (bb / 2 ^ (ee - p).toNat = g)) := by
                show (isStrD "fork" d0 && decide (p ≤ ee ∧ ee < b) && _ && _) = _
                rw [hy, decide_eq_true ⟨h1, h2⟩]; simp
              rw [e2] at q
              refine Sel.no rfl (ixT (j := 2) e rfl rfl ?_)
              refine Sel.dec (fun h3 => ixT (j := 1) e rfl rfl ⟨⟨by omega, by omega, by decide⟩, Sel.mk (fun h4 => ?_) (fun h4 => ?_)⟩) (fun h3 => ?_)
              · rw [Int.one_mul] at h4
                have h4 : ¬ bb < 2 ^ ee.toNat := by simpa using h4
                rw [decide_eq_false (fun z => h4 z.2)] at q; exact q
              · rw [Int.one_mul] at h4
                have h4 : bb < 2 ^ ee.toNat := by simpa using h4
                rw [decide_eq_true ⟨h3, h4⟩, Bool.true_and] at q
                exact ixT (j := 2) e rfl rfl (ixT (j := 1) e rfl rfl ⟨by omega, q⟩)
              · rw [decide_eq_false (fun z => h3 z.1)] at q; exact Sel.yes rfl q
            | _ => exact Sel.yes rfl (Sel.t q)
          · rw [bad (decide_eq_false fun z => h1 z.1)] at q; exact Sel.yes rfl q
        | _ => exact Sel.yes rfl (Sel.t q)
  | _ => exact Sel.yes rfl (Sel.t q)
end Rs
namespace Rs
open PySem PySem.Spec PyProof.Rows L2
theorem isFork_shape {b p g : Int} {d : Dat} (h : isForkD b p g d = true) : ∃ w e bb m n, d = .tup [w, .int e, .int bb, m, n] ∧ p ≤ e ∧ e < b := by
  unfold isForkD at h
  split at h
  · rename_i w e bb m n
    simp only [Bool.and_eq_true, decide_eq_true_eq] at h
    exact ⟨w, e, bb, m, n, rfl, h.1.1.2.1, h.1.1.2.2⟩
  · cases h
variable {K : PySem.W.Frag} {mg : Str → Option Value} {A : Adr}
theorem len_is_end (K : PySem.W.Frag) (A : Adr) : ∀ vs H Q E, sp_is_end K A vs H Q E → vs.length = 4 := by rintro vs H Q E ⟨b, k, p, v, d, rfl, _⟩; rfl
theorem rd_is_end (T : Txt K mg A) (vs : List V) (H : Hp) (Q : VK) (E : XK) (h : sp_is_end K A vs H Q E) : T_is_end K A { nx := fun _ H' => Q .non H', rt := Q } (L2.start ["bits", "key", "place", "thing", "begin"] vs) H := by
  obtain ⟨b, k, p, v, d, rfl, p0, b60, hp, w, ok, q⟩ := h
  refine ⟨line_ge (n := 1) (by decide), fun r hr => ?_⟩
  have S := Same.upd (o := .tup [V.str "bare"]) hr
  have q := q _ S
  have w := w.mono S
  refine eq_bare w ok upd_same ?_
  generalize upd H r (.tup [V.str "bare"]) = H1 at w q ⊢
  unfold isEndD at q
  refine Sel.mk (fun hb => ?_) (fun hb => ?_)
  · rw [hb, if_pos rfl] at q; exact q
  · rw [hb] at q
    have q : Q (.bl (isLeafD b p (startI b k p) d || (isForkD b p (startI b k p) d && tailD b k d))) H1 := q
    refine ⟨b, k, p, rfl, hp, b, p, startI b k p, v, d, rfl, by omega, b60, hp, w, ok, ?_⟩
    refine Sel.mk (fun hl => ?_) (fun hl => ?_)
    · rw [hl, Bool.true_or] at q; exact q
    · rw [hl, Bool.false_or] at q
      refine ⟨b, p, startI b k p, v, d, rfl, p0, b60, hp, w, ok, ?_⟩
      refine Sel.mk (fun hf => ?_) (fun hf => ?_)
      · have hf : isForkD b p (startI b k p) d = false := by simpa only [Bool.not_eq_true'] using hf
        rw [hf, Bool.false_and] at q; exact q
      · have hf : isForkD b p (startI b k p) d = true := by simpa only [Bool.not_eq_false'] using hf
        rw [hf, Bool.true_and] at q
        obtain ⟨w0, e, bb, m, n, rfl, h1, h2⟩ := isFork_shape hf
        have q : Q (.bl (!decide (bb = startI b k e) && isStampD m && isStampD n)) H1 := q
        cases w with
        | tup ea r =>
        cases r with
        | cons _ r =>
        cases r with
        | cons z1 r =>
        cases r with
        | cons z2 r =>
        cases r with
        | cons z3 r =>
        cases r with
        | cons z4 r =>
        cases r
        cases z1
        cases z2
        refine ixT (j := 2) ea rfl rfl (ixT (j := 1) ea rfl rfl ⟨b, k, e, rfl, by omega, ?_⟩)
        refine Sel.dec (fun he => ?_) (fun he => ?_)
        · rw [decide_eq_true he] at q; exact q
        · rw [decide_eq_false he] at q
          refine ixT (j := 3) ea rfl rfl ⟨_, _, rfl, z3, Sel.mk (fun hm => ?_) (fun hm => ?_)⟩
          · rw [hm] at q
            exact ixT (j := 4) ea rfl rfl ⟨_, _, rfl, z4, q⟩
          · rw [hm] at q; exact q
theorem areSteps_last {b : Int} : ∀ {ds : List Dat} {l : Int}, 0 ≤ l → areStepsD b l ds = true → ∀ {s}, ds.getLast? = some s → ∃ i m, s = .tup [.int i, m] ∧ 0 ≤ i ∧ i < b
  | [], l, _, _, s, e => by cases e
  | x :: r, l, hl, h, s, e => by
    have h : (isStepD b l x && areStepsD b (depthOf x + 1) r) = true := h
    rw [Bool.and_eq_true] at h
    obtain ⟨i, m, rfl⟩ := isStep_shape h.1
    have hi : (decide (l ≤ i ∧ i < b) && isStampD m) = true := h.1
    rw [Bool.and_eq_true, decide_eq_true_eq] at hi
    cases r with
    | nil =>
      cases e
      exact ⟨i, m, rfl, by omega, hi.1.2⟩
    | cons y r =>
      rw [List.getLast?_cons_cons] at e
      exact areSteps_last (l := i + 1) (by omega) h.2 e
theorem len_is_slip (K : PySem.W.Frag) (A : Adr) : ∀ vs H Q E, sp_is_slip K A vs H Q E → vs.length = 3 := by rintro vs H Q E ⟨b, k, v, d, rfl, _⟩; rfl
theorem rd_is_slip (T : Txt K mg A) (vs : List V) (H : Hp) (Q : VK) (E : XK) (h : sp_is_slip K A vs H Q E) : T_is_slip K A { nx := fun _ H' => Q .non H', rt := Q } (L2.start ["bits", "key", "thing", "place"] vs) H := by
  obtain ⟨b, k, v, d, rfl, b0, b60, w, ok, q⟩ := h
  have q0 := q H (.refl H)
  refine ⟨by decide, _, w.ty, ?_⟩
  cases w with
  | @tup a xs ds e r =>
    have el := r.len
    refine Sel.no rfl (.inl (.inr (.inl ⟨_, SqT.of e, Sel.ndec (fun ne => ?_) (fun he => ?_)⟩)))
    · have e2 : isSlipD b k (.tup ds) = false := by
        unfold isSlipD
        split
        · rename_i heq; cases heq; simp at el; omega
        · rfl
      rw [e2] at q0; exact q0
    · cases r with
      | nil => simp at he
      | @cons x0 _ d0 _ w0 r =>
      cases r with
      | nil => simp at he
      | @cons x1 _ d1 _ w1 r =>
      cases r with
      | cons _ _ => simp at he; omega
      | nil =>
      have ok : endOk d1 := ok
      refine ixT (j := 0) e rfl rfl ⟨b, x0, d0, rfl, w0, ?_⟩
      cases w0 with
      | @tup a0 ys es e0 r0 =>
        have q : ∀ H', Same H H' → Q (.bl (areStepsD b 0 es && isEndD b k (placeD es) d1)) H' := q
        refine Sel.mk (fun hs => ?_) (fun hs => ?_)
        · have hs : areStepsD b 0 es = false := by simpa only [Bool.not_eq_true'] using hs
          have q := q H (.refl H)
          rw [hs] at q; exact q
        · have hs : areStepsD b 0 es = true := by simpa only [Bool.not_eq_false'] using hs
          rw [hs] at q
          refine ixT (j := 0) e rfl rfl ⟨!ys.isEmpty, .inr (.inl ⟨ys, SqT.of e0, rfl⟩), ?_⟩
          have l0 := r0.len
          cases ys with
          | nil =>
            cases r0
            exact Sel.no rfl (ixT (j := 1) e rfl rfl ⟨b, k, 0, x1, d1, rfl, by decide, b60, b0, w1, ok, q⟩)
          | cons y yr =>
            obtain ⟨s, hsl⟩ : ∃ s, es.getLast? = some s := by
              cases es with
              | nil => simp at l0
              | cons z zr => exact ⟨_, List.getLast?_eq_some_getLast (by simp)⟩
            obtain ⟨i, m, rfl, i0, i1⟩ := areSteps_last (Int.le_refl 0) hs hsl
            have hlast : es[es.length - 1]? = some (.tup [.int i, m]) := by rw [← List.getLast?_eq_getElem?]; exact hsl
            have hpl : placeD es = i + 1 := by unfold placeD; rw [hsl]; rfl
            have hpos : 0 < (y :: yr).length := by simp
            obtain ⟨v', hv'⟩ : ∃ v', (y :: yr)[(y :: yr).length - 1]? = some v' := ⟨_, List.getElem?_eq_getElem (by omega)⟩
            obtain ⟨d', hd', wd'⟩ := r0.get hv'
            rw [l0] at hd'
            rw [hlast] at hd'; cases hd'
            refine Sel.yes rfl (ixT (j := 0) e rfl rfl ?_)
            refine .inl (.inr (.inl ⟨a0, y :: yr, -1, v', rfl, rfl, SqT.of e0, ?_, ?_⟩))
            · unfold atI ixN
              rw [if_neg (by decide), if_pos (by simp; omega)]
              show (y :: yr)[(-1 + ((y :: yr).length : Int)).toNat]? = _
              have : (-1 + ((y :: yr).length : Int)).toNat = (y :: yr).length - 1 := by omega
              rw [this]; exact hv'
            · cases wd' with
              | tup ee rr =>
                cases rr with
                | cons z0 rr =>
                  cases z0
                  refine ixT (j := 0) ee rfl rfl (ixT (j := 1) e rfl rfl ⟨b, k, i + 1, x1, d1, rfl, by omega, b60, by omega, w1, ok, ?_⟩)
                  rw [hpl] at q
                  exact q
      | _ => exact Sel.t q0
  | _ => exact Sel.yes rfl (Sel.t q0)
end Rs
namespace Rs
open PySem PySem.Spec PyProof.Rows L2
theorem bits64 {x : Int} (h : x.natAbs < 2 ^ 64) : Builtin.Int.intBits x ≤ 64 := by
  unfold Builtin.Int.intBits
  split
  · decide
  · rename_i hx
    have hx : x ≠ 0 := by simpa using hx
    have : x.natAbs.log2 < 64 := (Nat.log2_lt (by omega)).mpr h
    omega
theorem mulL {x y : Int} (h0 : 0 ≤ x) (h : x < 2 ^ 64) : IntMulOk x y := IntMulOk.of_left (bits64 (by omega))
theorem mulR {x y : Int} (h0 : 0 ≤ y) (h : y < 2 ^ 64) : IntMulOk x y := IntMulOk.of_right (bits64 (by omega))
variable {K : PySem.W.Frag} {mg : Str → Option Value} {A : Adr}
theorem len__law_at (K : PySem.W.Frag) (A : Adr) : ∀ vs H Q E, sp__law_at K A vs H Q E → vs.length = 2 := by rintro vs H Q E ⟨a, ns, k, rfl, _⟩; rfl
theorem rd__law_at (T : Txt K mg A) (vs : List V) (H : Hp) (Q : VK) (E : XK) (h : sp__law_at K A vs H Q E) : T__law_at K A { nx := fun _ H' => Q .non H', rt := Q } (L2.start ["_law_script", "_law_k", "_law_number_here", "_law_cell"] vs) H := by
  obtain ⟨a, ns, k, rfl, hs, h0, q⟩ := h
  refine .inl (.inl ⟨_, hs, Sel.dec (fun h => ?_) (fun h => ?_)⟩)
  · obtain ⟨v, hv⟩ := atI_ex h0 h
    obtain ⟨j, _, hj, _⟩ := atI_get hv
    obtain ⟨z, _, rfl⟩ := map_get hj
    exact .inl (.inl ⟨a, _, k, _, rfl, rfl, hs, hv, q z H (.refl H)⟩)
  · obtain ⟨zs, ez, hz⟩ := cutV_ints ns none (some 5)
    refine .inl (.inl ⟨_, hs, 5, rfl, .inl (.inl ⟨a, _, rfl, hs, fun p hp => ?_⟩)⟩)
    rw [ez]
    refine ⟨p, rfl, .inl ⟨⟨_, SqL.of upd_same⟩, ?_⟩⟩
    refine for_list (xs := zs.map V.int) (fun i σ H' => H' = upd H p (.lst (zs.map V.int)) ∧ ∃ n x3, σ = [some (.ref a), some (.int k), some (.int n), x3]) ⟨rfl, _, none, rfl⟩ ?_ ?_ ?_
    · rintro i σ _ _ ⟨rfl, _⟩; exact SqL.of upd_same
    · rintro i x σ _ hx ⟨rfl, n, x3, rfl⟩
      obtain ⟨z, _, rfl⟩ := map_get hx
      exact ⟨mulR (by decide) (by decide), by decide, rfl, _, _, rfl⟩
    · rintro σ _ ⟨rfl, n, x3, rfl⟩
      refine ⟨IntMulOk.of_left (by decide), by decide, ?_⟩
      have b0 : 0 ≤ (n + 7919 * k) % 1000003 := by omega
      have b1 : (n + 7919 * k) % 1000003 < 1000003 := by omega
      exact ⟨mulL b0 (by omega), by decide, q _ _ (Same.upd hp)⟩
theorem len__law_bits (K : PySem.W.Frag) (A : Adr) : ∀ vs H Q E, sp__law_bits K A vs H Q E → vs.length = 1 := by rintro vs H Q E ⟨c, rfl, _⟩; rfl
theorem rd__law_bits (T : Txt K mg A) (vs : List V) (H : Hp) (Q : VK) (E : XK) (h : sp__law_bits K A vs H Q E) : T__law_bits K A { nx := fun _ H' => Q .non H', rt := Q } (L2.start ["_law_cell"] vs) H := by
  obtain ⟨c, rfl, q⟩ := h
  refine ⟨⟨by decide, by decide⟩, line_ge (n := 3) (by decide), fun p hp => ⟨by decide, ?_⟩⟩
  have hc : c % 3 = 0 ∨ c % 3 = 1 ∨ c % 3 = 2 := by omega
  have S := Same.upd (o := .lst [V.int 60, .int 8, .int 60]) hp
  rcases hc with e | e | e <;> rw [e]
  · exact ixL (j := 0) upd_same rfl rfl ⟨by decide, q _ _ S (by omega) (by omega)⟩
  · exact ixL (j := 1) upd_same rfl rfl ⟨by decide, q _ _ S (by omega) (by omega)⟩
  · exact ixL (j := 2) upd_same rfl rfl ⟨by decide, q _ _ S (by omega) (by omega)⟩
theorem flip_in {x : Int} {j m : Nat} (x0 : 0 ≤ x) (hm : j < m) (x1 : x < 2 ^ m) : 0 ≤ Builtin.bitXor x (1 * 2 ^ j) ∧ Builtin.bitXor x (1 * 2 ^ j) < 2 ^ m := by
  obtain ⟨y, rfl⟩ := Int.eq_ofNat_of_zero_le x0
  have e : (1 : Int) * 2 ^ j = ((2 ^ j : Nat) : Int) := by rw [Int.one_mul, pow2z]
  rw [e, bitXor_nat, ← pow2z]
  refine ⟨by omega, ?_⟩
  have y1 : y < 2 ^ m := by rw [← pow2z] at x1; exact_mod_cast x1
  have := Nat.xor_lt_two_pow (n := m) y1 (Nat.pow_lt_pow_right (by decide : 1 < 2) hm)
  exact_mod_cast this
theorem len__law_key (K : PySem.W.Frag) (A : Adr) : ∀ vs H Q E, sp__law_key K A vs H Q E → vs.length = 3 := by rintro vs H Q E ⟨b, c, o, ks, rfl, _⟩; rfl
theorem rd__law_key (T : Txt K mg A) (vs : List V) (H : Hp) (Q : VK) (E : XK) (h : sp__law_key K A vs H Q E) : T__law_key K A { nx := fun _ H' => Q .non H', rt := Q } (L2.start ["_law_bits_here", "_law_cell", "_law_others", "_law_many", "_law_number_here", "_law_flip"] vs) H := by
  obtain ⟨b, c, o, ks, rfl, b1, b60, ho, kl, kk, q⟩ := h
  have hp : (0 : Int) < 1 * 2 ^ b.toNat := by rw [Int.one_mul]; exact pow2_pos _
  have e1 : (1 : Int) * 2 ^ b.toNat = 2 ^ b.toNat := Int.one_mul _
  have fin : ∀ (n : Int) (H' : Hp), Same H H' → Q (.int (n % (1 * 2 ^ b.toNat))) H' := fun n H' s => q _ _ s (Int.emod_nonneg _ (Int.ne_of_gt hp)) (Int.lt_of_lt_of_le (Int.emod_lt_of_pos _ hp) (Int.le_of_eq e1))
  refine ⟨⟨by omega, by omega, by decide⟩, ⟨by decide, by decide⟩, by decide, Sel.dec (fun h => ?_) (fun h => ?_)⟩
  · exact ⟨hp, fin _ H (.refl H)⟩
  refine ⟨by decide, Sel.dec (fun h1 => ?_) (fun h1 => ?_)⟩
  · have h2 := Int.emod_nonneg (c / 5) (b := 1 * 2 ^ b.toNat) (by omega)
    have h3 := Int.emod_lt_of_pos (c / 5) hp
    exact ⟨hp, q _ _ (.refl H) (by omega) (Int.lt_of_lt_of_le (b := 1 * 2 ^ b.toNat) (by omega) (Int.le_of_eq e1))⟩
  refine ⟨by decide, Sel.dec (fun h2 => ?_) (fun h2 => Sel.f ?_)⟩
  · refine ⟨line_ge (n := 0) (by decide), fun p hp' => ⟨_, _, .lst (SqL.of (Same.upd hp' _ _ ho)) (datVs_ints ks), .lst (SqL.of upd_same) .nil, canLay_ints ks, rfl, depth_ints ks, ?_⟩⟩
    cases ks with
    | nil => exact Sel.no rfl ⟨mulR (by decide) (by decide), hp, fin _ _ (Same.upd hp')⟩
    | cons x xr =>
      cases xr with
      | cons y yr => simp at kl
      | nil =>
      refine Sel.yes rfl ⟨mulR (by decide) (by decide), by decide, by omega, .inl (.inl ⟨_, SqL.of (Same.upd hp' _ _ ho), by simp, ?_⟩)⟩
      have hx := kk x List.mem_cons_self
      have r0 := Int.emod_nonneg (c / 5 * 48271 % 65537) (b := b) (by omega)
      have r1 := Int.emod_lt_of_pos (c / 5 * 48271 % 65537) (b := b) (by omega)
      have fl := flip_in (j := (c / 5 * 48271 % 65537 % b).toNat) hx.1 (by omega) hx.2
      refine ixL (j := 0) (Same.upd hp' _ _ ho) ?_ rfl ⟨⟨by omega, by omega, by decide⟩, q _ _ (Same.upd hp') fl.1 fl.2⟩
      show c / 5 % 1 = 0
      omega
  · exact ⟨mulR (by decide) (by decide), hp, fin _ H (.refl H)⟩
theorem len__law_mark (K : PySem.W.Frag) (A : Adr) : ∀ vs H Q E, sp__law_mark K A vs H Q E → vs.length = 1 := by rintro vs H Q E ⟨c, rfl, _⟩; rfl
theorem str50 : ∀ n : Fin 50, okD (.str (("m" : Str) ++ Str.ofString (toString (((n : Nat) : Int))))) = true ∧ (Str.ofString (toString (((n : Nat) : Int)))).length ≤ 2 := by decide +kernel
theorem stampI {i : Int} (h0 : 0 ≤ i) (h1 : i < 10 ^ 60) : stampK (.inl i) := ⟨decide_eq_true ⟨h0, h1⟩, rfl⟩
theorem rd__law_mark (T : Txt K mg A) (vs : List V) (H : Hp) (Q : VK) (E : XK) (h : sp__law_mark K A vs H Q E) : T__law_mark K A { nx := fun _ H' => Q .non H', rt := Q } (L2.start ["_law_number_here"] vs) H := by
  obtain ⟨c, rfl, q⟩ := h
  refine ⟨mulR (by decide) (by decide), by decide, ?_⟩
  have n0 : 0 ≤ c * 69621 % 1000003 := by omega
  have n1 : c * 69621 % 1000003 < 1000003 := by omega
  show tSeq _ _ _ [some (V.int (c * 69621 % 1000003))] H
  generalize c * 69621 % 1000003 = n at n0 n1 ⊢
  have big : (1000003 : Int) * 10 ^ 30 < 10 ^ 60 := by decide +kernel
  have p30 : (0 : Int) < 10 ^ 30 := by decide +kernel
  have p60 : (1000003 : Int) < 10 ^ 60 := by decide +kernel
  refine ⟨by decide, Sel.dec (fun h => ?_) (fun h => ?_)⟩
  · have l0 : 0 ≤ n % 50 := by omega
    have l1 : n % 50 < 50 := by omega
    obtain ⟨j, hj⟩ := Int.eq_ofNat_of_zero_le l0
    obtain ⟨s1, s2⟩ := str50 ⟨j, by omega⟩
    have s1 : okD (.str (("m" : Str) ++ Str.ofString (toString ((j : Nat) : Int)))) = true := s1
    have s2 : (Str.ofString (toString ((j : Nat) : Int))).length ≤ 2 := s2
    refine ⟨by decide, ?_⟩
    rw [hj]
    exact ⟨Nat.lt_of_le_of_lt (Nat.log2_le_self _) (by omega), Nat.le_trans (Nat.add_le_add (Nat.le_refl 1) s2) (line_ge (by decide)), q (.inr _) ⟨rfl, s1⟩⟩
  refine ⟨by decide, Sel.dec (fun h1 => ?_) (fun h1 => ?_)⟩
  · exact ⟨⟨by decide, by decide⟩, by decide, q (.inl _) (stampI (by omega) (by omega))⟩
  refine ⟨by decide, Sel.dec (fun h2 => ?_) (fun h2 => ?_)⟩
  · refine ⟨⟨by decide, by decide, by decide⟩, mulL n0 (by omega), q (.inl _) (stampI ?_ ?_)⟩
    · exact Int.mul_nonneg n0 (Int.le_of_lt p30)
    · have : n * 10 ^ 30 < 1000003 * 10 ^ 30 := Int.mul_lt_mul_of_pos_right n1 p30
      show n * 10 ^ 30 < 10 ^ 60
      omega
  · refine ⟨⟨by decide, by decide, by decide⟩, q (.inl _) (stampI ?_ ?_)⟩
    · show 0 ≤ (10 : Int) ^ 60 - 1 - n
      omega
    · show (10 : Int) ^ 60 - 1 - n < 10 ^ 60
      omega
end Rs
namespace Rs
open PySem PySem.Spec PyProof.Rows L2
theorem repl_div {k W t : Int} (hW : 0 < W) (t0 : 0 ≤ t) (t1 : t < W) : (k - k % W + t) / W = k / W := by
  have e := Int.mul_ediv_add_emod k W
  have : k - k % W + t = W * (k / W) + t := by omega
  rw [this, Int.mul_add_ediv_left _ _ (by omega), Int.ediv_eq_zero_of_lt t0 t1, Int.add_zero]
theorem repl_lo {k W t : Int} (hW : 0 < W) (k0 : 0 ≤ k) (t0 : 0 ≤ t) : 0 ≤ k - k % W + t := by
  have e := Int.mul_ediv_add_emod k W
  have h := Int.mul_nonneg (Int.le_of_lt hW) (Int.ediv_nonneg k0 (Int.le_of_lt hW))
  omega
theorem repl_hi {k W t M : Int} (hW : 0 < W) (t1 : t < W) (hk : k < M * W) : k - k % W + t < M * W := by
  have e := Int.mul_ediv_add_emod k W
  have h := Int.ediv_lt_of_lt_mul hW hk
  have h2 : W * (k / W + 1) ≤ W * M := Int.mul_le_mul_of_nonneg_left (by omega) (Int.le_of_lt hW)
  rw [Int.mul_add, Int.mul_one, Int.mul_comm W M] at h2
  omega
theorem turn_ne {r t W : Int} (r0 : 0 ≤ r) (r1 : r < W) (t0 : 0 ≤ t) (t1 : t < W - 1) : (r + 1 + t) % W ≠ r := by
  by_cases h : r + 1 + t < W
  · rw [Int.emod_eq_of_lt (by omega) h]; omega
  · have e : (r + 1 + t) % W = r + 1 + t - W := by
      have := Int.add_emod_right (r + 1 + t - W) W
      rw [show r + 1 + t - W + W = r + 1 + t by omega] at this
      rw [this, Int.emod_eq_of_lt (by omega) (by omega)]
    rw [e]; omega
theorem pow_split {a b : Int} (h0 : 0 ≤ a) (h : a ≤ b) : (2 : Int) ^ b.toNat = 2 ^ a.toNat * 2 ^ (b - a).toNat := by
  rw [← Int.pow_add]
  congr 1
  omega
theorem div_div {x y z : Int} (hy : 0 < y) : x / y / z = x / (y * z) := by
  rw [Int.ediv_ediv, if_neg (by omega), Int.sub_zero]
theorem startI_lt {b k e : Int} (e0 : 0 ≤ e) (h : e ≤ b) (hk : k < 2 ^ b.toNat) : startI b k e < 2 ^ e.toNat := by
  unfold startI
  refine Int.ediv_lt_of_lt_mul (pow2_pos _) ?_
  rw [← pow_split e0 h]; exact hk
theorem startI_nn {b k e : Int} (k0 : 0 ≤ k) : 0 ≤ startI b k e := Int.ediv_nonneg k0 (Int.le_of_lt (pow2_pos _))
theorem startI_start {b k e l : Int} (h1 : l ≤ e) (h2 : e ≤ b) : startI b k e / 2 ^ (e - l).toNat = startI b k l := by
  unfold startI
  rw [div_div (pow2_pos _), ← Int.pow_add]
  congr 2
  omega
theorem end_leaf {b k l x : Int} {z : Str} (l0 : 0 ≤ l) (hl : l ≤ b) (x0 : 0 ≤ x) (x1 : x < 2 ^ b.toNat) (hs : startI b x l = startI b k l) (hz : z.length ≤ 60) : isEndD b k l (.tup [.str "leaf", .int x, .str z]) = true := by
  unfold isEndD
  have e1 : isBareD (.tup [.str "leaf", .int x, .str z]) = false := rfl
  rw [e1]
  have e2 : isLeafD b l (startI b k l) (.tup [.str "leaf", .int x, .str z]) = true := by
    show (decide (("leaf" : Str) = "leaf") && decide (0 ≤ x ∧ x < 2 ^ b.toNat) && decide (z.length ≤ 60) && decide (startI b x l = startI b k l)) = true
    rw [decide_eq_true rfl, decide_eq_true ⟨x0, x1⟩, decide_eq_true hz, decide_eq_true hs]; rfl
  rw [e2]; rfl
theorem end_fork {b k l e bb : Int} {m n : Dat} (hl : l ≤ e) (he : e < b) (b0 : 0 ≤ bb) (b1 : bb < 2 ^ e.toNat) (hs : bb / 2 ^ (e - l).toNat = startI b k l) (hne : bb ≠ startI b k e) (hm : isStampD m = true) (hn : isStampD n = true) : isEndD b k l (.tup [.str "fork", .int e, .int bb, m, n]) = true := by
  unfold isEndD
  have e1 : isBareD (.tup [.str "fork", .int e, .int bb, m, n]) = false := rfl
  rw [e1]
  have e2 : isForkD b l (startI b k l) (.tup [.str "fork", .int e, .int bb, m, n]) = true := by
    show (decide (("fork" : Str) = "fork") && decide (l ≤ e ∧ e < b) && decide (0 ≤ bb ∧ bb < 2 ^ e.toNat) && decide (bb / 2 ^ (e - l).toNat = startI b k l)) = true
    rw [decide_eq_true rfl, decide_eq_true ⟨hl, he⟩, decide_eq_true ⟨b0, b1⟩, decide_eq_true hs]; rfl
  have e3 : tailD b k (.tup [.str "fork", .int e, .int bb, m, n]) = true := by
    show (!decide (bb = startI b k e) && isStampD m && isStampD n) = true
    rw [decide_eq_false hne, hm, hn]; rfl
  rw [e2, e3]
  simp
theorem strOk_app {x y : Str} (h1 : ascS x = true) (h2 : ascS y = true) : ascS (x ++ y) = true := by
  unfold ascS at h1 h2 ⊢
  show (x.cps ++ y.cps).all _ = true
  rw [Array.all_append, h1, h2]; rfl
theorem dat_kV (H : Hp) (m : Key) : DatW H (kV m) (datK m) := by cases m <;> constructor
theorem dp_datK (m : Key) : (toPy (datK m)).depth = 0 := by cases m <;> rfl
mutual
noncomputable def noL : Dat → Bool
  | .lst _ => false
  | .tup ds => noLs ds
  | .non => true
  | .bl _ => true
  | .int _ => true
  | .str _ => true
  | .dic => true
noncomputable def noLs : List Dat → Bool
  | [] => true
  | d :: r => noL d && noLs r
end
theorem areSteps_snoc {b e : Int} {m : Dat} (hm : isStampD m = true) (he : e < b) : ∀ {ds : List Dat} {l : Int}, areStepsD b l ds = true → placeFrom l ds ≤ e → areStepsD b l (ds ++ [.tup [.int e, m]]) = true
  | [], l, _, hp => by
    have hp : l ≤ e := hp
    show ((decide (l ≤ e ∧ e < b) && isStampD m) && true) = true
    rw [decide_eq_true ⟨hp, he⟩, hm]; rfl
  | s :: r, l, h, hp => by
    have h : (isStepD b l s && areStepsD b (depthOf s + 1) r) = true := h
    rw [Bool.and_eq_true] at h
    show (isStepD b l s && areStepsD b (depthOf s + 1) (r ++ [.tup [.int e, m]])) = true
    rw [h.1, areSteps_snoc hm he h.2 ?_]
    · rfl
    · cases r with
      | nil => exact hp
      | cons y r =>
        unfold placeFrom at hp ⊢
        rw [List.getLast?_cons_cons] at hp; exact hp
theorem placeFrom_snoc (l : Int) (ds : List Dat) (e : Int) (m : Dat) : placeFrom l (ds ++ [.tup [.int e, m]]) = e + 1 := by
  unfold placeFrom
  rw [List.getLast?_append]; rfl
theorem DatWs.append {H : Hp} : ∀ {xs ys : List V} {ds es : List Dat}, DatWs H xs ds → DatWs H ys es → DatWs H (xs ++ ys) (ds ++ es)
  | _, _, _, _, .nil, h => h
  | _, _, _, _, .cons a r, h => .cons a (r.append h)
theorem okDs_app : ∀ {ds es : List Dat}, okDs ds = true → okDs es = true → okDs (ds ++ es) = true
  | [], _, _, h => h
  | d :: r, es, h, h2 => by
    have h : (okD d && okDs r) = true := h
    rw [Bool.and_eq_true] at h
    show (okD d && okDs (r ++ es)) = true
    rw [h.1, okDs_app h.2 h2]; rfl
theorem dpAll_app : ∀ {ds es : List Dat}, PyData.depthAll (toPys (ds ++ es)) = max (PyData.depthAll (toPys ds)) (PyData.depthAll (toPys es))
  | [], es => by show PyData.depthAll (toPys es) = max 0 (PyData.depthAll (toPys es)); exact (Nat.zero_max _).symm
  | d :: r, es => by
    show max (toPy d).depth (PyData.depthAll (toPys (r ++ es))) = max (max (toPy d).depth (PyData.depthAll (toPys r))) _
    rw [dpAll_app, Nat.max_assoc]
mutual
theorem DatW.keep {H H' : Hp} {D : Addr} {v : V} {d : Dat} (h : DatW H v d) (hk : ∀ b o, H b = some o → b ≠ D → H' b = some o) (hn : DatW H v d → ∀ b o, H b = some o → (∀ xs, o ≠ .lst xs) → b ≠ D) (nl : noL d = true) : DatW H' v d := by
  cases h with
  | non => exact .non
  | bl b => exact .bl b
  | int i => exact .int i
  | str z => exact .str z
  | lst e r => cases nl
  | tup e r => exact .tup (hk _ _ e (hn (.tup e r) _ _ e (fun _ z => nomatch z))) (DatWs.keep r hk (hn (.tup e r)) nl)
  | dic e => exact .dic (e.imp (fun ⟨k, e'⟩ => ⟨k, hk _ _ e' (hn (.dic e) _ _ e' (fun _ z => nomatch z))⟩) fun ⟨k, e'⟩ => ⟨k, hk _ _ e' (hn (.dic e) _ _ e' (fun _ z => nomatch z))⟩)
theorem DatWs.keep {H H' : Hp} {D : Addr} {xs : List V} {ds : List Dat} (h : DatWs H xs ds) (hk : ∀ b o, H b = some o → b ≠ D → H' b = some o) (hn : ∀ b o, H b = some o → (∀ xs, o ≠ .lst xs) → b ≠ D) (nl : noLs ds = true) : DatWs H' xs ds := by
  cases h with
  | nil => exact .nil
  | cons a r =>
    have nl : (noL _ && noLs _) = true := nl
    rw [Bool.and_eq_true] at nl
    exact .cons (DatW.keep a hk (fun _ => hn) nl.1) (DatWs.keep r hk hn nl.2)
end
theorem ixLast {K : PySem.W.Frag} {H : Hp} {a : Addr} {ys : List V} {es : List Dat} {d : Dat} {Q : VK} (hl : es.getLast? = some d) (r : DatWs H ys es) (e0 : H a = some (.tup ys)) (q : ∀ v, DatW H v d → Q v H) : rIxA K (.ref a) (.int (-1)) H Q := by
  have l0 := r.len
  have hpos : 0 < ys.length := by
    cases es with
    | nil => cases hl
    | cons _ _ => rw [l0]; simp
  obtain ⟨v', hv'⟩ : ∃ v', ys[ys.length - 1]? = some v' := ⟨_, List.getElem?_eq_getElem (by omega)⟩
  obtain ⟨d', hd', wd'⟩ := r.get hv'
  rw [l0, ← List.getLast?_eq_getElem?, hl] at hd'
  cases hd'
  refine .inl (.inr (.inl ⟨a, ys, -1, v', rfl, rfl, SqT.of e0, ?_, q v' wd'⟩))
  unfold atI ixN
  rw [if_neg (by decide), if_pos (by omega)]
  show ys[(-1 + (ys.length : Int)).toNat]? = _
  have : (-1 + (ys.length : Int)).toNat = ys.length - 1 := by omega
  rw [this]; exact hv'
end Rs
namespace Rs
open PySem PySem.Spec PyProof.Rows L2
noncomputable def sg1 : Str := " !\"#$&'()*+,-./0123456789:;<=>?@ABCDEFGHIJKLMNOPQRSTUVWXYZ[\\]^_`"
noncomputable def sg2 : Str := "abcdefghijklmnopqrstuvwxyz{|}~"
theorem sg_len : (sg1 ++ sg2).length = 94 ∧ (sg1 ++ sg2).cps.toList.length = 94 ∧ (sg1 ++ sg2).cps.toList.all (· < 128) = true := by decide +kernel
theorem noLs_app : ∀ {ds es : List Dat}, noLs ds = true → noLs es = true → noLs (ds ++ es) = true
  | [], _, _, h => h
  | d :: r, es, h, h2 => by
    have h : (noL d && noLs r) = true := h
    rw [Bool.and_eq_true] at h
    show (noL d && noLs (r ++ es)) = true
    rw [h.1, noLs_app h.2 h2]; rfl
noncomputable def LE (K : PySem.W.Frag) (A : Adr) : TS := tSeq (tAsg (tOp (mShr) (mVar 2) (tOp (mSub) (mVar 1) (mVar 5))) (gName 6)) (tSeq (tAsg (tOp (mShl) (tC (.int 1)) (tOp (mSub) (mVar 5) (mVar 3))) (gName 7)) (tSeq (tAsg (tOp (mMod) (tOp (mAddG K) (tOp (mAddG K) (tOp (mMod) (mVar 6) (mVar 7)) (tC (.int 1))) (tOp (mMod) (tOp (mMulB) (mVar 4) (tC (.int 69621))) (tOp (mSub) (mVar 7) (tC (.int 1))))) (mVar 7)) (gName 8)) (tRet (tTup (tCons (tC (.str "fork")) (tCons (mVar 5) (tCons (tOp (mAddG K) (tOp (mSub) (mVar 6) (tOp (mMod) (mVar 6) (mVar 7))) (mVar 8)) (tCons (tCallX (sp__law_mark K A) (fun _ => E0) (tCons (mVar 4) (tNil))) (tCons (tCallX (sp__law_mark K A) (fun _ => E0) (tCons (tOp (mAddG K) (tOp (mFdivB) (mVar 4) (tC (.int 7))) (tC (.int 5))) (tNil))) (tNil))))))))))
theorem okS_leaf : okD (.str "leaf") = true := by decide +kernel
theorem okS_fork : okD (.str "fork") = true := by decide +kernel
theorem okS_z {z : Str} (h : ascS z = true) (hl : z.length ≤ 1000) : okD (.str z) = true := by
  show (ascS z && decide (z.length ≤ 1000)) = true
  rw [h, decide_eq_true hl]; rfl
variable {K : PySem.W.Frag} {mg : Str → Option Value} {A : Adr}
theorem len__law_text (K : PySem.W.Frag) (A : Adr) : ∀ vs H Q E, sp__law_text K A vs H Q E → vs.length = 1 := by rintro vs H Q E ⟨c, rfl, _⟩; rfl
theorem rd__law_text (T : Txt K mg A) (vs : List V) (H : Hp) (Q : VK) (E : XK) (h : sp__law_text K A vs H Q E) : T__law_text K A { nx := fun _ H' => Q .non H', rt := Q } (L2.start ["_law_cell", "_law_signs", "_law_size", "_law_made", "_law_k"] vs) H := by
  obtain ⟨c, rfl, q⟩ := h
  obtain ⟨g1, g2, g3⟩ := sg_len
  have rest : ∀ sz : Int, 0 ≤ sz → sz ≤ 60 → R__law_text_5 K A { nx := fun _ H' => Q .non H', rt := Q } [some (.int c), some (.str (sg1 ++ sg2)), some (.int sz), none, none] H := by
    intro sz s0 s1
    refine ⟨sz, rfl, by omega, by omega, ?_⟩
    refine for_range (fun i σ H' => H' = H ∧ ∃ z x4, σ = [some (.int c), some (.str (sg1 ++ sg2)), some (.int sz), some (.str z), x4] ∧ z.length = i ∧ ascS z = true) ⟨rfl, "", none, rfl, by decide, by decide +kernel⟩ ?_ ?_
    · rintro i σ _ hi ⟨rfl, z, x4, rfl, hz, ho⟩
      refine ⟨⟨by decide, by decide⟩, ⟨by decide, by decide⟩, by decide, mulR (by omega) (by omega), .inl ⟨by rw [g1]; exact line_ge (by decide), by rw [g1]; decide, ?_⟩⟩
      generalize (c / 4 + _ : Int) = w
      have e94 : ((sg1 ++ sg2).length : Int) = 94 := by rw [g1]; rfl
      rw [e94]
      obtain ⟨cc, hcc⟩ := atI_ex (xs := (sg1 ++ sg2).cps.toList) (i := w % 94) (by omega) (by rw [g2]; omega)
      refine .inl (.inr (.inr ⟨_, _, cc, rfl, rfl, by rw [g1]; exact line_ge (by decide), hcc, ?_⟩))
      refine ⟨by rw [hz]; exact line_ge (by show i + 1 ≤ 1000000; omega), rfl, z ++ ⟨#[cc]⟩, _, rfl, by rw [strLen_append, hz]; rfl, strOk_app ho ?_⟩
      obtain ⟨j, _, hj, _⟩ := atI_get hcc
      have := of_decide_eq_true (List.all_eq_true.mp g3 cc (List.mem_of_getElem? hj))
      unfold ascS
      simp
      omega
    · rintro σ _ ⟨rfl, z, x4, rfl, hz, ho⟩
      exact q z _ (.refl _) (by omega) ho
  have rest4 : ∀ sz : Int, 0 ≤ sz → sz ≤ 60 → R__law_text_4 K A { nx := fun _ H' => Q .non H', rt := Q } [some (.int c), some (.str (sg1 ++ sg2)), some (.int sz), none, none] H := by
    intro sz s0 s1
    refine ⟨⟨by decide, by decide⟩, by decide, Sel.dec (fun h => ?_) (fun h => rest sz s0 s1)⟩
    exact ⟨⟨by decide, by decide⟩, by decide, rest (c / 32 % 61) (by omega) (by omega)⟩
  refine ⟨line_ge (by decide +kernel), by decide, ⟨by decide, by decide⟩, by decide, Sel.dec (fun h => rest4 60 (by decide) (by decide)) (fun h => rest4 (c % 4) (by omega) (by omega))⟩
theorem len__law_steps (K : PySem.W.Frag) (A : Adr) : ∀ vs H Q E, sp__law_steps K A vs H Q E → vs.length = 3 := by rintro vs H Q E ⟨c, l, b, rfl, _⟩; rfl
theorem rd__law_steps (T : Txt K mg A) (vs : List V) (H : Hp) (Q : VK) (E : XK) (h : sp__law_steps K A vs H Q E) : T__law_steps K A { nx := fun _ H' => Q .non H', rt := Q } (L2.start ["_law_cell", "_law_low", "_law_bits_here", "_law_number_here", "_law_found", "_law_depth"] vs) H := by
  obtain ⟨c, l, b, rfl, l0, lb, b60, q⟩ := h
  refine ⟨⟨by decide, by decide⟩, by decide, line_ge (n := 0) (by decide), fun D hD => ⟨l, b, rfl, ⟨by omega, by omega, by omega, by omega⟩, ?_⟩⟩
  have n0 : 0 ≤ c / 4 % 65537 := by omega
  have n1 : c / 4 % 65537 < 65537 := by omega
  refine for_range (fun i σ H' => ∃ xs ds x5, σ = [some (.int c), some (.int l), some (.int b), some (.int (c / 4 % 65537)), some (.ref D), x5] ∧ Same H H' ∧ H' D = some (.lst xs) ∧ DatWs H' xs ds ∧ areStepsD b l ds = true ∧ placeFrom l ds ≤ l + i ∧ okDs ds = true ∧ PyData.depthAll (toPys ds) ≤ 1 ∧ noLs ds = true ∧ ds.length ≤ i)
    ⟨[], [], none, rfl, Same.upd hD, upd_same, .nil, rfl, by show l ≤ l + 0; omega, rfl, by decide, rfl, Nat.le_refl _⟩ ?_ ?_
  · rintro i σ H1 hi ⟨xs, ds, x5, rfl, S, hD1, w, st, pl, ok, dp, nl, ll⟩
    have hi' : l + i < b := by omega
    refine ⟨mulL n0 (by omega), mulR (by decide) (by decide), by decide, by decide, by decide, Sel.dec (fun h => ?_) (fun h => ?_)⟩
    · refine ⟨.inl ⟨rfl, _, SqL.of hD1⟩, IntMulOk.of_left (by decide), _, rfl, fun m hm => ⟨line_ge (n := 2) (by decide), fun p hp => ?_⟩⟩
      have S2 := Same.upd (o := .tup [V.int (l + i), kV m]) hp
      have el := w.len
      refine ⟨D, xs, .ref p, rfl, rfl, S2 _ _ hD1, by rw [el]; exact small1000 (by omega), ?_⟩
      have hp2 : upd H1 p (.tup [V.int (l + i), kV m]) p = some (.tup [V.int (l + i), kV m]) := upd_same
      generalize upd H1 p (.tup [V.int (l + i), kV m]) = H2 at S2 hp2 ⊢
      have hD2 := S2 _ _ hD1
      have kp : ∀ b o, H2 b = some o → b ≠ D → upd H2 D (.lst (xs ++ [.ref p])) b = some o := fun b o e n => by rw [upd_ne n]; exact e
      have nD : ∀ b o, H2 b = some o → (∀ xs, o ≠ .lst xs) → b ≠ D := fun b o e n z => by subst z; rw [hD2] at e; cases e; exact n _ rfl
      have wp : DatW H2 (.ref p) (.tup [.int (l + i), datK m]) := .tup hp2 (.cons (.int _) (.cons (dat_kV _ m) .nil))
      refine ⟨xs ++ [.ref p], ds ++ [.tup [.int (l + i), datK m]], _, rfl, fun b o e => ?_, upd_same, ?_, areSteps_snoc hm.1 hi' st pl, ?_, okDs_app ok ?_, ?_, noLs_app nl ?_, by simp; omega⟩
      · rw [upd_ne (ne_of_none e hD)]
        exact S2 _ _ (S _ _ e)
      · exact ((w.mono S2).append (.cons wp .nil)).keep kp nD (noLs_app nl (by cases m <;> rfl))
      · rw [placeFrom_snoc]; omega
      · show ((true && (okD (datK m) && true)) && true) = true
        rw [hm.2]; rfl
      · rw [dpAll_app]
        have e1 : PyData.depthAll (toPys [.tup [.int (l + i), datK m]]) = 1 := by
          show max (max 0 (max (toPy (datK m)).depth 0) + 1) 0 = 1
          rw [dp_datK]; rfl
        rw [e1]; omega
      · cases m <;> rfl
    · exact ⟨xs, ds, _, rfl, S, hD1, w, st, by omega, ok, dp, nl, by omega⟩
  · rintro σ H1 ⟨xs, ds, x5, rfl, S, hD1, w, st, pl, ok, dp, nl, ll⟩
    refine ⟨D, xs, rfl, .inl ⟨SqL.of hD1, fun p hp => ?_⟩⟩
    have S2 := Same.upd (o := .tup xs) hp
    exact q p ds _ (S.trans S2) (.tup upd_same (w.mono S2)) ⟨st, ok, dp⟩
theorem len__law_place (K : PySem.W.Frag) (A : Adr) : ∀ vs H Q E, sp__law_place K A vs H Q E → vs.length = 2 := by rintro vs H Q E ⟨v, ds, l, b, rfl, _⟩; rfl
theorem rd__law_place (T : Txt K mg A) (vs : List V) (H : Hp) (Q : VK) (E : XK) (h : sp__law_place K A vs H Q E) : T__law_place K A { nx := fun _ H' => Q .non H', rt := Q } (L2.start ["_law_steps_here", "_law_low"] vs) H := by
  obtain ⟨v, ds, l, b, rfl, w, l0, ⟨st, ok, dp⟩, q⟩ := h
  cases w with
  | @tup a xs _ e r =>
    refine ⟨line_ge (n := 0) (by decide), fun p hp => ?_⟩
    have S := Same.upd (o := .tup []) hp
    have q := q _ S
    have e' := S _ _ e
    have r' := r.mono S
    refine .inr (.inl ⟨_, _, (DatW.tup e' r').toV ok, .tup (SqT.of upd_same) .nil, lay_toPy (d := .tup ds) ok, rfl, by show PyData.depthAll (toPys ds) + 1 ≤ 150; omega, ?_⟩)
    cases ds with
    | nil => exact Sel.yes rfl q
    | cons d0 dr =>
      refine Sel.no rfl ?_
      obtain ⟨s, hs⟩ : ∃ s, (d0 :: dr).getLast? = some s := ⟨_, List.getLast?_eq_some_getLast (by simp)⟩
      obtain ⟨i, m, rfl, i0, i1⟩ := areSteps_last l0 st hs
      have hpl : placeFrom l (d0 :: dr) = i + 1 := by unfold placeFrom; rw [hs]; rfl
      rw [hpl] at q
      refine ixLast hs r' e' fun v' wv => ?_
      cases wv with
      | tup ee rr =>
        cases rr with
        | cons z0 rr =>
          cases z0
          exact ixT (j := 0) ee rfl rfl q
theorem len__law_end (K : PySem.W.Frag) (A : Adr) : ∀ vs H Q E, sp__law_end K A vs H Q E → vs.length = 4 := by rintro vs H Q E ⟨c, b, k, l, rfl, _⟩; rfl
theorem rd__law_end (T : Txt K mg A) (vs : List V) (H : Hp) (Q : VK) (E : XK) (h : sp__law_end K A vs H Q E) : T__law_end K A { nx := fun _ H' => Q .non H', rt := Q } (L2.start ["_law_cell", "_law_bits_here", "_law_key_here", "_law_low", "_law_number_here", "_law_depth", "_law_own", "_law_wide", "_law_rest", "_law_free"] vs) H := by
  obtain ⟨c, b, k, l, rfl, l0, lb, b1, b60, k0, k1, q⟩ := h
  have last : R__law_end_3 K A { nx := fun _ H' => Q .non H', rt := Q } [some (.int c), some (.int b), some (.int k), some (.int l), some (.int (c / 4)), none, none, none, none, none] H := by
    have e1 : (1 : Int) * 2 ^ (b - l).toNat = 2 ^ (b - l).toNat := Int.one_mul _
    have hF := pow2_pos (b - l).toNat
    have hsp := pow_split l0 lb
    refine ⟨⟨by omega, by omega, by decide⟩, by decide, Sel.dec (fun h => ?_) (fun h => ?_)⟩
    · refine ⟨_, rfl, fun z H1 S1 hz hk => ⟨line_ge (n := 3) (by decide), fun p hp => ?_⟩⟩
      refine q (.ref p) (.tup [.str "leaf", .int k, .str z]) _ (S1.trans (Same.upd hp)) (.tup upd_same (.cons (.str _) (.cons (.int _) (.cons (.str _) .nil)))) ?_ (by show max 0 (max 0 (max 0 0)) + 1 ≤ 1; decide) ⟨_, rfl⟩ (end_leaf l0 lb k0 k1 rfl hz)
      show (okD (.str "leaf") && (true && (okD (.str z) && true))) = true
      rw [okS_leaf, okS_z hk (by omega)]; rfl
    · rw [e1]
      have t0 := Int.emod_nonneg (c / 4 * 982451653) (Int.ne_of_gt hF)
      have t1 := Int.emod_lt_of_pos (c / 4 * 982451653) hF
      refine ⟨by omega, mulR (by decide) (by decide), by omega, ⟨by decide, by decide⟩, _, rfl, fun z H1 S1 hz hk => ⟨line_ge (n := 3) (by decide), fun p hp => ?_⟩⟩
      refine q (.ref p) (.tup [.str "leaf", .int (k - k % 2 ^ (b - l).toNat + c / 4 * 982451653 % 2 ^ (b - l).toNat), .str z]) _ (S1.trans (Same.upd hp)) (.tup upd_same (.cons (.str _) (.cons (.int _) (.cons (.str _) .nil)))) ?_ (by show max 0 (max 0 (max 0 0)) + 1 ≤ 1; decide) ⟨_, rfl⟩ (end_leaf l0 lb (repl_lo hF k0 t0) ?_ (repl_div hF t0 t1) hz)
      · show (okD (.str "leaf") && (true && (okD (.str z) && true))) = true
        rw [okS_leaf, okS_z hk (by omega)]; rfl
      · rw [hsp]
        rw [hsp] at k1
        exact repl_hi hF t1 k1
  have fork : ∀ (e : Int) (D : Ends), D.rt = Q → l < e → e < b → LE K A D [some (V.int c), some (V.int b), some (V.int k), some (V.int l), some (V.int (c / 4)), some (V.int e), none, none, none, none] H := by
    intro e D hDr le eb
    have hW := pow2_pos (e - l).toNat
    have hW2 : (2 : Int) ≤ 2 ^ (e - l).toNat := by
      obtain ⟨j, hj⟩ : ∃ j, (e - l).toNat = j + 1 := ⟨(e - l).toNat - 1, by omega⟩
      rw [hj, Int.pow_succ]
      have := pow2_pos j
      omega
    refine ⟨by omega, ⟨by omega, by omega, by decide⟩, ?_⟩
    have e1 : (1 : Int) * 2 ^ (e - l).toNat = 2 ^ (e - l).toNat := Int.one_mul _
    rw [e1]
    have o0 : 0 ≤ startI b k e := startI_nn k0
    have o1 := startI_lt (by omega) (by omega : e ≤ b) k1
    have r0 := Int.emod_nonneg (startI b k e) (Int.ne_of_gt hW)
    have r1 := Int.emod_lt_of_pos (startI b k e) hW
    have t0 := Int.emod_nonneg (c / 4 * 69621) (b := 2 ^ (e - l).toNat - 1) (by omega)
    have t1 := Int.emod_lt_of_pos (c / 4 * 69621) (b := 2 ^ (e - l).toNat - 1) (by omega)
    refine ⟨hW, mulR (by decide) (by decide), by omega, hW, hW, _, rfl, fun m hm => ⟨⟨by decide, by decide⟩, _, rfl, fun n hn => ⟨line_ge (n := 5) (by decide), fun p hp => ?_⟩⟩⟩
    have x0 := Int.emod_nonneg (startI b k e % 2 ^ (e - l).toNat + 1 + c / 4 * 69621 % (2 ^ (e - l).toNat - 1)) (Int.ne_of_gt hW)
    have x1 := Int.emod_lt_of_pos (startI b k e % 2 ^ (e - l).toNat + 1 + c / 4 * 69621 % (2 ^ (e - l).toNat - 1)) hW
    have xn := turn_ne r0 r1 t0 t1
    have es := startI_start (k := k) (Int.le_of_lt le) (Int.le_of_lt eb)
    have sp : (2 : Int) ^ e.toNat = 2 ^ l.toNat * 2 ^ (e - l).toNat := pow_split l0 (Int.le_of_lt le)
    show D.rt (.ref p) (upd H p (.tup [.str "fork", .int e, .int (startI b k e - startI b k e % 2 ^ (e - l).toNat + (startI b k e % 2 ^ (e - l).toNat + 1 + c / 4 * 69621 % (2 ^ (e - l).toNat - 1)) % 2 ^ (e - l).toNat), kV m, kV n]))
    generalize (startI b k e % 2 ^ (e - l).toNat + 1 + c / 4 * 69621 % (2 ^ (e - l).toNat - 1)) % 2 ^ (e - l).toNat = x at x0 x1 xn ⊢
    rw [hDr]
    refine q (.ref p) (.tup [.str "fork", .int e, .int (startI b k e - startI b k e % 2 ^ (e - l).toNat + x), datK m, datK n]) _ (Same.upd hp) (.tup upd_same (.cons (.str _) (.cons (.int _) (.cons (.int _) (.cons (dat_kV _ m) (.cons (dat_kV _ n) .nil)))))) ?_ ?_ ⟨_, rfl⟩
      (end_fork (Int.le_of_lt le) eb (repl_lo hW o0 x0) ?_ ?_ ?_ hm.1 hn.1)
    · show (okD (.str "fork") && (true && (true && (okD (datK m) && (okD (datK n) && true))))) = true
      rw [okS_fork, hm.2, hn.2]; rfl
    · show max 0 (max 0 (max 0 (max (toPy (datK m)).depth (max (toPy (datK n)).depth 0)))) + 1 ≤ 1
      rw [dp_datK, dp_datK]; decide
    · rw [sp]
      rw [sp] at o1
      exact repl_hi hW x1 o1
    · rw [repl_div hW x0 x1]; exact es
    · omega
  have mid : R__law_end_2 K A { nx := fun _ H' => Q .non H', rt := Q } [some (.int c), some (.int b), some (.int k), some (.int l), some (.int (c / 4)), none, none, none, none, none] H := by
    refine ⟨by decide, Sel.dec (fun h => Sel.dec (fun hlt => ?_) (fun _ => last)) (fun h => Sel.f last)⟩
    have m0 := Int.emod_nonneg (c / 4) (b := b - 1 - l) (by omega)
    have m1 := Int.emod_lt_of_pos (c / 4) (b := b - 1 - l) (by omega)
    exact ⟨by omega, fork _ _ rfl (by omega) (by omega)⟩
  refine ⟨⟨by decide, by decide⟩, by decide, Sel.dec (fun h => Sel.dec (fun hl => ?_) (fun _ => mid)) (fun h => Sel.f mid)⟩
  refine ⟨line_ge (n := 1) (by decide), fun p hp => ?_⟩
  refine q (.ref p) (.tup [.str "bare"]) _ (Same.upd hp) (.tup upd_same (.cons (.str _) .nil)) (by decide +kernel) (by show max 0 0 + 1 ≤ 1; decide) ⟨_, rfl⟩ ?_
  unfold isEndD
  have e1 : isBareD (.tup [.str "bare"]) = true := by show decide (("bare" : Str) = "bare") = true; exact decide_eq_true rfl
  rw [e1, if_pos rfl]
  exact decide_eq_true hl
end Rs
namespace Rs
open PySem PySem.Spec PyProof.Rows L2
theorem neB_keys {K : PySem.W.Frag} {H : Hp} {Q : VK} {a : Key} (q : Q (.bl false) H) : mNeB K (kV a) (kV a) H Q := by
  cases a
  · rename_i i
    have e : (!decide (i = i)) = false := by simp
    rw [← e] at q; exact q
  · rename_i i
    have e : (!decide (i = i)) = false := by simp
    rw [← e] at q; exact q
theorem valOf {H : Hp} {v : V} {k : Key} (w : DatW H v (datK k)) : v = kV k := by cases k <;> (cases w; rfl)
theorem kV_tup {H : Hp} {v : V} : ∀ {e : List Key} {xs : List V}, DatWs H xs (e.map datK) → xs = e.map kV
  | [], _, h => by cases h; rfl
  | x :: r, _, h => by
    cases h with
    | cons a b => rw [valOf a, kV_tup (v := v) b]; rfl
theorem kV_at {H : Hp} {v : V} {e : List Key} (h : DatW H v (.tup (e.map datK))) : ∃ a, v = .ref a ∧ H a = some (.tup (e.map kV)) := by
  cases h with
  | @tup a xs _ ea r => exact ⟨a, rfl, by rw [ea, kV_tup (v := .non) r]⟩
theorem stepAt {H : Hp} : ∀ {st : List (Int × Key)} {xs : List V}, DatWs H xs (st.map stD) → ∀ {i : Nat} {x : V}, xs[i]? = some x → ∃ s p, st[i]? = some s ∧ x = .ref p ∧ H p = some (.tup [.int s.1, kV s.2])
  | [], _, h, i, x, e => by cases h; cases e
  | s :: r, _, h, i, x, e => by
    cases h with
    | cons a b =>
      cases i with
      | zero =>
        cases e
        have a : DatW H x (.tup [.int s.1, datK s.2]) := a
        cases a with
        | @tup p ys _ ea rr =>
          cases rr with
          | cons z0 rr =>
            cases rr with
            | cons z1 rr =>
              cases rr
              cases z0
              exact ⟨s, p, rfl, rfl, by rw [ea, valOf z1]⟩
      | succ i => exact stepAt b e
theorem slip_at {H : Hp} {v : V} {b k : Int} {st : List (Int × Key)} {e : List Key} (h : PartW H v b k st e) : ∃ (a s t : Addr) (xs : List V), v = .ref a ∧ H a = some (.tup [.ref s, .ref t]) ∧ H s = some (.tup xs) ∧ DatWs H xs (st.map stD) ∧ H t = some (.tup (e.map kV)) := by
  obtain ⟨w, _⟩ := h
  cases w with
  | @tup a xs _ ea r =>
    cases r with
    | cons z0 r =>
      cases r with
      | cons z1 r =>
        cases r
        obtain ⟨t, rfl, ht⟩ := kV_at z1
        cases z0 with
        | @tup s ys _ es rs => exact ⟨a, s, t, ys, rfl, ea, es, rs, ht⟩
theorem isStr_eq {w : Str} {d : Dat} (h : isStrD w d = true) : d = .str w := by
  cases d <;> first | cases h | skip
  rename_i z
  have : z = w := of_decide_eq_true h
  rw [this]
theorem datK_inj : ∀ {a b : Key}, datK a = datK b → a = b
  | .inl i, .inl j, h => by cases h; rfl
  | .inl i, .inr j, h => by cases h
  | .inr i, .inl j, h => by cases h
  | .inr i, .inr j, h => by cases h; rfl
theorem end_form {b k l : Int} {e : List Key} (h : isEndD b k l (.tup (e.map datK)) = true) : e = [.inr "bare"] ∨ (∃ x z, e = [.inr "leaf", .inl x, .inr z] ∧ z.length ≤ 60) ∨ ∃ d bb m n, e = [.inr "fork", .inl d, .inl bb, m, n] := by
  have key : ∀ {x : Key} {w : Str}, datK x = .str w → x = .inr w := fun {x w} hx => datK_inj (b := .inr w) hx
  unfold isEndD at h
  split at h
  · rename_i hb
    match e, hb with
    | [x], hb => exact .inl (by rw [key (isStr_eq hb)])
  · rw [Bool.or_eq_true] at h
    rcases h with h | h
    · match e, h with
      | [w, .inl x, z], h =>
        have h : (isStrD "leaf" (datK w) && decide (0 ≤ x ∧ x < 2 ^ b.toNat) && isValueD (datK z) && decide (startI b x l = startI b k l)) = true := h
        simp only [Bool.and_eq_true] at h
        cases z with
        | inl i => cases h.1.2
        | inr z => exact .inr (.inl ⟨x, z, by rw [key (isStr_eq h.1.1.1)], of_decide_eq_true h.1.2⟩)
    · rw [Bool.and_eq_true] at h
      have h := h.1
      match e, h with
      | [w, .inl d, .inl bb, m, n], h =>
        have h : (isStrD "fork" (datK w) && decide (l ≤ d ∧ d < b) && decide (0 ≤ bb ∧ bb < 2 ^ d.toNat) && decide (bb / 2 ^ (d - l).toNat = startI b k l)) = true := h
        simp only [Bool.and_eq_true] at h
        exact .inr (.inr ⟨d, bb, m, n, by rw [key (isStr_eq h.1.1.1)]⟩)
variable {K : PySem.W.Frag} {mg : Str → Option Value} {A : Adr}
theorem len_side (K : PySem.W.Frag) (A : Adr) : ∀ vs H Q E, sp_side K A vs H Q E → vs.length = 3 := by rintro vs H Q E ⟨b, k, d, rfl, _⟩; rfl
theorem rd_side (T : Txt K mg A) (vs : List V) (H : Hp) (Q : VK) (E : XK) (h : sp_side K A vs H Q E) : T_side K A { nx := fun _ H' => Q .non H', rt := Q } (L2.start ["bits", "key", "depth"] vs) H := by
  obtain ⟨b, k, d, rfl, hd, k0, q⟩ := h
  refine ⟨by omega, ?_⟩
  show Q (.int (Builtin.bitAnd (k / 2 ^ (b - d - 1).toNat) 1)) H
  have h0 : 0 ≤ k / 2 ^ (b - d - 1).toNat := Int.ediv_nonneg k0 (Int.le_of_lt (pow2_pos _))
  obtain ⟨y, hy⟩ := Int.eq_ofNat_of_zero_le h0
  rw [hy] at q ⊢
  rw [bitAnd_one]
  have : ((y % 2 : Nat) : Int) = (y : Int) % 2 := by omega
  rw [this]; exact q
theorem len_step_term (K : PySem.W.Frag) (A : Adr) : ∀ vs H Q E, sp_step_term K A vs H Q E → vs.length = 4 := by rintro vs H Q E ⟨b, k, d, m, s, p, rfl, _⟩; rfl
theorem rd_step_term (T : Txt K mg A) (vs : List V) (H : Hp) (Q : VK) (E : XK) (h : sp_step_term K A vs H Q E) : T_step_term K A { nx := fun _ H' => Q .non H', rt := Q } (L2.start ["bits", "key", "step", "mark", "depth", "begin"] vs) H := by
  obtain ⟨b, k, d, m, s, p, rfl, hp, hd, k0, q⟩ := h
  refine ixT (j := 0) hp rfl rfl ⟨b, k, d, rfl, by omega, b, k, d, rfl, hd, k0, ?_⟩
  unfold forkT at q
  refine Sel.dec (fun h => ?_) (fun h => ?_)
  · refine ixT (j := 1) hp rfl rfl ⟨line_ge (n := 5) (by decide), fun t ht => ?_⟩
    have q := q t ht
    rw [if_pos h] at q; exact q
  · refine ixT (j := 1) hp rfl rfl ⟨line_ge (n := 5) (by decide), fun t ht => ?_⟩
    have q := q t ht
    rw [if_neg h] at q; exact q
theorem told_leaf {k x : Int} {z : Str} : toldV k [.inr "leaf", .inl x, .inr z] = if x = k then .str z else .non := by
  show (if ("leaf" : Str) = "leaf" ∧ x = k then V.str z else .non) = _
  by_cases h : x = k
  · rw [if_pos ⟨rfl, h⟩, if_pos h]
  · rw [if_neg (fun z => h z.2), if_neg h]
theorem ne_leaf1 : decide (("bare" : Str) = "leaf") = false := by decide +kernel
theorem ne_leaf2 : decide (("fork" : Str) = "leaf") = false := by decide +kernel
theorem len_slip_value (K : PySem.W.Frag) (A : Adr) : ∀ vs H Q E, sp_slip_value K A vs H Q E → vs.length = 2 := by rintro vs H Q E ⟨b, k, v, st, e, rfl, _⟩; rfl
theorem rd_slip_value (T : Txt K mg A) (vs : List V) (H : Hp) (Q : VK) (E : XK) (h : sp_slip_value K A vs H Q E) : T_slip_value K A { nx := fun _ H' => Q .non H', rt := Q } (L2.start ["key", "slip", "end"] vs) H := by
  obtain ⟨b, k, v, st, e, rfl, w, q⟩ := h
  obtain ⟨a, s, t, xs, rfl, ha, hs, ws, ht⟩ := slip_at w.1
  refine ixT (j := 1) ha rfl rfl ?_
  rcases end_form w.2 with rfl | ⟨x, z, rfl, _⟩ | ⟨d, bb, m, n, rfl⟩
  · exact ixT (j := 0) ht rfl rfl (Sel.no ne_leaf1 (Sel.f q))
  · refine ixT (j := 0) ht rfl rfl (Sel.yes (decide_eq_true rfl) (ixT (j := 1) ht rfl rfl ?_))
    rw [told_leaf] at q
    refine Sel.dec (fun h => ?_) (fun h => ?_)
    · rw [if_pos h] at q
      exact ixT (j := 2) ht rfl rfl q
    · rw [if_neg h] at q; exact q
  · exact ixT (j := 0) ht rfl rfl (Sel.no ne_leaf2 (Sel.f q))
theorem len__law_told (K : PySem.W.Frag) (A : Adr) : ∀ vs H Q E, sp__law_told K A vs H Q E → vs.length = 2 := by rintro vs H Q E ⟨b, k, v, st, e, rfl, _⟩; rfl
theorem rd__law_told (T : Txt K mg A) (vs : List V) (H : Hp) (Q : VK) (E : XK) (h : sp__law_told K A vs H Q E) : T__law_told K A { nx := fun _ H' => Q .non H', rt := Q } (L2.start ["_law_key_here", "_law_slip"] vs) H := by
  obtain ⟨b, k, v, st, e, rfl, w, q⟩ := h
  obtain ⟨a, s, t, xs, rfl, ha, hs, ws, ht⟩ := slip_at w.1
  refine ixT (j := 1) ha rfl rfl ?_
  rcases end_form w.2 with rfl | ⟨x, z, rfl, _⟩ | ⟨d, bb, m, n, rfl⟩
  · exact ixT (j := 0) ht rfl rfl (Sel.no ne_leaf1 (Sel.f q))
  · refine ixT (j := 0) ht rfl rfl (Sel.yes (decide_eq_true rfl) (ixT (j := 1) ha rfl rfl (ixT (j := 1) ht rfl rfl ?_)))
    rw [told_leaf] at q
    refine Sel.dec (fun h => ?_) (fun h => ?_)
    · rw [if_pos h] at q
      exact ixT (j := 1) ha rfl rfl (ixT (j := 2) ht rfl rfl q)
    · rw [if_neg h] at q; exact q
  · exact ixT (j := 0) ht rfl rfl (Sel.no ne_leaf2 (Sel.f q))
theorem len__law_same (K : PySem.W.Frag) (A : Adr) : ∀ vs H Q E, sp__law_same K A vs H Q E → vs.length = 2 := by rintro vs H Q E ⟨v, rfl, _⟩; rfl
theorem rd__law_same (T : Txt K mg A) (vs : List V) (H : Hp) (Q : VK) (E : XK) (h : sp__law_same K A vs H Q E) : T__law_same K A { nx := fun _ H' => Q .non H', rt := Q } (L2.start ["_law_found", "_law_due"] vs) H := by
  obtain ⟨v, rfl, rfl | ⟨z, rfl⟩, q⟩ := h
  · exact Sel.yes rfl q
  · refine Sel.no rfl ⟨by decide, "str", rfl, Sel.yes rfl ?_⟩
    have e : decide (z = z) = true := decide_eq_true rfl
    rw [← e] at q; exact q
theorem len__law_part_alike (K : PySem.W.Frag) (A : Adr) : ∀ vs H Q E, sp__law_part_alike K A vs H Q E → vs.length = 2 := by rintro vs H Q E ⟨x, rfl, _⟩; rfl
theorem rd__law_part_alike (T : Txt K mg A) (vs : List V) (H : Hp) (Q : VK) (E : XK) (h : sp__law_part_alike K A vs H Q E) : T__law_part_alike K A { nx := fun _ H' => Q .non H', rt := Q } (L2.start ["_law_found", "_law_due"] vs) H := by
  obtain ⟨x, rfl, q⟩ := h
  cases x with
  | inl i =>
    have e : decide (i = i) = true := decide_eq_true rfl
    rw [← e] at q
    exact ⟨by decide, "int", rfl, Sel.no rfl ⟨by decide, "int", rfl, Sel.yes rfl ⟨by decide, "int", rfl, Sel.yes rfl q⟩⟩⟩
  | inr z =>
    have e : decide (z = z) = true := decide_eq_true rfl
    rw [← e] at q
    exact ⟨by decide, "str", rfl, Sel.yes rfl ⟨by decide, "str", rfl, Sel.yes rfl q⟩⟩
theorem len__law_term_alike (K : PySem.W.Frag) (A : Adr) : ∀ vs H Q E, sp__law_term_alike K A vs H Q E → vs.length = 2 := by rintro vs H Q E ⟨p, r, k, rfl, _⟩; rfl
theorem rd__law_term_alike (T : Txt K mg A) (vs : List V) (H : Hp) (Q : VK) (E : XK) (h : sp__law_term_alike K A vs H Q E) : T__law_term_alike K A { nx := fun _ H' => Q .non H', rt := Q } (L2.start ["_law_found", "_law_due", "_law_k"] vs) H := by
  obtain ⟨p, r, k, rfl, hp, hr, hk, q⟩ := h
  have ty : tyN H (.ref p) = some "tuple" := by unfold tyN; dsimp only; rw [hp]
  refine ⟨by decide, "tuple", ty, Sel.no rfl (.inl (.inr (.inl ⟨_, SqT.of hp, .inl (.inr (.inl ⟨_, SqT.of hr, ?_⟩))⟩)))⟩
  refine Sel.no (by simp) (.inl (.inr (.inl ⟨_, SqT.of hr, _, rfl, by omega, by simp; omega, ?_⟩)))
  have hn : (((k.map kV).length : Nat) : Int).toNat = k.length := by simp
  rw [hn]
  refine for_range (fun i σ H' => H' = H ∧ ∃ x2, σ = [some (.ref p), some (.ref r), x2]) ⟨rfl, none, rfl⟩ ?_ ?_
  · rintro i σ _ hi ⟨rfl, x2, rfl⟩
    obtain ⟨x, hx⟩ : ∃ x, k[i]? = some x := ⟨_, List.getElem?_eq_getElem hi⟩
    have hx2 : (k.map kV)[i]? = some (kV x) := by rw [List.getElem?_map, hx]; rfl
    refine ixT (j := i) hp (by omega) hx2 (ixT (j := i) hr (by omega) hx2 ⟨x, rfl, Sel.no rfl ⟨rfl, _, rfl⟩⟩)
  · rintro σ _ ⟨rfl, x2, rfl⟩
    exact q
theorem pk_get {H : Hp} {ps : List Addr} {ts : List (List Key)} (h : PK H ps ts) : ∀ {i : Nat} {t : List Key}, ts[i]? = some t → ∃ p, ps[i]? = some p ∧ H p = some (.tup (t.map kV)) ∧ okT t = true := by
  induction h with
  | nil => intro i t e; cases e
  | cons r _ ih =>
    intro i t e
    cases i with
    | zero => cases e; exact ⟨_, rfl, r⟩
    | succ i => exact ih e
theorem pk_len {H : Hp} {ps : List Addr} {ts : List (List Key)} (h : PK H ps ts) : ps.length = ts.length := Paired.length h
theorem okT_len {k : List Key} (h : okT k = true) : 1 ≤ k.length ∧ k.length ≤ 8 := by
  unfold okT at h
  simp only [Bool.and_eq_true] at h
  exact of_decide_eq_true h.1.1
end Rs
namespace Rs
open PySem PySem.Spec PyProof.Rows L2
theorem okT_all {k : List Key} (h : okT k = true) : k.all okP = true := by
  unfold okT at h
  rw [Bool.and_eq_true] at h
  exact h.2
theorem okT_mem {k : List Key} {x : Key} (h : okT k = true) (hx : x ∈ k) : okP x = true := List.all_eq_true.mp (okT_all h) x hx
theorem KeepB.rfl' {b : Addr} {H : Hp} : KeepB b H H := fun _ _ _ e => e
theorem KeepB.trans {b : Addr} {H H1 H2 : Hp} (a : KeepB b H H1) (c : KeepB b H1 H2) : KeepB b H H2 := fun x o n e => c x o n (a x o n e)
theorem KeepB.same {b : Addr} {H H1 : Hp} (s : Same H H1) : KeepB b H H1 := fun x o _ e => s x o e
theorem Sub.rfl' {g : List Key → Option Key} : Sub g g := fun _ _ e => e
theorem Sub.trans {g g1 g2 : List Key → Option Key} (a : Sub g g1) (b : Sub g1 g2) : Sub g g2 := fun k v e => b k v (a k v e)
theorem Ext.of {g g' : List Key → Option Key} {h : List Key → Key} (s : Sub g g') (e : Ext g' h) : Ext g h := fun k v z => e k v (s k v z)
theorem tab_val (kvs : List (List Key × Key)) (k : List Key) : valV (tabV kvs) k = (tabG kvs k).map kV := by
  unfold valV tabV tabG
  rw [List.find?_map]
  simp only [Option.map_map]
  congr 1
theorem tabG_snoc {kvs : List (List Key × Key)} {k : List Key} {v : Key} {x : List Key × Key} (h : tabG kvs k = some v) : tabG (kvs ++ [x]) k = some v := by
  unfold tabG at h ⊢
  rw [List.find?_append]
  cases e : kvs.find? fun p => decide (p.1 = k) with
  | none => rw [e] at h; cases h
  | some y => rw [e] at h; exact h
theorem tabG_new {kvs : List (List Key × Key)} {k : List Key} {d : Key} (h : tabG kvs k = none) : tabG (kvs ++ [(k, d)]) k = some d := by
  unfold tabG at h ⊢
  rw [List.find?_append]
  cases e : kvs.find? fun p => decide (p.1 = k) with
  | none => simp
  | some y => rw [e] at h; cases h
theorem tabG_val {kvs : List (List Key × Key)} {k : List Key} {v : Key} (h : tabG kvs k = some v) : valV (tabV kvs) k = some (kV v) := by rw [tab_val, h]; rfl
theorem tabG_at {kvs : List (List Key × Key)} {k : List Key} {v : Key} (h : tabG kvs k = some v) : ∃ i : Nat, kvs[i]? = some (k, v) := by
  unfold tabG at h
  cases e : kvs.find? fun p => decide (p.1 = k) with
  | none => rw [e] at h; cases h
  | some y =>
    rw [e] at h
    cases h
    obtain ⟨i, hi, ei⟩ := List.getElem_of_mem (List.mem_of_find?_eq_some e)
    have hk := List.find?_some e
    refine ⟨i, ?_⟩
    rw [List.getElem?_eq_getElem hi, ei, ← (of_decide_eq_true hk)]
theorem sure_inj {j : Int} {kvs : List (List Key × Key)} (s : SureT j kvs) {k k' : List Key} {v : Key} (h : tabG kvs k = some v) (h' : tabG kvs k' = some v) : k = k' := by
  obtain ⟨i, hi⟩ := tabG_at h
  obtain ⟨i', hi'⟩ := tabG_at h'
  have e1 := s _ _ hi
  have e2 := s _ _ hi'
  have : (Sum.inl (3 * (i : Int) + j) : Key) = Sum.inl (3 * (i' : Int) + j) := e1.symm.trans e2
  have : i = i' := by injection this; omega
  subst this
  rw [hi] at hi'; cases hi'; rfl
theorem sure_num {j : Int} (j0 : 0 ≤ j) (j1 : j < 1000) {kvs : List (List Key × Key)} (s : SureT j kvs) (hl : kvs.length ≤ 50000) {k : List Key} {v : Key} (h : tabG kvs k = some v) : ∃ i : Int, 0 ≤ i ∧ i < 10 ^ 60 ∧ v = .inl i := by
  obtain ⟨i, hi⟩ := tabG_at h
  have e1 : v = .inl (3 * (i : Int) + j) := s _ _ hi
  have hlt := (List.getElem?_eq_some_iff.mp hi).1
  have p60 : (200000 : Int) < 10 ^ 60 := by decide +kernel
  exact ⟨_, by omega, by omega, e1⟩
theorem sure_snoc {j : Int} {kvs : List (List Key × Key)} (s : SureT j kvs) (k : List Key) : SureT j (kvs ++ [(k, .inl (3 * (kvs.length : Int) + j))]) := fun i p h => by
  by_cases hi : i < kvs.length
  · rw [List.getElem?_append_left hi] at h; exact s i p h
  · rw [List.getElem?_append_right (by omega)] at h
    cases e : i - kvs.length with
    | zero =>
      rw [e] at h
      cases h
      have : i = kvs.length := by omega
      rw [this]
    | succ m => rw [e] at h; cases h
theorem SurAt.keepB {H H' : Hp} {a : SA} {kvs : List (List Key × Key)} {n m : Nat} (s : SurAt H a kvs n) (hn : n ≤ m) (k : ∀ x o, H x = some o → (∀ xs, o ≠ .lst xs) → (∀ kvs, o ≠ .dK kvs) → (∀ ps, o ≠ .tbl ps) → H' x = some o) : SurAt H' a kvs m :=
  ⟨s.j0, s.j1, k _ _ s.hf (fun _ z => nomatch z) (fun _ z => nomatch z) (fun _ z => nomatch z), k _ _ s.hc (fun _ z => nomatch z) (fun _ z => nomatch z) (fun _ z => nomatch z), k _ _ s.h0 (fun _ z => nomatch z) (fun _ z => nomatch z) (fun _ z => nomatch z), k _ _ s.h1 (fun _ z => nomatch z) (fun _ z => nomatch z) (fun _ z => nomatch z), k _ _ s.hb (fun _ z => nomatch z) (fun _ z => nomatch z) (fun _ z => nomatch z), Nat.le_trans s.hl hn, s.st⟩
theorem SurAt.clo {H : Hp} {a : SA} {kvs : List (List Key × Key)} {n : Nat} (s : SurAt H a kvs n) : CloAt H a.f ct__law_sure__c0 [a.q1, a.q0] [.ref a.b, .int a.j] := ⟨⟨a.c, s.hf, s.hc⟩, .cons s.h1 (.cons s.h0 .nil)⟩
variable {K : PySem.W.Frag} {mg : Str → Option Value} {A : Adr}
theorem dget_t {H : Hp} {b p : Addr} {kvs : List (List Key × V)} {kk : List Key} {d : V} (hb : H b = some (.dT kvs)) (hp : H p = some (.tup (kk.map kV))) (hl : kvs.length ≤ 50000) :
    DDef H b (.ref p) d (defV kvs kk d) (defH H b kvs kk d) := by
  unfold defV defH
  have g := DGet.t hb hp
  cases e : valV kvs kk with
  | some v => rw [e] at g; exact .inl ⟨g, if_pos rfl⟩
  | none => rw [e] at g; exact .inr ⟨g, .inr ⟨kvs, kk, p, hb, rfl, hp, Nat.lt_of_le_of_lt hl (line_ge (n := 50001) (by decide)), if_neg (by decide)⟩, rfl⟩
theorem rd__law_sure__c0 (T : Txt K mg A) (a0 b0 b1 : V) (H : Hp) (Q : VK) (E : XK) (h : sp__law_sure__c0 K A [a0, b0, b1] H Q E) : T__law_sure__c0 K A { nx := fun _ H' => Q .non H', rt := Q } (startC ["_law_term", "_law_known", "_law_first"] [a0] [b0, b1]) H := by
  obtain ⟨p, b, j, k, kvs, e, hp, hb, hl, q⟩ := h
  cases e
  exact ⟨.inr (.inr (.inl ⟨rfl, .inr ⟨_, hb⟩⟩)), .inr ⟨b, kvs, rfl, hb, IntMulOk.of_left (by decide), b, .ref p, _, _, _, rfl, rfl, dget_t hb hp hl, q⟩⟩
theorem sur_call {ks : L2.Kinds} (hm : (ct__law_sure__c0, sp__law_sure__c0 K A) ∈ ks) {H : Hp} {a : SA} {p : Addr} {kvs : List (List Key × Key)} {n : Nat} {k : List Key} {R : VK} (s : SurAt H a kvs n) (hn : n ≤ 46000) (hp : H p = some (.tup (k.map kV)))
    (q : ∀ (v : Key) (H' : Hp) (kvs' : List (List Key × Key)), KeepB a.b H H' → SurAt H' a kvs' (n + 1) → Sub (tabG kvs) (tabG kvs') → tabG kvs' k = some v → (∃ i : Int, 0 ≤ i ∧ i < 10 ^ 60 ∧ v = .inl i) → R (kV v) H') : HCall ks a.f [.ref p] H R E0 := by
  have hc := s.clo
  have ll : (tabV kvs).length = kvs.length := by simp [tabV]
  have hbc : a.b ∉ [a.q1, a.q0] := hc.cells.notin s.hb fun _ z => nomatch z
  refine ⟨_, hm, _, _, hc, rfl, p, a.b, a.j, k, tabV kvs, rfl, hc.cells.hide hp (fun _ z => nomatch z), hc.cells.hide s.hb (fun _ z => nomatch z), by rw [ll]; have := s.hl; omega, ?_⟩
  dsimp only
  rw [ll]
  cases e : tabG kvs k with
  | some v =>
    have ev := tabG_val e
    unfold defV defH
    rw [ev]
    show R (kV v) (backC _ H (hideC _ H))
    rw [backC_hide]
    exact q v H kvs KeepB.rfl' (s.keepB (Nat.le_succ _) fun _ _ e _ _ _ => e) Sub.rfl' e (sure_num s.j0 s.j1 s.st (by have := s.hl; omega) e)
  | none =>
    have ev : valV (tabV kvs) k = none := by rw [tab_val, e]; rfl
    unfold defV defH
    rw [ev, if_neg (by decide), backC_upd hbc, backC_hide, putK_new _ ev]
    have et : tabV kvs ++ [(k, V.int (3 * (kvs.length : Int) + a.j))] = tabV (kvs ++ [(k, .inl (3 * (kvs.length : Int) + a.j))]) := by unfold tabV; rw [List.map_append]; rfl
    rw [et]
    have kb : KeepB a.b H (upd H a.b (.dT (tabV (kvs ++ [(k, .inl (3 * (kvs.length : Int) + a.j))])))) := fun x o n e => by rw [upd_ne n]; exact e
    have sn := sure_snoc s.st k
    have ne : ∀ {x : Addr} {φ : Heap → Prop}, H x = some (.ext φ) → x ≠ a.b := fun h z => by rw [z, s.hb] at h; cases h
    exact q (.inl (3 * (kvs.length : Int) + a.j)) _ (kvs ++ [(k, .inl (3 * (kvs.length : Int) + a.j))]) kb ⟨s.j0, s.j1, kb _ _ (ne s.hf) s.hf, kb _ _ (ne s.hc) s.hc, kb _ _ (ne s.h0) s.h0, kb _ _ (ne s.h1) s.h1, upd_same, by have := s.hl; simp; omega, sn⟩
      (fun x y z => tabG_snoc z) (tabG_new e) (sure_num s.j0 s.j1 sn (by have := s.hl; simp; omega) (tabG_new e))
theorem eqTC_keys {H : Hp} {Q : VK} {a b : Addr} {k l : List Key} (ha : H a = some (.tup (k.map kV))) (hb : H b = some (.tup (l.map kV))) (q : Q (.bl (decide (k = l))) H) : mEqC K (.ref a) (.ref b) H Q := by
  refine .inl ⟨a, b, _, _, rfl, rfl, SqT.of ha, SqT.of hb, plain_kVs _, plain_kVs _, ?_⟩
  by_cases e : k = l
  · subst e; rw [decide_eq_true rfl] at q ⊢; exact q
  · rw [decide_eq_false e] at q; rw [decide_eq_false fun z => e (kVs_inj z)]; exact q
theorem m0 {x : CloT × Sp} {l : List (CloT × Sp)} : x ∈ x :: l := List.mem_cons_self
theorem mS {x y : CloT × Sp} {l : List (CloT × Sp)} (h : x ∈ l) : x ∈ y :: l := List.mem_cons_of_mem _ h
theorem rd__law_planted__c0 (T : Txt K mg A) (a0 b0 b1 b2 : V) (H : Hp) (Q : VK) (E : XK) (h : sp__law_planted__c0 K A [a0, b0, b1, b2] H Q E) : T__law_planted__c0 K A { nx := fun _ H' => Q .non H', rt := Q } (startC ["_law_term", "_law_sure_one", "_law_other", "_law_one"] [a0] [b0, b1, b2]) H := by
  obtain ⟨p, o1, o2, a, k, k1, k2, kvs, n, e, hp, h1, h2, ok, ok1, ok2, su, hn, q⟩ := h
  cases e
  refine eqTC_keys hp h2 (Sel.dec (fun e => ?_) (fun e => ?_))
  · rw [if_pos e] at q
    exact ⟨a.f, rfl, ⟨_, m0, _, _, su.clo⟩, tc1 rfl (sur_call (K := K) (A := A) m0 su (by omega) h1 fun v H' kvs' kb su' sub gv nv => q v H' kvs' kb su' sub gv nv)⟩
  · rw [if_neg e] at q
    exact ⟨a.f, rfl, ⟨_, m0, _, _, su.clo⟩, tc1 rfl (sur_call (K := K) (A := A) m0 su (by omega) hp fun v H' kvs' kb su' sub gv nv => q v H' kvs' kb su' sub gv nv)⟩
theorem Stp.clo {H : Hp} {f : Addr} {d : Kd} {g : List Key → Option Key} {n : Nat} (s : Stp A H f d g n) : ∃ ts ∈ Knd1 K A, ∃ cs cvs, CloAt H f ts.1 cs cvs := by
  cases s with
  | sur kvs h ef ep hg => subst ef; exact ⟨_, m0, _, _, h.clo⟩
  | pla k1 k2 kvs h ep hg =>
    obtain ⟨q0, q1, q2, o1, o2, hc, _⟩ := h.ex
    exact ⟨_, mS m0, _, _, hc⟩
theorem PlaAt.keep {H H' : Hp} {f : Addr} {a : SA} {k1 k2 : List Key} {kvs : List (List Key × Key)} {n m : Nat} (s : PlaAt H f a k1 k2 kvs n) (hn : n ≤ m) (k : ∀ x o, H x = some o → (∀ xs, o ≠ .lst xs) → (∀ kvs, o ≠ .dK kvs) → (∀ ps, o ≠ .tbl ps) → H' x = some o) : PlaAt H' f a k1 k2 kvs m := by
  obtain ⟨⟨q0, q1, q2, o1, o2, hc, e1, e2, dis⟩, ok1, ok2, su⟩ := s
  exact ⟨⟨q0, q1, q2, o1, o2, hc.keep (fun x φ e => k x _ e (fun _ z => nomatch z) (fun _ z => nomatch z) (fun _ z => nomatch z)), k _ _ e1 (fun _ z => nomatch z) (fun _ z => nomatch z) (fun _ z => nomatch z), k _ _ e2 (fun _ z => nomatch z) (fun _ z => nomatch z) (fun _ z => nomatch z), dis⟩, ok1, ok2, su.keepB hn k⟩
theorem Stp.keep {H H' : Hp} {f : Addr} {d : Kd} {g : List Key → Option Key} {n m : Nat} (s : Stp A H f d g n) (hn : n ≤ m) (k : ∀ x o, H x = some o → (∀ xs, o ≠ .lst xs) → (∀ kvs, o ≠ .dK kvs) → (∀ ps, o ≠ .tbl ps) → H' x = some o) : Stp A H' f d g m := by
  cases s with
  | sur kvs h ef ep hg => exact .sur kvs (h.keepB hn k) ef ep hg
  | pla k1 k2 kvs h ep hg => exact .pla k1 k2 kvs (h.keep hn k) ep hg
theorem Stp.same {H H' : Hp} {f : Addr} {d : Kd} {g : List Key → Option Key} {n m : Nat} (s : Stp A H f d g n) (hn : n ≤ m) (S : Same H H') : Stp A H' f d g m := s.keep hn fun b o e _ _ _ => S b o e
theorem Stp.dict {H : Hp} {f : Addr} {d : Kd} {g : List Key → Option Key} {n : Nat} (s : Stp A H f d g n) : ∃ kvs, H d.a.b = some (.dT kvs) := by
  cases s with
  | sur kvs h ef ep hg => exact ⟨_, h.hb⟩
  | pla k1 k2 kvs h ep hg => exact ⟨_, h.su.hb⟩
theorem pla_call {H : Hp} {f p : Addr} {a : SA} {k1 k2 : List Key} {kvs : List (List Key × Key)} {n : Nat} {k : List Key} {R : VK} (s : PlaAt H f a k1 k2 kvs n) (hn : n ≤ 45000) (hp : H p = some (.tup (k.map kV))) (ok : okT k = true)
    (q : ∀ (v : Key) (H' : Hp) (kvs' : List (List Key × Key)), KeepB a.b H H' → PlaAt H' f a k1 k2 kvs' (n + 1) → Sub (tabG kvs) (tabG kvs') → tabG kvs' (if k = k2 then k1 else k) = some v → (∃ i : Int, 0 ≤ i ∧ i < 10 ^ 60 ∧ v = .inl i) → R (kV v) H') : HCall (Knd1 K A) f [.ref p] H R E0 := by
  obtain ⟨⟨q0, q1, q2, o1, o2, hc, e1, e2, dis⟩, ok1, ok2, su⟩ := s
  have out : ∀ x ∈ [a.f, a.q0, a.q1, a.c], hideC [q0, q2, q1] H x = H x := fun x hx => hideC_out (dis x hx)
  have bk : ∀ (x : Addr) (H' : Hp), x ∈ [a.f, a.q0, a.q1, a.c] → backC [q0, q2, q1] H H' x = H' x := fun x H' hx => backC_out (dis x hx)
  have hbc : a.b ∉ [q0, q2, q1] := hc.cells.notin su.hb fun _ z => nomatch z
  refine ⟨_, mS m0, _, _, hc, rfl, p, o1, o2, a, k, k1, k2, kvs, n, rfl, hc.cells.hide hp (fun _ z => nomatch z), hc.cells.hide e1 (fun _ z => nomatch z), hc.cells.hide e2 (fun _ z => nomatch z), ok, ok1, ok2,
    ⟨su.j0, su.j1, by rw [out _ (by simp)]; exact su.hf, by rw [out _ (by simp)]; exact su.hc, by rw [out _ (by simp)]; exact su.h0, by rw [out _ (by simp)]; exact su.h1, by rw [hideC_out hbc]; exact su.hb, su.hl, su.st⟩, hn, fun v H' kvs' kb su' sub gv nv => ?_⟩
  have kb' : KeepB a.b H (backC [q0, q2, q1] H H') := fun x o n e => by
    by_cases hx : x ∈ [q0, q2, q1]
    · rw [backC_in hx]; exact e
    · rw [backC_out hx]; exact kb x o n (by rw [hideC_out hx]; exact e)
  have ne : ∀ {x : Addr} {o : HO}, H x = some o → (∀ kvs, o ≠ .dT kvs) → x ≠ a.b := fun h hn z => by subst z; rw [su.hb] at h; cases h; exact hn _ rfl
  refine q v _ kvs' kb' ⟨⟨q0, q1, q2, o1, o2, hc.keep (fun x φ e => kb' x _ (ne e (fun _ z => nomatch z)) e), kb' _ _ (ne e1 (fun _ z => nomatch z)) e1, kb' _ _ (ne e2 (fun _ z => nomatch z)) e2, dis⟩, ok1, ok2, ?_⟩ sub gv nv
  exact ⟨su.j0, su.j1, by rw [bk _ _ (by simp)]; exact su'.hf, by rw [bk _ _ (by simp)]; exact su'.hc, by rw [bk _ _ (by simp)]; exact su'.h0, by rw [bk _ _ (by simp)]; exact su'.h1, by rw [backC_out hbc]; exact su'.hb, su'.hl, su'.st⟩
theorem eff_sub {d : Kd} {g g' : List Key → Option Key} (s : Sub g g') : Sub (eff d g) (eff d g') := fun k v e => by
  unfold eff at e ⊢
  cases h : d.pl with
  | none => rw [h] at e; exact s _ _ e
  | some p => rw [h] at e; exact s _ _ e
theorem Ext.ofE {d : Kd} {g g' : List Key → Option Key} {h : List Key → Key} (s : Sub g g') (e : Ext (eff d g') h) : Ext (eff d g) h := e.of (eff_sub s)
theorem call_ok {H : Hp} {f p : Addr} {d : Kd} {g : List Key → Option Key} {n : Nat} {k : List Key} {R : VK} (s : Stp A H f d g n) (hn : n ≤ 45000) (hp : H p = some (.tup (k.map kV))) (ok : okT k = true)
    (q : ∀ (v : Key) (H' : Hp) (g' : List Key → Option Key), KeepB d.a.b H H' → Stp A H' f d g' (n + 1) → Sub g g' → eff d g' k = some v → stOf k v → R (kV v) H') : HCall (Knd1 K A) f [.ref p] H R E0 := by
  cases s with
  | sur kvs h ef ep hg =>
    subst ef hg
    exact sur_call m0 h (by omega) hp fun v H' kvs' kb su' sub gv ⟨i, i0, i1, ei⟩ => q v H' (tabG kvs') kb (.sur kvs' su' rfl ep rfl) sub (by unfold eff; rw [ep]; exact gv) (by rw [ei]; exact ⟨i0, i1⟩)
  | pla k1 k2 kvs h ep hg =>
    subst hg
    exact pla_call h hn hp ok fun v H' kvs' kb su' sub gv ⟨i, i0, i1, ei⟩ => q v H' (tabG kvs') kb (.pla k1 k2 kvs' su' ep rfl) sub (by unfold eff; rw [ep]; exact gv) (by rw [ei]; exact ⟨i0, i1⟩)
end Rs
namespace Rs
open PySem PySem.Spec PyProof.Rows L2
theorem KeepP.trans {P : Addr} {H H1 H2 : Hp} (a : KeepP P H H1) (b : KeepP P H1 H2) : KeepP P H H2 := fun x o e n => b x o (a x o e n) n
theorem KeepP.new {P p : Addr} {H : Hp} {o : HO} (h : H p = none) : KeepP P H (upd H p o) := fun b u e _ => by rw [upd_ne (ne_of_none e h)]; exact e
theorem KeepP.tab {P : Addr} {H : Hp} {o : HO} : KeepP P H (upd H P o) := fun b u e n => by rw [upd_ne n]; exact e
theorem fresh_ne {H : Hp} {P q : Addr} {o : HO} (hP : H P = some o) (hq : H q = none) : q ≠ P := fun e => by rw [e, hP] at hq; cases hq
theorem Tab1.same {P : Addr} {l c : Nat} {t : CloT} {H H' : Hp} (h : Tab1 P l c t H) (s : Same H H') : Tab1 P l c t H' := by
  obtain ⟨ps, h1, h2⟩ := h
  exact ⟨ps, s _ _ h1, h2.imp id fun ⟨a, e, ha⟩ => ⟨a, e, s _ _ ha⟩⟩
theorem made {P : Addr} {l c : Nat} {t : CloT} {H : Hp} {cs : List Addr} {R : V → Hp → Prop} (tb : Tab1 P l c t H)
    (q : ∀ (f d : Addr) (H3 : Hp), H f = none → KeepP P H H3 → Tab1 P l c t H3 → f ≠ P → d ≠ P → H3 f = some (cloO f t cs d) → H3 d = some (codeO d t.qual) → R (.ref f) H3) :
    ∃ ps, H P = some (.tbl ps) ∧ ((ps = #[] ∧ ∀ d f, H d = none → H f = none → d ≠ f → R (.ref f) (upd (upd (upd H P (.tbl (ps ++ #[rawInt ((l : Nat) : Int), rawInt ((c : Nat) : Int), .ref d]))) d (codeO d t.qual)) f (cloO f t cs d))) ∨ ∃ d, ps = #[] ++ #[rawInt ((l : Nat) : Int), rawInt ((c : Nat) : Int), .ref d] ∧ ∀ f, H f = none → R (.ref f) (upd H f (cloO f t cs d))) := by
  obtain ⟨ps, hP, tb⟩ := tb
  refine ⟨ps, hP, ?_⟩
  rcases tb with rfl | ⟨d, rfl, hd⟩
  · refine .inl ⟨rfl, fun d f hd hf hne => ?_⟩
    have dP := fresh_ne hP hd
    have fP := fresh_ne hP hf
    have c1 : ∀ o, upd H P o d = none := fun o => by rw [upd_ne dP]; exact hd
    have f1 : ∀ o, upd (upd H P o) d (codeO d t.qual) f = none := fun o => by rw [upd_ne (Ne.symm hne), upd_ne fP]; exact hf
    exact q f d _ hf (KeepP.tab.trans ((KeepP.new (c1 _)).trans (KeepP.new (f1 _)))) ⟨_, by rw [upd_ne (Ne.symm fP), upd_ne (Ne.symm dP), upd_same], .inr ⟨d, rfl, by rw [upd_ne hne, upd_same]⟩⟩ fP dP upd_same (by rw [upd_ne hne, upd_same])
  · refine .inr ⟨d, rfl, fun f hf => ?_⟩
    have fP := fresh_ne hP hf
    have dP : d ≠ P := fun z => by subst z; rw [hP] at hd; cases hd
    have S := Same.upd (o := cloO f t cs d) hf
    exact q f d _ hf (KeepP.new hf) ⟨_, S _ _ hP, .inr ⟨d, rfl, S _ _ hd⟩⟩ fP dP upd_same (S _ _ hd)
variable {K : PySem.W.Frag} {mg : Str → Option Value} {A : Adr}
theorem len__law_sure (K : PySem.W.Frag) (A : Adr) : ∀ vs H Q E, sp__law_sure K A vs H Q E → vs.length = 1 := by rintro vs H Q E ⟨j, rfl, _⟩; rfl
theorem rd__law_sure (T : Txt K mg A) (q0 q1 : Addr) (hnd : ([q0, q1] : List Addr).Nodup) (vs : List V) (H : Hp) (Q : VK) (E : XK) (h : sp__law_sure K A vs H Q E) : T__law_sure K A q0 q1 { nx := fun σ H' => (∀ p ∈ ([(0, q0), (1, q1)] : List (Nat × Addr)), H' p.2 = none) → Q .non (trackC [(0, q0), (1, q1)] σ H'), rt := fun σ v H' => (∀ p ∈ ([(0, q0), (1, q1)] : List (Nat × Addr)), H' p.2 = none) → Q v (trackC [(0, q0), (1, q1)] σ H') } (L2.start ["_law_first", "_law_known", "_law_number"] vs) H := by
  obtain ⟨j, rfl, j0, j1, tb, q⟩ := h
  have n01 : q0 ≠ q1 := fun e => by simp [e] at hnd
  refine .inr fun b hb => ?_
  have tb1 : TabS A (upd H b (.dT [])) := tb.same (Same.upd hb)
  obtain ⟨ps0, hP0, _⟩ := id tb
  have bP : b ≠ A.t__law_sure := fresh_ne hP0 hb
  have S1 : KeepP A.t__law_sure H (upd H b (.dT [])) := KeepP.new hb
  have key : ∀ (f d : Addr) (H3 : Hp), upd H b (.dT []) f = none → KeepP A.t__law_sure (upd H b (.dT [])) H3 → TabS A H3 → f ≠ A.t__law_sure → d ≠ A.t__law_sure → H3 f = some (cloO f ct__law_sure__c0 [q1, q0] d) → H3 d = some (codeO d ct__law_sure__c0.qual) →
      ((∀ p ∈ ([(0, q0), (1, q1)] : List (Nat × Addr)), H3 p.2 = none) → Q (.ref f) (upd (upd H3 q0 (cellO q0 (.int j))) q1 (cellO q1 (.ref b)))) := by
    intro f d H3 hf k3 tb3 fP dP hf3 hd3 hq
    have a0 : H3 q0 = none := hq (0, q0) (by simp)
    have a1 : H3 q1 = none := hq (1, q1) (by simp)
    have a1' : upd H3 q0 (cellO q0 (.int j)) q1 = none := by rw [upd_ne (Ne.symm n01)]; exact a1
    have S2 := (Same.upd (o := cellO q0 (.int j)) a0).trans (Same.upd (o := cellO q1 (.ref b)) a1')
    refine q ⟨f, b, q0, q1, d, j⟩ _ (S1.trans (k3.trans fun x o e _ => S2 _ _ e)) (tb3.same S2) hb ⟨j0, j1, S2 _ _ hf3, S2 _ _ hd3, ?_, upd_same, S2 _ _ (k3 _ _ upd_same bP), Nat.le_refl _, fun i p h => by cases h⟩
    show upd (upd H3 q0 (cellO q0 (.int j))) q1 _ q0 = _
    rw [upd_ne n01, upd_same]
  obtain ⟨ps, hP, h⟩ := made (cs := [q1, q0]) (R := fun v H3 => ∀ f, v = .ref f → (∀ p ∈ ([(0, q0), (1, q1)] : List (Nat × Addr)), H3 p.2 = none) → Q (.ref f) (upd (upd H3 q0 (cellO q0 (.int j))) q1 (cellO q1 (.ref b)))) tb1
    (fun f d H3 hf k3 tb3 fP dP hf3 hd3 f' ef => by cases ef; exact key f d H3 hf k3 tb3 fP dP hf3 hd3)
  rcases h with ⟨rfl, h⟩ | ⟨d, rfl, h⟩
  · exact ⟨_, hP, trivial, .inl ⟨rfl, fun c f hc hf hne hq => h c f hc hf hne f rfl hq⟩⟩
  · exact ⟨_, hP, trivial, .inr ⟨d, rfl, fun f hf hq => h f hf f rfl hq⟩⟩
theorem len__law_planted (K : PySem.W.Frag) (A : Adr) : ∀ vs H Q E, sp__law_planted K A vs H Q E → vs.length = 3 := by rintro vs H Q E ⟨o1, o2, a, k1, k2, kvs, n, rfl, _⟩; rfl
theorem rd__law_planted (T : Txt K mg A) (q0 q1 q2 : Addr) (hnd : ([q0, q1, q2] : List Addr).Nodup) (vs : List V) (H : Hp) (Q : VK) (E : XK) (h : sp__law_planted K A vs H Q E) : T__law_planted K A q0 q1 q2 { nx := fun σ H' => (∀ p ∈ ([(0, q0), (1, q1), (2, q2)] : List (Nat × Addr)), H' p.2 = none) → Q .non (trackC [(0, q0), (1, q1), (2, q2)] σ H'), rt := fun σ v H' => (∀ p ∈ ([(0, q0), (1, q1), (2, q2)] : List (Nat × Addr)), H' p.2 = none) → Q v (trackC [(0, q0), (1, q1), (2, q2)] σ H') } (L2.start ["_law_sure_one", "_law_one", "_law_other", "_law_number"] vs) H := by
  obtain ⟨o1, o2, a, k1, k2, kvs, n, rfl, h1, h2, ok1, ok2, su, tb, q⟩ := h
  have n01 : q0 ≠ q1 := fun e => by simp [e] at hnd
  have n02 : q0 ≠ q2 := fun e => by simp [e] at hnd
  have n12 : q1 ≠ q2 := fun e => by simp [e] at hnd
  obtain ⟨ps0, hP0, _⟩ := id tb
  have nP : ∀ {x : Addr} {o : HO}, H x = some o → (∀ ps, o ≠ .tbl ps) → x ≠ A.t__law_planted := fun e hn z => by subst z; rw [hP0] at e; cases e; exact hn _ rfl
  have key : ∀ (f d : Addr) (H3 : Hp), H f = none → KeepP A.t__law_planted H H3 → TabP A H3 → f ≠ A.t__law_planted → d ≠ A.t__law_planted → H3 f = some (cloO f ct__law_planted__c0 [q0, q2, q1] d) → H3 d = some (codeO d ct__law_planted__c0.qual) →
      ((∀ p ∈ ([(0, q0), (1, q1), (2, q2)] : List (Nat × Addr)), H3 p.2 = none) → Q (.ref f) (upd (upd (upd H3 q0 (cellO q0 (.ref a.f))) q1 (cellO q1 (.ref o1))) q2 (cellO q2 (.ref o2)))) := by
    intro f d H3 hf k3 tb3 fP dP hf3 hd3 hq
    have a0 : H3 q0 = none := hq (0, q0) (by simp)
    have a1 : H3 q1 = none := hq (1, q1) (by simp)
    have a2 : H3 q2 = none := hq (2, q2) (by simp)
    have a1' : upd H3 q0 (cellO q0 (.ref a.f)) q1 = none := by rw [upd_ne (Ne.symm n01)]; exact a1
    have a2' : upd (upd H3 q0 (cellO q0 (.ref a.f))) q1 (cellO q1 (.ref o1)) q2 = none := by rw [upd_ne (Ne.symm n12), upd_ne (Ne.symm n02)]; exact a2
    have S2 := (Same.upd (o := cellO q0 (.ref a.f)) a0).trans ((Same.upd (o := cellO q1 (.ref o1)) a1').trans (Same.upd (o := cellO q2 (.ref o2)) a2'))
    have kk : KeepP A.t__law_planted H (upd (upd (upd H3 q0 (cellO q0 (.ref a.f))) q1 (cellO q1 (.ref o1))) q2 (cellO q2 (.ref o2))) := k3.trans fun x o e _ => S2 _ _ e
    have z0 : upd (upd (upd H3 q0 (cellO q0 (.ref a.f))) q1 (cellO q1 (.ref o1))) q2 (cellO q2 (.ref o2)) q0 = some (cellO q0 (.ref a.f)) := by rw [upd_ne n02, upd_ne n01, upd_same]
    have z1 : upd (upd (upd H3 q0 (cellO q0 (.ref a.f))) q1 (cellO q1 (.ref o1))) q2 (cellO q2 (.ref o2)) q1 = some (cellO q1 (.ref o1)) := by rw [upd_ne n12, upd_same]
    have z2 : upd (upd (upd H3 q0 (cellO q0 (.ref a.f))) q1 (cellO q1 (.ref o1))) q2 (cellO q2 (.ref o2)) q2 = some (cellO q2 (.ref o2)) := upd_same
    have hx : ∀ {x : Addr} {o : HO}, H x = some o → (∀ ps, o ≠ .tbl ps) → x ∉ [q0, q2, q1] := fun e hn z => by
      have e3 := k3 _ _ e (nP e hn)
      simp only [List.mem_cons, List.not_mem_nil, or_false] at z
      rcases z with rfl | rfl | rfl
      · rw [a0] at e3; cases e3
      · rw [a2] at e3; cases e3
      · rw [a1] at e3; cases e3
    refine q f _ kk (tb3.same S2) ⟨⟨q0, q1, q2, o1, o2, ⟨⟨d, S2 _ _ hf3, S2 _ _ hd3⟩, .cons z0 (.cons z2 (.cons z1 .nil))⟩, kk _ _ h1 (nP h1 (fun _ z => nomatch z)), kk _ _ h2 (nP h2 (fun _ z => nomatch z)), fun x hm => ?_⟩, ok1, ok2, su.keepB (Nat.le_refl _) fun x o e _ _ nt => kk _ _ e (nP e nt)⟩
    simp only [List.mem_cons, List.not_mem_nil, or_false] at hm
    rcases hm with rfl | rfl | rfl | rfl
    · exact hx su.hf (fun _ z => nomatch z)
    · exact hx su.h0 (fun _ z => nomatch z)
    · exact hx su.h1 (fun _ z => nomatch z)
    · exact hx su.hc (fun _ z => nomatch z)
  obtain ⟨ps, hP, h⟩ := made (cs := [q0, q2, q1]) (R := fun v H3 => ∀ f, v = .ref f → (∀ p ∈ ([(0, q0), (1, q1), (2, q2)] : List (Nat × Addr)), H3 p.2 = none) → Q (.ref f) (upd (upd (upd H3 q0 (cellO q0 (.ref a.f))) q1 (cellO q1 (.ref o1))) q2 (cellO q2 (.ref o2)))) tb
    (fun f d H3 hf k3 tb3 fP dP hf3 hd3 f' ef => by cases ef; exact key f d H3 hf k3 tb3 fP dP hf3 hd3)
  rcases h with ⟨rfl, h⟩ | ⟨d, rfl, h⟩
  · exact ⟨_, hP, trivial, .inl ⟨rfl, fun c f hc hf hne hq => h c f hc hf hne f rfl hq⟩⟩
  · exact ⟨_, hP, trivial, .inr ⟨d, rfl, fun f hf hq => h f hf f rfl hq⟩⟩
end Rs
namespace Rs
open PySem PySem.Spec PyProof.Rows L2
mutual
noncomputable def tupD : Dat → Bool
  | .lst _ => false
  | .tup ds => tupDs ds
  | .non => true
  | .bl _ => true
  | .int _ => true
  | .str _ => true
  | .dic => false
noncomputable def tupDs : List Dat → Bool
  | [] => true
  | d :: r => tupD d && tupDs r
end
mutual
theorem DatW.keepT {H H' : Hp} {v : V} {d : Dat} (h : DatW H v d) (k : ∀ b xs, H b = some (.tup xs) → H' b = some (.tup xs)) (t : tupD d = true) : DatW H' v d := by
  cases h with
  | non => exact .non
  | bl b => exact .bl b
  | int i => exact .int i
  | str z => exact .str z
  | lst e r => cases t
  | tup e r => exact .tup (k _ _ e) (DatWs.keepT r k t)
  | dic e => cases t
theorem DatWs.keepT {H H' : Hp} {xs : List V} {ds : List Dat} (h : DatWs H xs ds) (k : ∀ b xs, H b = some (.tup xs) → H' b = some (.tup xs)) (t : tupDs ds = true) : DatWs H' xs ds := by
  cases h with
  | nil => exact .nil
  | cons a r =>
    have t : (tupD _ && tupDs _) = true := t
    rw [Bool.and_eq_true] at t
    exact .cons (DatW.keepT a k t.1) (DatWs.keepT r k t.2)
end
theorem tup_key (x : Key) : tupD (datK x) = true := by cases x <;> rfl
theorem tup_keys : ∀ e : List Key, tupDs (e.map datK) = true
  | [] => rfl
  | x :: r => by show (tupD (datK x) && tupDs (r.map datK)) = true; rw [tup_key, tup_keys r]; rfl
theorem tup_steps : ∀ st : List (Int × Key), tupDs (st.map stD) = true
  | [] => rfl
  | s :: r => by
    show ((true && (tupD (datK s.2) && true)) && tupDs (r.map stD)) = true
    rw [tup_key, tup_steps r]; rfl
theorem PartW.keep {H H' : Hp} {v : V} {b k : Int} {st : List (Int × Key)} {e : List Key} (h : PartW H v b k st e) (kt : ∀ b xs, H b = some (.tup xs) → H' b = some (.tup xs)) : PartW H' v b k st e := by
  refine ⟨h.1.keepT kt ?_, h.2⟩
  show (tupDs (st.map stD) && (tupDs (e.map datK) && true)) = true
  rw [tup_steps, tup_keys]; rfl
theorem SlipW.keep {H H' : Hp} {v : V} {b k : Int} {st : List (Int × Key)} {e : List Key} (h : SlipW H v b k st e) (kt : ∀ b xs, H b = some (.tup xs) → H' b = some (.tup xs)) : SlipW H' v b k st e := ⟨h.1.keep kt, h.2⟩
theorem KeepB.obj {d : Addr} {H H' : Hp} (k : KeepB d H H') (hd : ∃ kvs, H d = some (.dT kvs)) {x : Addr} {o : HO} (e : H x = some o) (hn : ∀ kvs, o ≠ .dT kvs) : H' x = some o := k _ _ (fun z => by obtain ⟨kvs, hd⟩ := hd; subst z; rw [hd] at e; cases e; exact hn _ rfl) e
theorem KeepB.tup {d : Addr} {H H' : Hp} (k : KeepB d H H') (hd : ∃ kvs, H d = some (.dT kvs)) : ∀ b xs, H b = some (.tup xs) → H' b = some (.tup xs) := fun b xs e => k.obj hd e fun _ z => nomatch z
theorem isStep_least {b l : Int} {d : Dat} (hl : 0 ≤ l) (h : isStepD b 0 d = false) : isStepD b l d = false := by
  unfold isStepD at h ⊢
  split at h
  · rename_i i m
    rw [Bool.and_eq_false_iff] at h ⊢
    rcases h with h | h
    · left
      have h := of_decide_eq_false h
      exact decide_eq_false (by omega)
    · exact .inr h
  · rfl
theorem step_nn {b l : Int} {s : Dat} (hl : 0 ≤ l) (h : isStepD b l s = true) : l ≤ depthOf s ∧ depthOf s < b := by
  obtain ⟨i, m, rfl⟩ := isStep_shape h
  have h : (decide (l ≤ i ∧ i < b) && isStampD m) = true := h
  rw [Bool.and_eq_true, decide_eq_true_eq] at h
  exact h.1
theorem areSteps_bad {b : Int} {d : Dat} (h : isStepD b 0 d = false) : ∀ {ds : List Dat} {l : Int} {j : Nat}, 0 ≤ l → ds[j]? = some d → areStepsD b l ds = false
  | [], l, j, _, e => by cases e
  | s :: r, l, j, hl, e => by
    show (isStepD b l s && areStepsD b (depthOf s + 1) r) = false
    cases hs : isStepD b l s with
    | false => rfl
    | true =>
      have := step_nn hl hs
      cases j with
      | zero =>
        have e : s = d := Option.some.inj e
        rw [e, isStep_least hl h] at hs; cases hs
      | succ j =>
        have e : r[j]? = some d := e
        rw [areSteps_bad h (by omega) e]; rfl
theorem areSteps_len {b : Int} : ∀ {ds : List Dat} {l : Int}, 0 ≤ l → l ≤ b → areStepsD b l ds = true → (ds.length : Int) ≤ b - l
  | [], l, _, h, _ => by simp; omega
  | s :: r, l, hl, hb, h => by
    have h : (isStepD b l s && areStepsD b (depthOf s + 1) r) = true := h
    rw [Bool.and_eq_true] at h
    have := step_nn hl h.1
    have := areSteps_len (by omega) (by omega) h.2
    rw [List.length_cons]; omega
theorem ok_memD {d : Dat} : ∀ {ds : List Dat}, okDs ds = true → d ∈ ds → okD d = true
  | [], _, h => nomatch h
  | x :: r, h, hm => by
    have h : (okD x && okDs r) = true := h
    rw [Bool.and_eq_true] at h
    rcases List.mem_cons.mp hm with e | e
    · rw [e]; exact h.1
    · exact ok_memD h.2 e
theorem markP {x : Key} (h1 : isStampD (datK x) = true) (h2 : okD (datK x) = true) : okP x = true ∧ szK x ≤ 1062 := by
  cases x with
  | inl i => exact ⟨h1, by show 62 ≤ 1062; decide⟩
  | inr z =>
    have h2 : (ascS z && decide (z.length ≤ 1000)) = true := h2
    rw [Bool.and_eq_true, decide_eq_true_eq] at h2
    exact ⟨by show (ascS z && decide (z.length ≤ 100000)) = true; rw [h2.1, decide_eq_true (by omega)]; rfl, by show z.length + 62 ≤ 1062; omega⟩
theorem Good.step {b k : Int} {st : List (Int × Key)} {e : List Key} (g : Good b k st e) {i : Nat} {s : Int × Key} (h : st[i]? = some s) : 0 ≤ s.1 ∧ s.1 < b ∧ okP s.2 = true ∧ szK s.2 ≤ 1062 := by
  have hi : (st.map stD)[i]? = some (stD s) := by rw [List.getElem?_map, h]; rfl
  have hs : isStepD b 0 (stD s) = true := by
    cases hh : isStepD b 0 (stD s) with
    | true => rfl
    | false => have := areSteps_bad hh (Int.le_refl 0) hi; rw [g.gs.1] at this; cases this
  have hs : (decide (0 ≤ s.1 ∧ s.1 < b) && isStampD (datK s.2)) = true := hs
  rw [Bool.and_eq_true, decide_eq_true_eq] at hs
  have ho : (true && (okD (datK s.2) && true)) = true := ok_memD g.gs.2.1 (List.mem_of_getElem? hi)
  have ho : okD (datK s.2) = true := by simpa using ho
  have := markP hs.2 ho
  exact ⟨hs.1.1, hs.1.2, this⟩
theorem Good.len {b k : Int} {st : List (Int × Key)} {e : List Key} (g : Good b k st e) : st.length ≤ 60 := by
  have h1 := areSteps_len (Int.le_refl 0) (by have := g.b1; omega) g.gs.1
  have h2 := g.b60
  have h3 : ((st.map stD).length : Int) = st.length := by simp
  omega
theorem okT3 {x y z : Key} (hx : okP x = true) (hy : okP y = true) (hz : okP z = true) (h : isTxt x = true) : okT [x, y, z] = true := by
  show (true && isTxt x && (okP x && (okP y && (okP z && true)))) = true
  rw [h, hx, hy, hz]; rfl
theorem okT5 {x y z u v : Key} (hx : okP x = true) (hy : okP y = true) (hz : okP z = true) (hu : okP u = true) (hv : okP v = true) (h : isTxt x = true) : okT [x, y, z, u, v] = true := by
  show (true && isTxt x && (okP x && (okP y && (okP z && (okP u && (okP v && true)))))) = true
  rw [h, hx, hy, hz, hu, hv]; rfl
theorem fork_ok : okP (.inr "fork") = true ∧ okP (.inr "leaf") = true ∧ okP (.inr "bare") = true := by decide +kernel
theorem fork_sz : szK (.inr "fork") = 66 ∧ szK (.inr "leaf") = 66 ∧ szK (.inr "bare") = 66 := by decide +kernel
theorem intP {i : Int} (h0 : 0 ≤ i) (h1 : i < 10 ^ 60) : okP (.inl i) = true := decide_eq_true ⟨h0, h1⟩
theorem startI_60 {b k d : Int} (d0 : 0 ≤ d) (hd : d ≤ b) (hb : b ≤ 60) (k0 : 0 ≤ k) (k1 : k < 2 ^ b.toNat) : 0 ≤ startI b k d ∧ startI b k d < 10 ^ 60 := by
  refine ⟨startI_nn k0, ?_⟩
  have h1 := startI_lt d0 hd k1
  have h2 := pow2_60 (k := d.toNat) (by omega)
  have q60 : (2 : Int) ^ 60 < 10 ^ 60 := by decide +kernel
  omega
theorem place_in {b : Int} {ds : List Dat} (b1 : 1 ≤ b) (h : areStepsD b 0 ds = true) : 0 ≤ placeFrom 0 ds ∧ placeFrom 0 ds ≤ b := by
  unfold placeFrom
  cases e : ds.getLast? with
  | none => exact ⟨Int.le_refl 0, by show (0 : Int) ≤ b; omega⟩
  | some s =>
    obtain ⟨i, m, rfl, i0, i1⟩ := areSteps_last (Int.le_refl 0) h e
    exact ⟨by show 0 ≤ i + 1; omega, by show i + 1 ≤ b; omega⟩
theorem Good.endT {b k : Int} {st : List (Int × Key)} {e : List Key} (g : Good b k st e) : okT e = true ∧ szT e ≤ 2500 := by
  obtain ⟨l, hl0, h⟩ := g.en
  have q60 : (2 : Int) ^ 60 < 10 ^ 60 := by decide +kernel
  have p60 : (60 : Int) < 10 ^ 60 := by decide +kernel
  have hb := g.b60
  have hb2 := pow2_60 (k := b.toNat) (by omega)
  have ok : okDs (e.map datK) = true := g.ok
  have key : ∀ {x : Key} {w : Str}, datK x = .str w → x = .inr w := fun {x w} hx => datK_inj (b := .inr w) hx
  unfold isEndD at h
  split at h
  · rename_i hb
    match e, hb with
    | [x], hb =>
      rw [key (isStr_eq hb)]
      exact ⟨by decide +kernel, by decide +kernel⟩
  · rw [Bool.or_eq_true] at h
    rcases h with h | h
    · match e, h, ok with
      | [w, .inl x, z], h, ok =>
        have h : (isStrD "leaf" (datK w) && decide (0 ≤ x ∧ x < 2 ^ b.toNat) && isValueD (datK z) && decide (startI b x l = startI b k l)) = true := h
        simp only [Bool.and_eq_true, decide_eq_true_eq] at h
        rw [key (isStr_eq h.1.1.1)] at ok ⊢
        cases z with
        | inl i => cases h.1.2
        | inr z =>
          have ok : (okD (.str "leaf") && (true && (okD (.str z) && true))) = true := ok
          have ok : okD (.str z) = true := by simp only [Bool.and_eq_true] at ok; exact ok.2.2.1
          have mp := markP (x := .inr z) rfl ok
          refine ⟨okT3 fork_ok.2.1 (intP h.1.1.2.1 (by have := h.1.1.2.2; omega)) mp.1 rfl, ?_⟩
          show ([szK (.inr "leaf"), 62, szK (.inr z)] : List Nat).sum ≤ 2500
          rw [fork_sz.2.1]; simp; have := mp.2; omega
    · rw [Bool.and_eq_true] at h
      match e, h, ok with
      | [w, .inl d, .inl bb, m, n], h, ok =>
        have h1 : (isStrD "fork" (datK w) && decide (l ≤ d ∧ d < b) && decide (0 ≤ bb ∧ bb < 2 ^ d.toNat) && decide (bb / 2 ^ (d - l).toNat = startI b k l)) = true := h.1
        have h2 : (!decide (bb = startI b k d) && isStampD (datK m) && isStampD (datK n)) = true := h.2
        simp only [Bool.and_eq_true, decide_eq_true_eq] at h1 h2
        rw [key (isStr_eq h1.1.1.1)] at ok ⊢
        have ok : (okD (.str "fork") && (true && (true && (okD (datK m) && (okD (datK n) && true))))) = true := ok
        simp only [Bool.and_eq_true] at ok
        have mp := markP h2.1.2 ok.2.2.2.1
        have np := markP h2.2 ok.2.2.2.2.1
        have h3 := h1.1.1.2
        have h4 := h1.1.2
        have h5 := pow2_60 (k := d.toNat) (by omega)
        refine ⟨okT5 fork_ok.1 (intP (by omega) (by omega)) (intP h4.1 (by omega)) mp.1 np.1 rfl, ?_⟩
        show ([szK (.inr "fork"), 62, 62, szK m, szK n] : List Nat).sum ≤ 2500
        rw [fork_sz.1]; simp; have := mp.2; have := np.2; omega
theorem stOf_ok {k : List Key} {v : Key} (h : stOf k v) (hk : szT k ≤ 100000) : okP v = true ∧ szK v ≤ szT k + 62 := by
  cases v with
  | inl i => exact ⟨decide_eq_true h, by show 62 ≤ _; omega⟩
  | inr z => exact ⟨by show (ascS z && decide (z.length ≤ 100000)) = true; rw [h.1, decide_eq_true (Nat.le_trans h.2 hk)]; rfl, by show z.length + 62 ≤ _; have := h.2; omega⟩
theorem okT_fork {b k d : Int} {m s : Key} (hd : okP (.inl d) = true) (hb : okP (.inl (startI b k d)) = true) (hm : okP m = true) (hs : okP s = true) : okT (forkT b k d m s) = true ∧ szT (forkT b k d m s) = 190 + szK m + szK s := by
  unfold forkT
  split
  · refine ⟨okT5 fork_ok.1 hd hb hs hm rfl, ?_⟩
    show ([szK (.inr "fork"), 62, 62, szK s, szK m] : List Nat).sum = _
    rw [fork_sz.1]; simp; omega
  · refine ⟨okT5 fork_ok.1 hd hb hm hs rfl, ?_⟩
    show ([szK (.inr "fork"), 62, 62, szK m, szK s] : List Nat).sum = _
    rw [fork_sz.1]; simp; omega
noncomputable def extT (g : List Key → Option Key) : List Key → Key := fun k => (g k).getD (.inl 0)
theorem extT_ok (g : List Key → Option Key) : Ext g (extT g) := fun k v e => by unfold extT; rw [e]; rfl
theorem chain_last (h : List Key → Key) (b k : Int) : ∀ (r : List (Int × Key)) (e : List Key), ∃ pre, chainT h b k e r = pre ++ [lastT h b k e r]
  | [], e => ⟨[], rfl⟩
  | s :: r, e => by
    obtain ⟨pre, hp⟩ := chain_last h b k r (forkT b k s.1 s.2 (h e))
    exact ⟨e :: pre, by show e :: chainT h b k _ r = _; rw [hp]; rfl⟩
theorem chain_split {g : List Key → Option Key} {b k : Int} {e : List Key} {r : List (Int × Key)} {ts : List (List Key)} (h : ∀ f, Ext g f → ts = chainT f b k e r) : ∃ pre cur, ts = pre ++ [cur] ∧ ∀ f, Ext g f → lastT f b k e r = cur := by
  obtain ⟨pre, hp⟩ := chain_last (extT g) b k r e
  have h0 := h _ (extT_ok g)
  refine ⟨pre, lastT (extT g) b k e r, by rw [h0, hp], fun f hf => ?_⟩
  obtain ⟨pre', hp'⟩ := chain_last f b k r e
  have h1 := h f hf
  rw [hp'] at h1
  rw [hp] at h0
  rw [h0] at h1
  have := congrArg List.getLast? h1
  simp at this
  exact this.symm
theorem pk_snoc {H : Hp} {ps : List Addr} {ts : List (List Key)} {p : Addr} {t : List Key} (h : PK H ps ts) (e : H p = some (.tup (t.map kV)) ∧ okT t = true) : PK H (ps ++ [p]) (ts ++ [t]) := by
  induction h with
  | nil => exact .cons e .nil
  | cons r t ih => exact .cons r ih
theorem pk_keep {H H' : Hp} {ps : List Addr} {ts : List (List Key)} (k : ∀ b xs, H b = some (.tup xs) → H' b = some (.tup xs)) (h : PK H ps ts) : PK H' ps ts := L2.Paired.imp' (fun p x e => ⟨k _ _ e.1, e.2⟩) h
theorem pk_last {H : Hp} {ps : List Addr} {pre : List (List Key)} {cur : List Key} (h : PK H ps (pre ++ [cur])) : ∃ qs p, ps = qs ++ [p] ∧ H p = some (.tup (cur.map kV)) ∧ okT cur = true := by
  have hl := pk_len h
  obtain ⟨p, hp, h2⟩ := pk_get h (i := pre.length) (t := cur) (by simp)
  have hn : ps ≠ [] := by intro z; subst z; simp at hl
  refine ⟨ps.dropLast, p, ?_, h2⟩
  have : ps.getLast? = some p := by
    rw [List.getLast?_eq_getElem?]
    have : ps.length - 1 = pre.length := by simp at hl; omega
    rw [this]; exact hp
  obtain ⟨ys, hy⟩ := List.getLast?_eq_some_iff.mp this
  rw [hy]; simp
theorem ixLastL {K : PySem.W.Frag} {H : Hp} {Q : VK} {L : Addr} {qs : List Addr} {p : Addr} (hL : H L = some (.lst ((qs ++ [p]).map V.ref))) (q : Q (.ref p) H) : rIxA K (.ref L) (.int (-1)) H Q := by
  refine .inl (.inl ⟨L, _, -1, .ref p, rfl, rfl, SqL.of hL, ?_, q⟩)
  rw [List.map_append]
  exact atI_last _ _
structure At (A : Adr) (H : Hp) (f : Addr) (d : Kd) (b k : Int) (st : List (Int × Key)) (e : List Key) (g : List Key → Option Key) (n : Nat) (L : Addr) (i : Nat) (H' : Hp) (ps : List Addr) (pre : List (List Key)) (cur : List Key) (g' : List Key → Option Key) : Prop where
  kt : KeepB d.a.b H H'
  sp : Stp A H' f d g' (n + i)
  sub : Sub g g'
  hL : H' L = some (.lst (ps.map V.ref))
  pk : PK H' ps (pre ++ [cur])
  pl : pre.length = i
  sz : szT cur ≤ 2500 + 1400 * i
  ch : ∀ h, Ext (eff d g') h → chainT h b k e st.reverse = pre ++ chainT h b k cur (st.reverse.drop i)
variable {K : PySem.W.Frag} {mg : Str → Option Value} {A : Adr} {H : Hp} {f : Addr} {d : Kd} {b k : Int} {st : List (Int × Key)} {e : List Key} {g : List Key → Option Key} {n : Nat} {L : Addr}
theorem At.next {i : Nat} {H1 H2 : Hp} {ps : List Addr} {pre : List (List Key)} {cur : List Key} {g1 g2 : List Key → Option Key} {s : Int × Key} {v : Key} {t : Addr}
    (a : At A H f d b k st e g n L i H1 ps pre cur g1) (gd : Good b k st e) (hi : st.reverse[i]? = some s) (hLn : H L = none) (kt : KeepB d.a.b H1 H2) (sp : Stp A H2 f d g2 (n + i + 1)) (sub : Sub g1 g2) (gv : eff d g2 cur = some v) (so : stOf cur v) (ht : H2 t = none) :
    At A H f d b k st e g n L (i + 1) (upd (upd H2 t (.tup ((forkT b k s.1 s.2 v).map kV))) L (.lst ((ps ++ [t]).map V.ref))) (ps ++ [t]) (pre ++ [cur]) (forkT b k s.1 s.2 v) g2 := by
  have hil : i < st.length := by
    rcases Nat.lt_or_ge i st.length with h | h
    · exact h
    · rw [List.getElem?_eq_none (by simp; exact h)] at hi; cases hi
  have gl := gd.len
  have hst : st[st.length - 1 - i]? = some s := by rw [← hi, List.getElem?_reverse hil]
  obtain ⟨d0, d1, mo, ms⟩ := gd.step hst
  have hL2 : H2 L = some (.lst (ps.map V.ref)) := kt.obj a.sp.dict a.hL fun _ z => nomatch z
  have tL : t ≠ L := fun z => by subst z; rw [hL2] at ht; cases ht
  have S1 := Same.upd (o := .tup ((forkT b k s.1 s.2 v).map kV)) ht
  have hb60 := gd.b60
  have p60 : (60 : Int) < 10 ^ 60 := by decide +kernel
  have vs := stOf_ok so (by have := a.sz; omega)
  have sd := startI_60 (b := b) (k := k) (d := s.1) d0 (by omega) gd.b60 gd.k0 gd.k1
  have fo := okT_fork (b := b) (k := k) (intP d0 (by omega)) (intP sd.1 sd.2) mo vs.1
  have kp : ∀ x o, x ≠ L → upd H2 t (.tup ((forkT b k s.1 s.2 v).map kV)) x = some o → upd (upd H2 t (.tup ((forkT b k s.1 s.2 v).map kV))) L (.lst ((ps ++ [t]).map V.ref)) x = some o := fun x o h z => by rw [upd_ne h]; exact z
  have nl : ∀ x xs, H2 x = some (.tup xs) → x ≠ L := fun x xs h z => by subst z; rw [hL2] at h; cases h
  have ktt : ∀ x xs, H2 x = some (.tup xs) → upd (upd H2 t (.tup ((forkT b k s.1 s.2 v).map kV))) L (.lst ((ps ++ [t]).map V.ref)) x = some (.tup xs) := fun x xs h => kp _ _ (nl _ _ h) (S1 _ _ h)
  refine ⟨fun x o h nd => ?_, ?_, a.sub.trans sub, upd_same, ?_, by simp [a.pl], ?_, fun hh he => ?_⟩
  · exact kp _ _ (ne_of_none nd hLn) (S1 _ _ (kt _ _ h (a.kt _ _ h nd)))
  · refine sp.keep (by omega) fun x o h n1 _ _ => kp _ _ (fun z => ?_) (S1 _ _ h)
    subst z; rw [hL2] at h; cases h; exact n1 _ rfl
  · exact pk_snoc (pk_keep ktt (pk_keep (kt.tup a.sp.dict) a.pk)) ⟨kp _ _ tL upd_same, fo.1⟩
  · rw [fo.2]; have := a.sz; omega
  · rw [a.ch hh (he.ofE sub)]
    have hd : st.reverse.drop i = s :: st.reverse.drop (i + 1) := by
      rw [List.drop_eq_getElem_cons (by simp; exact hil)]
      have : st.reverse[i]? = some (st.reverse[i]'(by simp; exact hil)) := List.getElem?_eq_getElem _
      rw [this] at hi; cases hi; rfl
    rw [hd]
    show pre ++ (cur :: chainT hh b k (forkT b k s.1 s.2 (hh cur)) _) = _
    rw [he cur v gv]
    simp
theorem At.done {H' : Hp} {ps : List Addr} {pre : List (List Key)} {cur : List Key} {g' : List Key → Option Key} (a : At A H f d b k st e g n L st.length H' ps pre cur g') : ∀ h, Ext (eff d g') h → pre ++ [cur] = chainT h b k e st.reverse := fun h he => by
  rw [a.ch h he]
  have : st.reverse.drop st.length = [] := by rw [List.drop_eq_nil_iff]; simp
  rw [this]; rfl
end Rs
namespace Rs
open PySem PySem.Spec PyProof.Rows L2
variable {K : PySem.W.Frag} {mg : Str → Option Value} {A : Adr}
theorem rev_at {H : Hp} {st : List (Int × Key)} {xs : List V} (w : DatWs H xs (st.map stD)) {i : Nat} (hi : i < xs.length) : ∃ s p, st.reverse[i]? = some s ∧ xs.reverse.getD i .non = .ref p ∧ H p = some (.tup [.int s.1, kV s.2]) := by
  have hl : xs.length = st.length := by rw [w.len]; simp
  obtain ⟨x, hx⟩ : ∃ x, xs[xs.length - 1 - i]? = some x := ⟨_, List.getElem?_eq_getElem (by omega)⟩
  obtain ⟨s, p, hs, rfl, hp⟩ := stepAt w hx
  refine ⟨s, p, ?_, ?_, hp⟩
  · rw [List.getElem?_reverse (by omega), ← hs, hl]
  · rw [List.getD_eq_getElem?_getD, List.getElem?_reverse hi, hx]; rfl
theorem small_list {ps : List Addr} {H : Hp} {ts : List (List Key)} (h : PK H ps ts) (ht : ts.length ≤ 100) : (ps.map V.ref).length < sizeLine := by
  rw [List.length_map, pk_len h]; exact small1000 (by omega)
theorem At.zero {H H1 : Hp} {f : Addr} {d : Kd} {t L : Addr} {b k : Int} {st : List (Int × Key)} {e : List Key} {g : List Key → Option Key} {n : Nat} (S : Same H H1) (gd : Good b k st e) (sp : Stp A H f d g n) (ht : H t = some (.tup (e.map kV))) (hL : H1 L = none) : At A H f d b k st e g n L 0 (upd H1 L (.lst [.ref t])) [t] [] e g := by
  have S2 := S.trans (Same.upd (o := .lst [V.ref t]) hL)
  have eg := gd.endT
  exact ⟨KeepB.same S2, sp.same (Nat.le_refl _) S2, Sub.rfl', upd_same, .cons ⟨S2 _ _ ht, eg.1⟩ .nil, rfl, by have := eg.2; omega, fun h _ => rfl⟩
theorem len__law_terms (K : PySem.W.Frag) (A : Adr) : ∀ vs H Q E, sp__law_terms K A vs H Q E → vs.length = 4 := by rintro vs H Q E ⟨f, d, b, k, v, st, e, g, n, rfl, _⟩; rfl
theorem rd__law_terms (T : Txt K mg A) (vs : List V) (H : Hp) (Q : VK) (E : XK) (h : sp__law_terms K A vs H Q E) : T__law_terms K A { nx := fun _ H' => Q .non H', rt := Q } (L2.start ["_law_stamper", "_law_bits_here", "_law_key_here", "_law_slip", "_law_terms_here", "_law_depth", "_law_mark_here", "_law_below", "_law_begin"] vs) H := by
  obtain ⟨f, d, b, k, v, st, e, g, n, rfl, w, sp, hn, q⟩ := h
  have gd := w.2
  have gl := gd.len
  obtain ⟨a, s, t, xs, rfl, ha, hs, ws, ht⟩ := slip_at w
  have hxl : xs.length = st.length := by rw [ws.len]; simp
  refine ixT (j := 1) ha rfl rfl ⟨line_ge (n := 1) (by decide), fun L hL => ?_⟩
  have S1 := Same.upd (o := .lst [V.ref t]) hL
  have a0 := At.zero (A := A) (.refl H) gd sp ht hL
  refine ixT (j := 0) (S1 _ _ ha) rfl rfl ⟨s, xs, rfl, SqT.of (S1 _ _ hs), ?_⟩
  refine for_by (Items.rev .non) (fun i σ H' => ∃ ps pre cur g' x5 x6 x7 x8, σ = [some (.ref f), some (.int b), some (.int k), some (.ref a), some (.ref L), x5, x6, x7, x8] ∧ At A H f d b k st e g n L i H' ps pre cur g')
    ⟨[t], [], e, g, none, none, none, none, rfl, a0⟩ ?_ ?_ ?_
  · rintro i σ H1 _ ⟨ps, pre, cur, g1, x5, x6, x7, x8, rfl, a1⟩
    exact SqT.of (a1.kt.tup sp.dict _ _ hs)
  · rintro i σ H1 hi ⟨ps, pre, cur, g1, x5, x6, x7, x8, rfl, a1⟩
    obtain ⟨sk, p, hsk, ep, hp⟩ := rev_at ws hi
    rw [ep]
    have hi' : i < st.length := by omega
    obtain ⟨d0, d1, _, _⟩ := gd.step (i := st.length - 1 - i) (s := sk) (by rw [← hsk, List.getElem?_reverse hi'])
    have hb60 := gd.b60
    obtain ⟨qs, pc, rfl, hpc, okc⟩ := pk_last a1.pk
    refine ⟨p, _, rfl, SqT.of (a1.kt.tup sp.dict _ _ hp), rfl, _, _, rfl, _, _, rfl, rfl, ?_⟩
    refine ⟨f, rfl, a1.sp.clo, ixLastL a1.hL (call_ok a1.sp (by omega) hpc okc fun v H2 g2 kt sp2 sub gv so => ?_)⟩
    have hL2 : H2 L = some (.lst ((qs ++ [pc]).map V.ref)) := kt.obj a1.sp.dict a1.hL fun _ z => nomatch z
    have e1 : ∀ j : Nat, (1 : Int) * 2 ^ j = 2 ^ j := fun j => Int.one_mul _
    have lim : ∀ j : Nat, j ≤ 60 → (0 : Int) < 1 * 2 ^ j ∧ (1 : Int) * 2 ^ j < 1267650600228229401496703205376 := fun j hj => by
      rw [e1]
      have h1 := pow2_pos j
      have h2 := pow2_60 hj
      have h3 : (2 : Int) ^ 60 < 1267650600228229401496703205376 := by decide
      omega
    refine ⟨⟨by omega, by omega, by decide⟩, lim _ (by omega), ⟨by omega, by omega, by decide⟩, lim _ (by omega), by decide, ?_⟩
    have e2 : k / (1 * 2 ^ (b - sk.1).toNat) = startI b k sk.1 := by rw [e1]; rfl
    have nx : ∀ t1, H2 t1 = none → At A H f d b k st e g n L (i + 1) (upd (upd H2 t1 (.tup ((forkT b k sk.1 sk.2 v).map kV))) L (.lst ((qs ++ [pc] ++ [t1]).map V.ref))) (qs ++ [pc] ++ [t1]) (pre ++ [cur]) (forkT b k sk.1 sk.2 v) g2 := fun t1 h1 => a1.next gd hsk hL kt sp2 sub gv so h1
    have hlen : ((qs ++ [pc]).map V.ref).length < sizeLine := small_list a1.pk (by have := a1.pl; simp; omega)
    have ml : ∀ t1 : Addr, (qs ++ [pc]).map V.ref ++ [V.ref t1] = (qs ++ [pc] ++ [t1]).map V.ref := fun t1 => by simp
    rw [e2, e1]
    refine Sel.dec (fun h0 => ?_) (fun h0 => ?_)
    · refine ⟨.inl ⟨rfl, _, SqL.of hL2⟩, line_ge (n := 5) (by decide), fun t1 h1 => ?_⟩
      refine ⟨L, _, .ref t1, rfl, rfl, Same.upd h1 _ _ hL2, hlen, ?_⟩
      rw [ml]
      have ef : forkT b k sk.1 sk.2 v = [.inr "fork", .inl sk.1, .inl (startI b k sk.1), v, sk.2] := if_pos h0
      have nx := nx t1 h1
      rw [ef] at nx
      exact ⟨_, _, _, g2, _, _, _, _, rfl, nx⟩
    · refine ⟨.inl ⟨rfl, _, SqL.of hL2⟩, line_ge (n := 5) (by decide), fun t1 h1 => ?_⟩
      refine ⟨L, _, .ref t1, rfl, rfl, Same.upd h1 _ _ hL2, hlen, ?_⟩
      rw [ml]
      have ef : forkT b k sk.1 sk.2 v = [.inr "fork", .inl sk.1, .inl (startI b k sk.1), sk.2, v] := if_neg h0
      have nx := nx t1 h1
      rw [ef] at nx
      exact ⟨_, _, _, g2, _, _, _, _, rfl, nx⟩
  · rintro σ H1 ⟨ps, pre, cur, g1, x5, x6, x7, x8, rfl, a1⟩
    rw [hxl] at a1
    exact q L ps _ g1 H1 a1.kt a1.sp a1.sub hL a1.hL a1.pk a1.done
theorem len_slip_terms (K : PySem.W.Frag) (A : Adr) : ∀ vs H Q E, sp_slip_terms K A vs H Q E → vs.length = 4 := by rintro vs H Q E ⟨f, d, b, k, v, st, e, g, n, rfl, _⟩; rfl
theorem rd_slip_terms (T : Txt K mg A) (vs : List V) (H : Hp) (Q : VK) (E : XK) (h : sp_slip_terms K A vs H Q E) : T_slip_terms K A { nx := fun _ H' => Q .non H', rt := Q } (L2.start ["stamper", "bits", "key", "slip", "terms", "step"] vs) H := by
  obtain ⟨f, d, b, k, v, st, e, g, n, rfl, w, sp, hn, q⟩ := h
  have gd := w.1.2
  have gl := gd.len
  have hb1 := gd.b1
  obtain ⟨a, s, t, xs, rfl, ha, hs, ws, ht⟩ := slip_at w.1
  have hxl : xs.length = st.length := by rw [ws.len]; simp
  refine ⟨b, .int k, .int k, rfl, by omega, gd.b60, .int k, Sel.no (by show (!decide (0 ≤ k ∧ k < 2 ^ b.toNat)) = false; rw [decide_eq_true ⟨gd.k0, gd.k1⟩]; rfl) ?_⟩
  refine ⟨b, k, .ref a, _, rfl, by omega, gd.b60, w.1.1, .inl ⟨gd.ok, by have := gd.dp; omega⟩, fun H0 S0 => ?_⟩
  have sl : isSlipD b k (.tup [.tup (st.map stD), .tup (e.map datK)]) = true := by
    show (areStepsD b 0 (st.map stD) && isEndD b k (placeD (st.map stD)) (.tup (e.map datK))) = true
    have : placeD (st.map stD) = placeFrom 0 (st.map stD) := rfl
    rw [gd.gs.1, this, w.2]; rfl
  rw [sl]
  refine Sel.no rfl ?_
  refine ixT (j := 1) (S0 _ _ ha) rfl rfl ⟨line_ge (n := 1) (by decide), fun L hL => ?_⟩
  have hLn : H L = none := by
    cases z : H L with
    | none => rfl
    | some o => rw [S0 _ _ z] at hL; cases hL
  have S1 := S0.trans (Same.upd (o := .lst [V.ref t]) hL)
  have a0 := At.zero (A := A) S0 gd sp ht hL
  refine ixT (j := 0) (S1 _ _ ha) rfl rfl ⟨s, xs, rfl, SqT.of (S1 _ _ hs), ?_⟩
  refine for_by (Items.rev .non) (fun i σ H' => ∃ ps pre cur g' x5, σ = [some (.ref f), some (.int b), some (.int k), some (.ref a), some (.ref L), x5] ∧ At A H f d b k st e g n L i H' ps pre cur g')
    ⟨[t], [], e, g, none, rfl, a0⟩ ?_ ?_ ?_
  · rintro i σ H1 _ ⟨ps, pre, cur, g1, x5, rfl, a1⟩
    exact SqT.of (a1.kt.tup sp.dict _ _ hs)
  · rintro i σ H1 hi ⟨ps, pre, cur, g1, x5, rfl, a1⟩
    obtain ⟨sk, p, hsk, ep, hp⟩ := rev_at ws hi
    rw [ep]
    have hi' : i < st.length := by omega
    obtain ⟨d0, d1, _, _⟩ := gd.step (i := st.length - 1 - i) (s := sk) (by rw [← hsk, List.getElem?_reverse hi'])
    obtain ⟨qs, pc, rfl, hpc, okc⟩ := pk_last a1.pk
    refine ⟨.inl ⟨rfl, _, SqL.of a1.hL⟩, ?_⟩
    refine ⟨f, rfl, a1.sp.clo, ixLastL a1.hL (call_ok a1.sp (by omega) hpc okc fun v H2 g2 kt sp2 sub gv so => ?_)⟩
    have hL2 : H2 L = some (.lst ((qs ++ [pc]).map V.ref)) := kt.obj a1.sp.dict a1.hL fun _ z => nomatch z
    refine ⟨b, k, sk.1, sk.2, v, p, rfl, kt.tup a1.sp.dict _ _ (a1.kt.tup sp.dict _ _ hp), d1, gd.k0, fun t1 h1 => ?_⟩
    have hlen : ((qs ++ [pc]).map V.ref).length < sizeLine := small_list a1.pk (by have := a1.pl; simp; omega)
    refine ⟨L, _, .ref t1, rfl, rfl, Same.upd h1 _ _ hL2, hlen, ?_⟩
    have ml : (qs ++ [pc]).map V.ref ++ [V.ref t1] = (qs ++ [pc] ++ [t1]).map V.ref := by simp
    rw [ml]
    exact ⟨_, _, _, g2, _, rfl, a1.next gd hsk hLn kt sp2 sub gv so h1⟩
  · rintro σ H1 ⟨ps, pre, cur, g1, x5, rfl, a1⟩
    rw [hxl] at a1
    exact q L ps _ g1 H1 a1.kt a1.sp a1.sub hLn a1.hL a1.pk a1.done
theorem len_slip_mark (K : PySem.W.Frag) (A : Adr) : ∀ vs H Q E, sp_slip_mark K A vs H Q E → vs.length = 4 := by rintro vs H Q E ⟨f, d, b, k, v, st, e, g, n, rfl, _⟩; rfl
theorem rd_slip_mark (T : Txt K mg A) (vs : List V) (H : Hp) (Q : VK) (E : XK) (h : sp_slip_mark K A vs H Q E) : T_slip_mark K A { nx := fun _ H' => Q .non H', rt := Q } (L2.start ["stamper", "bits", "key", "slip"] vs) H := by
  obtain ⟨f, d, b, k, v, st, e, g, n, rfl, w, sp, hn, q⟩ := h
  have gl := w.1.2.len
  refine ⟨f, rfl, sp.clo, f, d, b, k, v, st, e, g, n, rfl, w, sp, hn, fun L ps ts g1 H1 kt sp1 sub hLn hL pk ch => ?_⟩
  obtain ⟨pre, cur, rfl, hc⟩ := chain_split ch
  obtain ⟨qs, pc, rfl, hpc, okc⟩ := pk_last pk
  refine ixLastL hL (call_ok sp1 (by omega) hpc okc fun x H2 g2 kt2 sp2 sub2 gv so => ?_)
  refine q x g2 H2 (kt.trans kt2) sp2 (sub.trans sub2) fun h he => ?_
  rw [hc h (he.ofE sub2)]
  exact (he _ _ gv).symm
theorem len_slip_answer (K : PySem.W.Frag) (A : Adr) : ∀ vs H Q E, sp_slip_answer K A vs H Q E → vs.length = 5 := by rintro vs H Q E ⟨f, d, b, k, v, st, e, g, n, x, rfl, _⟩; rfl
theorem rd_slip_answer (T : Txt K mg A) (vs : List V) (H : Hp) (Q : VK) (E : XK) (h : sp_slip_answer K A vs H Q E) : T_slip_answer K A { nx := fun _ H' => Q .non H', rt := Q } (L2.start ["stamper", "bits", "mark", "key", "slip", "came"] vs) H := by
  obtain ⟨f, d, b, k, v, st, e, g, n, x, rfl, w, sp, hn, hx, q⟩ := h
  refine ⟨f, d, b, k, v, st, e, g, n, rfl, w, sp, hn, fun y g1 H1 kt sp1 sub hy => ?_⟩
  have e1 := hx _ ((extT_ok (eff d g1)).ofE sub)
  have e2 := hy _ (extT_ok (eff d g1))
  rw [← e2] at e1
  subst e1
  exact neB_keys (Sel.no rfl ⟨b, k, v, st, e, rfl, w.keep (kt.tup sp.dict), q g1 H1 kt sp1 sub⟩)
end Rs
namespace Rs
open PySem PySem.Spec PyProof.Rows L2
theorem first_ix {α : Type} {ks : List α} {a : α} : ∀ (j : Nat), ks[j]? = some a → ∃ j0, j0 ≤ j ∧ ks[j0]? = some a ∧ ∀ j', j' < j0 → ks[j']? ≠ some a := by
  intro j
  induction j using Nat.strongRecOn with
  | ind j ih =>
    intro h
    by_cases e : ∃ j', j' < j ∧ ks[j']? = some a
    · obtain ⟨j', h1, h2⟩ := e
      obtain ⟨j0, h3, h4, h5⟩ := ih j' h1 h2
      exact ⟨j0, by omega, h4, h5⟩
    · exact ⟨j, Nat.le_refl _, h, fun j' h1 h2 => e ⟨j', h1, h2⟩⟩
theorem asc_str {k : List Key} (h : okT k = true) : k.all keyStr = true := by
  rw [List.all_eq_true]
  intro x hx
  have := okT_mem h hx
  cases x with
  | inl i => rfl
  | inr z => exact asc_ok (Bool.and_eq_true_iff.mp this).1
theorem pk_at {H : Hp} {ps : List Addr} {ts : List (List Key)} (h : PK H ps ts) : ∀ {i : Nat} {p : Addr}, ps[i]? = some p → ∃ t, ts[i]? = some t ∧ H p = some (.tup (t.map kV)) ∧ okT t = true := by
  induction h with
  | nil => intro i t e; cases e
  | cons r _ ih =>
    intro i t e
    cases i with
    | zero => cases e; exact ⟨_, rfl, r⟩
    | succ i => exact ih e
variable {K : PySem.W.Frag} {mg : Str → Option Value} {A : Adr}
theorem len_clash (K : PySem.W.Frag) (A : Adr) : ∀ vs H Q E, sp_clash K A vs H Q E → vs.length = 2 := by rintro vs H Q E ⟨f, dd, L, ps, ks, g, n, rfl, _⟩; rfl
theorem rd_clash (T : Txt K mg A) (vs : List V) (H : Hp) (Q : VK) (E : XK) (h : sp_clash K A vs H Q E) : T_clash K A { nx := fun _ H' => Q .non H', rt := Q } (L2.start ["stamper", "terms", "firsts", "term", "ahead"] vs) H := by
  obtain ⟨f, dd, L, ps, ks, g, n, rfl, s, hL, pk, hk9, hn, q⟩ := h
  have sdd := s.dict
  have pl := pk_len pk
  refine .inl fun d hd => ?_
  have S0 := Same.upd (o := .dK []) hd
  refine ⟨L, rfl, .inl ⟨⟨_, SqL.of (S0 _ _ hL)⟩, ?_⟩⟩
  have noc : ∀ (i : Nat) (H' : Hp) (g' : List Key → Option Key) (kvs : List (Key × V)), (∀ j a, j < i → ks[j]? = some a → ∃ v p, eff dd g' a = some v ∧ valV kvs v = some (.ref p) ∧ H' p = some (.tup (a.map kV))) → ∀ (h : List Key → Key), Ext (eff dd g') h → ∀ (j k : Nat) a b, j < k → k < i → ks[j]? = some a → ks[k]? = some b → h a = h b → a = b := by
    intro i H' g' kvs I1 h hh j k a b h1 h2 h3 h4 h5
    obtain ⟨v, p, e1, e2, e3⟩ := I1 j a (by omega) h3
    obtain ⟨v', p', e1', e2', e3'⟩ := I1 k b h2 h4
    have : v = v' := by rw [hh _ _ e1, hh _ _ e1'] at h5; exact h5
    subst this
    rw [e2] at e2'; cases e2'
    rw [e3] at e3'
    injection e3' with e; injection e with e
    exact kVs_inj e
  refine for_list (xs := ps.map V.ref) (fun i σ H' => ∃ x3 x4 g' kvs, σ = [some (.ref f), some (.ref L), some (.ref d), x3, x4] ∧ KeepB dd.a.b H H' ∧ Stp A H' f dd g' (n + i) ∧ Sub g g' ∧ H' d = some (.dK kvs) ∧ kvs.length ≤ i ∧
      (∀ j a, j < i → ks[j]? = some a → ∃ v p, eff dd g' a = some v ∧ valV kvs v = some (.ref p) ∧ H' p = some (.tup (a.map kV))) ∧
      ∀ v x, valV kvs v = some x → ∃ j a p, j < i ∧ ks[j]? = some a ∧ x = .ref p ∧ H' p = some (.tup (a.map kV)) ∧ okT a = true ∧ eff dd g' a = some v)
    ⟨none, none, g, [], rfl, KeepB.same S0, s.same (Nat.le_refl _) S0, fun _ _ e => e, upd_same, Nat.le_refl _, fun j a hj => by omega, fun v x e => by cases e⟩ ?_ ?_ ?_
  · rintro i σ H' _ ⟨x3, x4, g', kvs, rfl, kp, _⟩; exact SqL.of (kp.obj sdd hL (fun _ z => nomatch z))
  · rintro i x σ H' hx ⟨x3, x4, g', kvs, rfl, kp, s', sub, hd', hl, I1, I2⟩
    obtain ⟨p, hp, rfl⟩ := map_get hx
    obtain ⟨k, hk, hpk, ok⟩ := pk_at pk hp
    have hi : i < ks.length := (List.getElem?_eq_some_iff.mp hk).1
    refine ⟨.inr (.inr (.inl ⟨rfl, .inl ⟨_, hd'⟩⟩)), f, rfl, s'.clo, tc1 rfl (call_ok s' (by omega) (kp.obj sdd hpk (fun _ z => nomatch z)) ok fun v H3 g3 k3 s3 sub3 gv _ => tc1 rfl ?_)⟩
    have hp3 : H3 p = some (.tup (k.map kV)) := k3.obj s'.dict (kp.obj sdd hpk (fun _ z => nomatch z)) (fun _ z => nomatch z)
    have hd3 := k3.obj s'.dict hd' (fun _ z => nomatch z)
    have J1 : ∀ j a, j < i → ks[j]? = some a → ∃ v p, eff dd g3 a = some v ∧ valV kvs v = some (.ref p) ∧ H3 p = some (.tup (a.map kV)) := fun j a hj e => by
      obtain ⟨v, p, e1, e2, e3⟩ := I1 j a hj e
      exact ⟨v, p, eff_sub sub3 _ _ e1, e2, k3.obj s'.dict e3 (fun _ z => nomatch z)⟩
    have J2 : ∀ v x, valV kvs v = some x → ∃ j a p, j < i ∧ ks[j]? = some a ∧ x = .ref p ∧ H3 p = some (.tup (a.map kV)) ∧ okT a = true ∧ eff dd g3 a = some v := fun v x e => by
      obtain ⟨j, a, p, e1, e2, e3, e4, e5, e6⟩ := I2 v x e
      exact ⟨j, a, p, e1, e2, e3, k3.obj s'.dict e4 (fun _ z => nomatch z), e5, eff_sub sub3 _ _ e6⟩
    have kp3 := kp.trans k3
    have sub' : Sub g g3 := fun a b e => sub3 a b (sub a b e)
    have gd := DGet.k (k := v) hd3
    cases ev : valV kvs v with
    | some x =>
      rw [ev] at gd
      obtain ⟨j0, a0, p0, hj0, ha0, rfl, hp0, ok0, g0⟩ := J2 v x ev
      refine ⟨d, kV v, .ref p, .ref p0, H3, rfl, rfl, .inl ⟨gd, rfl⟩, ?_⟩
      refine ⟨_, _, datV_tup hp0, datV_tup hp3, canLay_keys (asc_str ok0), canLay_keys (asc_str ok), depT _, Sel.mk (fun t => ?_) (fun t => ?_)⟩
      · have ne := neqv_t t
        refine ⟨line_ge (n := 2) (by decide), fun r hr => ?_⟩
        have S := Same.upd (o := .tup [V.ref p0, V.ref p]) hr
        refine q _ _ g3 (some (a0, k)) (kp3.trans (KeepB.same S)) (s3.same (by omega) S) sub' ⟨r, p0, p, rfl, upd_same, S _ _ hp0, S _ _ hp3, ok0, ok⟩ (fun h hh => ?_)
        obtain ⟨j1, hj1, hb1, hmin⟩ := first_ix j0 ha0
        refine ⟨j1, i, by omega, hb1, hk, ne, by rw [hh _ _ g0, hh _ _ gv], noc i H3 g3 kvs J1 h hh, fun j' a hj' ha he => ?_⟩
        obtain ⟨v1, p1, e1, e2, e3⟩ := J1 j' a (by omega) ha
        have : v1 = v := by rw [hh _ _ e1, hh _ _ gv] at he; exact he
        subst this
        rw [ev] at e2; cases e2
        rw [hp0] at e3
        injection e3 with e; injection e with e
        have := kVs_inj e
        subst this
        exact (hmin j' hj' ha).elim
      · have e := neqv_f t
        subst e
        refine ⟨_, _, g3, kvs, rfl, kp3, s3, sub', hd3, by omega, fun j a hj ha => ?_, fun w x e => ?_⟩
        · by_cases e : j = i
          · subst e; rw [hk] at ha; cases ha
            exact ⟨v, p0, gv, ev, hp0⟩
          · exact J1 j a (by omega) ha
        · obtain ⟨j, a, r, e1, e2⟩ := J2 w x e
          exact ⟨j, a, r, by omega, e2⟩
    | none =>
      rw [ev] at gd
      refine ⟨d, kV v, .ref p, .ref p, upd H3 d (.dK (putK kvs v (.ref p))), rfl, rfl, .inr ⟨gd, DPut.k hd3 (Nat.lt_of_le_of_lt hl (line_ge (n := i + 1) (by omega))), rfl⟩, ?_⟩
      have dn : ∀ b o, H3 b = some o → (∀ kvs, o ≠ .dK kvs) → upd H3 d (.dK (putK kvs v (.ref p))) b = some o := fun b o e nd => by rw [upd_ne (fun z => by subst z; rw [hd3] at e; cases e; exact nd _ rfl)]; exact e
      have hp4 := dn _ _ hp3 (fun _ z => nomatch z)
      refine ⟨_, _, datV_tup hp4, datV_tup hp4, canLay_keys (asc_str ok), canLay_keys (asc_str ok), depT _, Sel.mk (fun t => (neqv_t t rfl).elim) (fun t => ?_)⟩
      refine ⟨_, _, g3, putK kvs v (.ref p), rfl, ?_, s3.keep (Nat.le_refl _) (fun b o e _ nd _ => dn b o e nd), sub', upd_same, Nat.le_trans (length_putK _ _ _) (by omega), fun j a hj ha => ?_, fun w x e => ?_⟩
      · intro b o nb e
        rw [upd_ne (ne_of_none e hd)]
        exact kp3 _ _ nb e
      · by_cases e : j = i
        · subst e; rw [hk] at ha; cases ha
          exact ⟨v, p, gv, by rw [valV_put, if_pos rfl], hp4⟩
        · obtain ⟨w, r, e1, e2, e3⟩ := J1 j a (by omega) ha
          exact ⟨w, r, e1, by rw [valV_put, if_neg (fun z => by subst z; rw [ev] at e2; cases e2)]; exact e2, dn _ _ e3 (fun _ z => nomatch z)⟩
      · rw [valV_put] at e
        by_cases ew : w = v
        · subst ew
          rw [if_pos rfl] at e; cases e
          exact ⟨i, k, p, by omega, hk, rfl, hp4, ok, gv⟩
        · rw [if_neg ew] at e
          obtain ⟨j, a, r, e1, e2, e3, e4, e5⟩ := J2 w x e
          exact ⟨j, a, r, by omega, e2, e3, dn _ _ e4 (fun _ z => nomatch z), e5⟩
  · rintro σ H' ⟨x3, x4, g', kvs, rfl, kp, s', sub, hd', hl, I1, I2⟩
    have el : (ps.map V.ref).length = ks.length := by rw [List.length_map, pl]
    rw [el] at s' I1
    refine q _ _ g' none kp s' sub rfl fun h hh => ?_
    exact fun j k a b h1 h2 h3 h4 => noc ks.length H' g' kvs I1 h hh j k a b h1 (List.getElem?_eq_some_iff.mp h3).1 h2 h3 h4
end Rs
namespace Rs
open PySem PySem.Spec PyProof.Rows L2
noncomputable def encL : List Key → List Nat
  | [] => []
  | .inl i :: r => 0 :: (if 0 ≤ i then 0 else 1) :: i.natAbs :: encL r
  | .inr z :: r => 1 :: z.cps.toList.length :: (z.cps.toList ++ encL r)
theorem encL_inj : ∀ {k l : List Key}, encL k = encL l → k = l
  | [], [], _ => rfl
  | [], .inl _ :: _, h => by cases h
  | [], .inr _ :: _, h => by cases h
  | .inl _ :: _, [], h => by cases h
  | .inr _ :: _, [], h => by cases h
  | .inl i :: r, .inl j :: s, h => by
    unfold encL at h
    injection h with _ h
    injection h with h1 h
    injection h with h2 h
    have : i = j := by
      by_cases hi : 0 ≤ i <;> by_cases hj : 0 ≤ j
      · omega
      · rw [if_pos hi, if_neg hj] at h1; cases h1
      · rw [if_neg hi, if_pos hj] at h1; cases h1
      · omega
    rw [this, encL_inj h]
  | .inl i :: r, .inr z :: s, h => by unfold encL at h; injection h with h _; cases h
  | .inr z :: r, .inl i :: s, h => by unfold encL at h; injection h with h _; cases h
  | .inr z :: r, .inr y :: s, h => by
    unfold encL at h
    injection h with _ h
    injection h with h1 h
    obtain ⟨h2, h3⟩ := List.append_inj h h1
    have : z = y := by cases z; cases y; congr 1; exact Array.toList_inj.mp h2
    rw [this, encL_inj h3]
noncomputable def hsF (kvs : List (List Key × Key)) (k : List Key) : Key := (tabG kvs k).getD (.inr ⟨(encL k).toArray⟩)
theorem hsF_ext (kvs : List (List Key × Key)) : Ext (tabG kvs) (hsF kvs) := fun k v e => by unfold hsF; rw [e]; rfl
theorem hsF_inj {j : Int} {kvs : List (List Key × Key)} (s : SureT j kvs) {k l : List Key} (h : hsF kvs k = hsF kvs l) : k = l := by
  have num : ∀ {k : List Key} {v : Key}, tabG kvs k = some v → ∃ i, v = .inl i := fun h => by
    obtain ⟨i, hi⟩ := tabG_at h
    exact ⟨_, s _ _ hi⟩
  unfold hsF at h
  cases e : tabG kvs k with
  | some v =>
    obtain ⟨i, rfl⟩ := num e
    cases e2 : tabG kvs l with
    | some w =>
      rw [e, e2] at h
      have h : (Sum.inl i : Key) = w := h
      subst h
      exact sure_inj s e e2
    | none =>
      rw [e, e2] at h
      have h : (Sum.inl i : Key) = Sum.inr _ := h
      cases h
  | none =>
    cases e2 : tabG kvs l with
    | some w =>
      obtain ⟨i, rfl⟩ := num e2
      rw [e, e2] at h
      have h : (Sum.inr _ : Key) = Sum.inl i := h
      cases h
    | none =>
      rw [e, e2] at h
      have h : (Sum.inr (⟨(encL k).toArray⟩ : Str) : Key) = Sum.inr ⟨(encL l).toArray⟩ := h
      injection h with h
      injection h with h
      exact encL_inj (by simpa using h)
noncomputable def hpF (h : List Key → Key) (k1 k2 : List Key) (k : List Key) : Key := h (if k = k2 then k1 else k)
theorem hpF_ext {kvs : List (List Key × Key)} {d : Kd} {k1 k2 : List Key} (ep : d.pl = some (k1, k2)) : Ext (eff d (tabG kvs)) (hpF (hsF kvs) k1 k2) := fun k v e => by
  unfold eff at e
  rw [ep] at e
  exact hsF_ext kvs _ _ e
noncomputable def rank : List Key → Int
  | [.inr w, .inl d, _, _, _] => if w = "fork" then d else 100
  | _ => 100
theorem rank5 (d : Int) (x y z : Key) : rank [.inr "fork", .inl d, x, y, z] = d := by
  show (if ("fork" : Str) = "fork" then d else 100) = d
  rw [if_pos rfl]
theorem rank1 (x : Key) : rank [x] = 100 := by cases x <;> rfl
theorem rank_fork (b k d : Int) (m s : Key) : rank (forkT b k d m s) = d := by
  unfold forkT
  split
  · exact rank5 _ _ _ _
  · exact rank5 _ _ _ _
theorem chain_rank (h : List Key → Key) (b k : Int) : ∀ (R : List (Int × Key)) (e : List Key), (chainT h b k e R).map rank = rank e :: R.map (·.1)
  | [], e => rfl
  | s :: r, e => by
    show rank e :: (chainT h b k (forkT b k s.1 s.2 (h e)) r).map rank = _
    rw [chain_rank h b k r, rank_fork]; rfl
theorem chain_len (h : List Key → Key) (b k : Int) (R : List (Int × Key)) (e : List Key) : (chainT h b k e R).length = R.length + 1 := by
  have := congrArg List.length (chain_rank h b k R e)
  simpa using this
theorem steps_pw {b : Int} : ∀ {st : List (Int × Key)} {l : Int}, areStepsD b l (st.map stD) = true → (st.map (·.1)).Pairwise (· < ·) ∧ ∀ s ∈ st, l ≤ s.1
  | [], _, _ => ⟨.nil, fun _ h => nomatch h⟩
  | s :: r, l, h => by
    have h : (isStepD b l (stD s) && areStepsD b (s.1 + 1) (r.map stD)) = true := h
    rw [Bool.and_eq_true] at h
    have h1 : (decide (l ≤ s.1 ∧ s.1 < b) && isStampD (datK s.2)) = true := h.1
    rw [Bool.and_eq_true, decide_eq_true_eq] at h1
    obtain ⟨p, q⟩ := steps_pw h.2
    refine ⟨.cons (fun x hx => ?_) p, fun x hx => ?_⟩
    · obtain ⟨y, hy, rfl⟩ := List.mem_map.mp hx
      have := q y hy
      show s.1 < y.1
      omega
    · rcases List.mem_cons.mp hx with rfl | hx
      · exact h1.1.1
      · have := q x hx; omega
theorem steps_below {b : Int} : ∀ {st : List (Int × Key)} {l : Int}, areStepsD b l (st.map stD) = true → l ≤ placeFrom l (st.map stD) ∧ ∀ s ∈ st, s.1 + 1 ≤ placeFrom l (st.map stD)
  | [], _, _ => ⟨Int.le_refl _, fun _ h => nomatch h⟩
  | s :: r, l, h => by
    have pw := steps_pw h
    have h : (isStepD b l (stD s) && areStepsD b (s.1 + 1) (r.map stD)) = true := h
    rw [Bool.and_eq_true] at h
    obtain ⟨q1, q2⟩ := steps_below h.2
    have hl := pw.2 s List.mem_cons_self
    have e : placeFrom l ((s :: r).map stD) = placeFrom (s.1 + 1) (r.map stD) := by
      cases r with
      | nil => rfl
      | cons t r => show placeFrom l (stD s :: stD t :: r.map stD) = placeFrom (s.1 + 1) (stD t :: r.map stD); unfold placeFrom; rw [List.getLast?_cons_cons]
                    cases e2 : (stD t :: r.map stD).getLast? with
                    | none => simp at e2
                    | some x => rfl
    rw [e]
    refine ⟨by omega, fun x hx => ?_⟩
    rcases List.mem_cons.mp hx with rfl | hx
    · exact q1
    · exact q2 x hx
theorem end_rank {b k l : Int} {e : List Key} (b60 : b ≤ 60) (h : isEndD b k l (.tup (e.map datK)) = true) : (rank e = 100 ∨ (l ≤ rank e ∧ rank e < b)) ∧ ∀ d m s, e ≠ forkT b k d m s := by
  have key : ∀ {x : Key} {w : Str}, datK x = .str w → x = .inr w := fun {x w} hx => datK_inj (b := .inr w) hx
  have ff : ∀ {d : Int} {m s : Key}, ∃ y z, forkT b k d m s = [.inr "fork", .inl d, .inl (startI b k d), y, z] := fun {d m s} => by
    unfold forkT
    split
    · exact ⟨_, _, rfl⟩
    · exact ⟨_, _, rfl⟩
  unfold isEndD at h
  split at h
  · rename_i hb
    match e, hb with
    | [x], hb =>
      refine ⟨.inl (rank1 x), fun d m s z => ?_⟩
      obtain ⟨y, u, ez⟩ := ff (d := d) (m := m) (s := s)
      rw [ez] at z; cases z
  · rw [Bool.or_eq_true] at h
    rcases h with h | h
    · match e, h with
      | [w, .inl x, z], h =>
        refine ⟨.inl ?_, fun d m s z => ?_⟩
        · cases w <;> rfl
        · obtain ⟨y, u, ez⟩ := ff (d := d) (m := m) (s := s)
          rw [ez] at z; cases z
    · rw [Bool.and_eq_true] at h
      match e, h with
      | [w, .inl d, .inl bb, m, n], h =>
        have h1 : (isStrD "fork" (datK w) && decide (l ≤ d ∧ d < b) && decide (0 ≤ bb ∧ bb < 2 ^ d.toNat) && decide (bb / 2 ^ (d - l).toNat = startI b k l)) = true := h.1
        have h2 : (!decide (bb = startI b k d) && isStampD (datK m) && isStampD (datK n)) = true := h.2
        simp only [Bool.and_eq_true, decide_eq_true_eq] at h1 h2
        rw [key (isStr_eq h1.1.1.1)]
        refine ⟨.inr ?_, fun d' m' s' z => ?_⟩
        · have : rank [.inr "fork", .inl d, .inl bb, m, n] = d := rank5 _ _ _ _
          rw [this]; exact h1.1.1.2
        · obtain ⟨y, u, ez⟩ := ff (d := d') (m := m') (s := s')
          rw [ez] at z
          have e1 : d = d' := by injection z with _ z; injection z with z _; injection z
          have e2 : bb = startI b k d' := by injection z with _ z; injection z with _ z; injection z with z _; injection z
          subst e1
          have h3 := h2.1.1
          rw [decide_eq_true e2] at h3; cases h3
theorem fork_inj {b k d d' : Int} {m m' s s' : Key} (h : forkT b k d m s = forkT b k d' m' s') : d = d' ∧ m = m' ∧ s = s' := by
  have hd : d = d' := by have := congrArg rank h; rwa [rank_fork, rank_fork] at this
  subst hd
  unfold forkT at h
  by_cases c : k / 2 ^ (b - d - 1).toNat % 2 = 0
  · rw [if_pos c, if_pos c] at h
    simp only [List.cons.injEq, and_true, true_and] at h
    exact ⟨rfl, h.2, h.1⟩
  · rw [if_neg c, if_neg c] at h
    simp only [List.cons.injEq, and_true, true_and] at h
    exact ⟨rfl, h.1, h.2⟩
theorem last_snoc (h : List Key → Key) (b k : Int) (s : Int × Key) : ∀ (R : List (Int × Key)) (e : List Key), lastT h b k e (R ++ [s]) = forkT b k s.1 s.2 (h (lastT h b k e R))
  | [], e => rfl
  | t :: r, e => last_snoc h b k s r _
theorem root_inj {h : List Key → Key} {b k : Int} (inj : ∀ x y, h x = h y → x = y) {e o : List Key} (he : ∀ d m s, e ≠ forkT b k d m s) (ho : ∀ d m s, o ≠ forkT b k d m s) : ∀ {st su : List (Int × Key)}, lastT h b k e st.reverse = lastT h b k o su.reverse → st = su ∧ e = o
  | [], [], z => ⟨rfl, z⟩
  | [], s :: r, z => by
    rw [List.reverse_cons, last_snoc] at z
    exact (he _ _ _ z).elim
  | s :: r, [], z => by
    rw [List.reverse_cons, last_snoc] at z
    exact (ho _ _ _ z.symm).elim
  | s :: r, t :: q, z => by
    rw [List.reverse_cons, List.reverse_cons, last_snoc, last_snoc] at z
    obtain ⟨z1, z2, z3⟩ := fork_inj z
    obtain ⟨z4, z5⟩ := root_inj inj he ho (inj _ _ z3)
    have : s = t := Prod.ext z1 z2
    exact ⟨by rw [this, z4], z5⟩
noncomputable def upper (h : List Key → Key) (b k : Int) : Key → List (Int × Key) → List (List Key)
  | _, [] => []
  | s, t :: r => forkT b k t.1 t.2 s :: upper h b k (h (forkT b k t.1 t.2 s)) r
theorem chain_up (h : List Key → Key) (b k : Int) : ∀ (F : List (Int × Key)) (e : List Key), chainT h b k e F = e :: upper h b k (h e) F
  | [], e => rfl
  | s :: r, e => by
    show e :: chainT h b k (forkT b k s.1 s.2 (h e)) r = _
    rw [chain_up h b k r]; rfl
theorem chain_append (h : List Key → Key) (b k : Int) (F : List (Int × Key)) : ∀ (R : List (Int × Key)) (e : List Key), chainT h b k e (R ++ F) = chainT h b k e R ++ upper h b k (h (lastT h b k e R)) F
  | [], e => chain_up h b k F e
  | s :: r, e => by
    show e :: chainT h b k (forkT b k s.1 s.2 (h e)) (r ++ F) = _
    rw [chain_append h b k F r]; rfl
noncomputable def topS (h : List Key → Key) (b k : Int) : Key → List (Int × Key) → Key
  | s, [] => s
  | s, t :: r => topS h b k (h (forkT b k t.1 t.2 s)) r
theorem root_top (h : List Key → Key) (b k : Int) : ∀ (R : List (Int × Key)) (e : List Key), h (lastT h b k e R) = topS h b k (h e) R
  | [], e => rfl
  | s :: r, e => root_top h b k r _
theorem top_append (h : List Key → Key) (b k : Int) (F : List (Int × Key)) : ∀ (R : List (Int × Key)) (s : Key), topS h b k s (R ++ F) = topS h b k (topS h b k s R) F
  | [], s => rfl
  | t :: r, s => top_append h b k F r _
theorem upper_rank (h : List Key → Key) (b k : Int) : ∀ (F : List (Int × Key)) (s : Key), (upper h b k s F).map rank = F.map (·.1)
  | [], s => rfl
  | t :: r, s => by
    show rank (forkT b k t.1 t.2 s) :: (upper h b k _ r).map rank = _
    rw [rank_fork, upper_rank h b k r]; rfl
theorem chain_agree {h p : List Key → Key} {b k : Int} : ∀ {R : List (Int × Key)} {e : List Key}, (∀ t ∈ (chainT h b k e R).dropLast, p t = h t) → chainT p b k e R = chainT h b k e R ∧ lastT p b k e R = lastT h b k e R
  | [], e, _ => ⟨rfl, rfl⟩
  | s :: r, e, hh => by
    have hne : chainT h b k (forkT b k s.1 s.2 (h e)) r ≠ [] := fun z => by have := chain_len h b k r (forkT b k s.1 s.2 (h e)); rw [z] at this; simp at this
    have hd : (chainT h b k e (s :: r)).dropLast = e :: (chainT h b k (forkT b k s.1 s.2 (h e)) r).dropLast := by
      show (e :: chainT h b k _ r).dropLast = _
      rw [List.dropLast_cons_of_ne_nil hne]
    rw [hd] at hh
    have he : p e = h e := hh e List.mem_cons_self
    obtain ⟨z1, z2⟩ := chain_agree (h := h) (p := p) (R := r) (e := forkT b k s.1 s.2 (h e)) fun t ht => hh t (List.mem_cons_of_mem _ ht)
    refine ⟨?_, ?_⟩
    · show e :: chainT p b k (forkT b k s.1 s.2 (p e)) r = e :: chainT h b k _ r
      rw [he, z1]
    · show lastT p b k (forkT b k s.1 s.2 (p e)) r = lastT h b k _ r
      rw [he, z2]
end Rs
namespace Rs
open PySem PySem.Spec PyProof.Rows L2
theorem IsDue.one {h : List Key → Key} {ks : List (List Key)} : ∀ {r s : Option (List Key × List Key)}, IsDue h ks r → IsDue h ks s → r = s
  | none, none, _, _ => rfl
  | none, some s, a, b => by
    obtain ⟨j, k, hjk, h1, h2, h3, h4, _⟩ := b
    exact (h3 (a j k _ _ hjk h1 h2 h4)).elim
  | some s, none, b, a => by
    obtain ⟨j, k, hjk, h1, h2, h3, h4, _⟩ := b
    exact (h3 (a j k _ _ hjk h1 h2 h4)).elim
  | some (r1, r2), some (s1, s2), a, b => by
    obtain ⟨j, k, hjk, h1, h2, h3, h4, h5, h6⟩ := a
    obtain ⟨j', k', hjk', g1, g2, g3, g4, g5, g6⟩ := b
    dsimp only at *
    have hk : k = k' := by
      rcases Nat.lt_trichotomy k k' with l | l | l
      · exact (h3 (g5 j k _ _ hjk l h1 h2 h4)).elim
      · exact l
      · exact (g3 (h5 j' k' _ _ hjk' l g1 g2 g4)).elim
    subst hk
    rw [h2] at g2; cases g2
    have hj : j = j' := by
      rcases Nat.lt_trichotomy j j' with l | l | l
      · exact (h3 (g6 j _ l h1 h4)).elim
      · exact l
      · exact (g3 (h6 j' _ l g1 g4)).elim
    subst hj
    rw [h1] at g1; cases g1
    rfl
structure Rest (b k l : Int) (st : List (Int × Key)) (e : List Key) : Prop where
  as : areStepsD b l (st.map stD) = true
  en : isEndD b k (placeFrom l (st.map stD)) (.tup (e.map datK)) = true
theorem areSteps_above2 {b : Int} : ∀ {st : List (Int × Key)} {l : Int} {i : Nat} {s : Int × Key}, areStepsD b l (st.map stD) = true → (st.map stD)[i]? = some (stD s) → st[i]? = some s → s.1 < b
  | [], _, _, _, _, e, _ => by cases e
  | t :: r, l, i, s, h, e, e2 => by
    have h : (isStepD b l (stD t) && areStepsD b (t.1 + 1) (r.map stD)) = true := h
    rw [Bool.and_eq_true] at h
    have h1 : (decide (l ≤ t.1 ∧ t.1 < b) && isStampD (datK t.2)) = true := h.1
    rw [Bool.and_eq_true, decide_eq_true_eq] at h1
    cases i with
    | zero => cases e2; exact h1.1.2
    | succ i => exact areSteps_above2 (i := i) h.2 e e2
theorem Rest.below {b k l : Int} {st : List (Int × Key)} {e : List Key} (b60 : b ≤ 60) (hl : l ≤ b) (r : Rest b k l st e) : (∀ s ∈ st, s.1 < rank e) ∧ l ≤ rank e := by
  have h1 := steps_below r.as
  have h2 := (end_rank b60 r.en).1
  have h3 : ∀ s ∈ st, s.1 < b := fun s hs => by
    obtain ⟨i, hi, ei⟩ := List.getElem_of_mem hs
    have hi' : (st.map stD)[i]? = some (stD s) := by rw [List.getElem?_map, List.getElem?_eq_getElem hi, ei]; rfl
    exact areSteps_above2 r.as hi' (by rw [List.getElem?_eq_getElem hi, ei])
  refine ⟨fun s hs => ?_, ?_⟩
  · rcases h2 with h2 | h2
    · rw [h2]; have := h3 s hs; omega
    · have := h1.2 s hs; omega
  · rcases h2 with h2 | h2
    · rw [h2]; omega
    · have := h1.1; omega
theorem chain_pw {b k l : Int} {st : List (Int × Key)} {e : List Key} (b60 : b ≤ 60) (hl : l ≤ b) (r : Rest b k l st e) (h : List Key → Key) : ((chainT h b k e st.reverse).map rank).Pairwise (· > ·) := by
  rw [chain_rank]
  have pw := (steps_pw r.as).1
  have be := (r.below b60 hl).1
  refine .cons (fun x hx => ?_) ?_
  · obtain ⟨s, hs, rfl⟩ := List.mem_map.mp hx
    exact be s (List.mem_reverse.mp hs)
  · rw [List.map_reverse, List.pairwise_reverse]
    exact pw
theorem chain_low {b k l : Int} {st : List (Int × Key)} {e : List Key} (b60 : b ≤ 60) (hl : l ≤ b) (r : Rest b k l st e) (h : List Key → Key) : ∀ t ∈ chainT h b k e st.reverse, l ≤ rank t := by
  intro t ht
  have : rank t ∈ (chainT h b k e st.reverse).map rank := List.mem_map_of_mem ht
  rw [chain_rank] at this
  rcases List.mem_cons.mp this with e1 | e1
  · rw [e1]; exact (r.below b60 hl).2
  · obtain ⟨s, hs, e2⟩ := List.mem_map.mp e1
    rw [← e2]; exact (steps_pw r.as).2 s (List.mem_reverse.mp hs)
theorem last_notin {pre : List (List Key)} {z : List Key} (h : ((pre ++ [z]).map rank).Pairwise (· > ·)) : ∀ a ∈ pre, rank z < rank a := fun a ha => by
  rw [List.map_append, List.pairwise_append] at h
  exact h.2.2 (rank a) (List.mem_map_of_mem ha) (rank z) (by simp)
theorem cross {pre pre' : List (List Key)} {y z : List Key} (h : ((pre ++ [y]).map rank).Pairwise (· > ·)) (h' : ((pre' ++ [z]).map rank).Pairwise (· > ·)) (m : z ∈ pre ++ [y]) (m' : y ∈ pre' ++ [z]) : y = z := by
  rcases List.mem_append.mp m with a | a
  · have l1 := last_notin h z a
    rcases List.mem_append.mp m' with a' | a'
    · have l2 := last_notin h' y a'
      omega
    · exact List.mem_singleton.mp a'
  · exact (List.mem_singleton.mp a).symm
section
variable {hs : List Key → Key} {b k : Int} {e o : List Key} {R1 R2 F : List (Int × Key)}
theorem hp_ne {k1 k2 t : List Key} (h : t ≠ k2) : hpF hs k1 k2 t = hs t := by unfold hpF; rw [if_neg h]
theorem hp_eq {k1 k2 : List Key} : hpF hs k1 k2 k2 = hs k1 := by unfold hpF; rw [if_pos rfl]
theorem planted_chains {pre1 pre2 : List (List Key)} {k1 k2 : List Key} (h1 : chainT hs b k e R1 = pre1 ++ [k1]) (h2 : chainT hs b k o R2 = pre2 ++ [k2]) (nm : k2 ∉ pre1 ++ [k1]) (nt : k2 ∉ pre2) :
    chainT (hpF hs k1 k2) b k e (R1 ++ F) = pre1 ++ [k1] ++ upper (hpF hs k1 k2) b k (hs k1) F ∧ chainT (hpF hs k1 k2) b k o (R2 ++ F) = pre2 ++ [k2] ++ upper (hpF hs k1 k2) b k (hs k1) F ∧
    hpF hs k1 k2 (lastT (hpF hs k1 k2) b k e (R1 ++ F)) = hpF hs k1 k2 (lastT (hpF hs k1 k2) b k o (R2 ++ F)) := by
  have l1 : lastT hs b k e R1 = k1 := by
    obtain ⟨p, hp⟩ := chain_last hs b k R1 e
    rw [h1] at hp
    have := congrArg List.getLast? hp
    simp at this; exact this.symm
  have l2 : lastT hs b k o R2 = k2 := by
    obtain ⟨p, hp⟩ := chain_last hs b k R2 o
    rw [h2] at hp
    have := congrArg List.getLast? hp
    simp at this; exact this.symm
  have n12 : k1 ≠ k2 := fun z => nm (by rw [← z]; simp)
  have a1 := chain_agree (h := hs) (p := hpF hs k1 k2) (b := b) (k := k) (R := R1) (e := e) fun t ht => hp_ne fun z => nm (by rw [h1] at ht; simp at ht; rw [← z]; exact List.mem_append_left _ ht)
  have a2 := chain_agree (h := hs) (p := hpF hs k1 k2) (b := b) (k := k) (R := R2) (e := o) fun t ht => hp_ne fun z => nt (by rw [h2] at ht; simp at ht; rw [← z]; exact ht)
  refine ⟨?_, ?_, ?_⟩
  · rw [chain_append, a1.1, a1.2, l1, hp_ne n12, h1]
  · rw [chain_append, a2.1, a2.2, l2, hp_eq, h2]
  · rw [root_top (hpF hs k1 k2) b k (R1 ++ F) e, root_top (hpF hs k1 k2) b k (R2 ++ F) o, top_append, top_append, ← root_top (hpF hs k1 k2) b k R1 e, ← root_top (hpF hs k1 k2) b k R2 o, a1.2, a2.2, l1, l2, hp_ne n12, hp_eq]
theorem planted_due (inj : ∀ x y, hs x = hs y → x = y) {pre1 pre2 U : List (List Key)} {k1 k2 : List Key} (nm : k2 ∉ pre1 ++ [k1]) (nt : k2 ∉ pre2) (nu : k2 ∉ U) (nd : k1 ∉ pre1) :
    IsDue (hpF hs k1 k2) (pre1 ++ [k1] ++ U ++ (pre2 ++ [k2] ++ U)) (some (k1, k2)) := by
  have n12 : k1 ≠ k2 := fun z => nm (by rw [← z]; simp)
  have ek : pre1 ++ [k1] ++ U ++ (pre2 ++ [k2] ++ U) = (pre1 ++ [k1] ++ U ++ pre2) ++ (k2 :: U) := by simp
  have nA : ∀ t ∈ pre1 ++ [k1] ++ U ++ pre2, t ≠ k2 := fun t ht z => by
    subst z
    simp only [List.mem_append] at ht nm
    rcases ht with (ht | ht) | ht
    · exact nm ht
    · exact nu ht
    · exact nt ht
  have at1 : ∀ {i : Nat} {t : List Key}, i < (pre1 ++ [k1] ++ U ++ pre2).length → (pre1 ++ [k1] ++ U ++ (pre2 ++ [k2] ++ U))[i]? = some t → t ∈ pre1 ++ [k1] ++ U ++ pre2 := fun hi ht => by
    rw [ek, List.getElem?_append_left hi] at ht
    exact List.mem_of_getElem? ht
  refine ⟨pre1.length, (pre1 ++ [k1] ++ U ++ pre2).length, by simp <;> omega, ?_, ?_, n12, by rw [hp_ne n12, hp_eq], fun j' k' x y h1 h2 h3 h4 h5 => ?_, fun j' x h1 h2 h3 => ?_⟩
  · show (pre1 ++ [k1] ++ U ++ (pre2 ++ [k2] ++ U))[pre1.length]? = some k1
    have : pre1 ++ [k1] ++ U ++ (pre2 ++ [k2] ++ U) = pre1 ++ (k1 :: (U ++ (pre2 ++ [k2] ++ U))) := by simp
    rw [this, List.getElem?_append_right (Nat.le_refl _)]
    simp
  · show (pre1 ++ [k1] ++ U ++ (pre2 ++ [k2] ++ U))[_]? = some k2
    rw [ek, List.getElem?_append_right (Nat.le_refl _)]
    simp
  · have m1 := at1 (by omega) h3
    have m2 := at1 h2 h4
    rw [hp_ne (nA _ m1), hp_ne (nA _ m2)] at h5
    exact inj _ _ h5
  · have m1 := at1 (by simp; omega) h2
    dsimp only at h3
    rw [hp_ne (nA _ m1), hp_eq] at h3
    have := inj _ _ h3
    subst this
    have : pre1 ++ [x] ++ U ++ (pre2 ++ [k2] ++ U) = pre1 ++ (x :: (U ++ (pre2 ++ [k2] ++ U))) := by simp
    rw [this, List.getElem?_append_left h1] at h2
    exact (nd (List.mem_of_getElem? h2)).elim
end
end Rs
namespace Rs
open PySem PySem.Spec PyProof.Rows L2
theorem toPy_key (x : Key) : toPy (datK x) = dKey x := by cases x <;> rfl
theorem toPys_keys : ∀ e : List Key, toPys (e.map datK) = e.map dKey
  | [] => rfl
  | x :: r => by show toPy (datK x) :: toPys (r.map datK) = _; rw [toPy_key, toPys_keys r]; rfl
theorem eqv_keys (x y : List Key) : (PyData.tuple (x.map dKey)).eqv (.tuple (y.map dKey)) = decide (x = y) := eqvAll_keys x y
theorem toPys_steps : ∀ st : List (Int × Key), toPys (st.map stD) = st.map fun s => .tuple (([.inl s.1, s.2] : List Key).map dKey)
  | [] => rfl
  | s :: r => by
    show PyData.tuple [.int s.1, toPy (datK s.2)] :: toPys (r.map stD) = _
    rw [toPy_key, toPys_steps r]; rfl
theorem eqv_steps : ∀ st su : List (Int × Key), PyData.eqvAll (st.map fun s => .tuple (([.inl s.1, s.2] : List Key).map dKey)) (su.map fun s => .tuple (([.inl s.1, s.2] : List Key).map dKey)) = decide (st = su)
  | [], [] => rfl
  | [], _ :: _ => rfl
  | _ :: _, [] => rfl
  | s :: r, t :: q => by
    show ((PyData.tuple (([.inl s.1, s.2] : List Key).map dKey)).eqv (.tuple (([.inl t.1, t.2] : List Key).map dKey)) && PyData.eqvAll (r.map _) (q.map _)) = _
    rw [eqv_keys, eqv_steps r q]
    by_cases h1 : s = t
    · subst h1
      by_cases h2 : r = q
      · subst h2; simp
      · rw [decide_eq_false h2, Bool.and_false, decide_eq_false fun z => h2 (List.cons.inj z).2]
    · have : ¬ ([.inl s.1, s.2] : List Key) = [.inl t.1, t.2] := fun z => h1 (by
        injection z with z1 z2
        injection z1 with z1
        injection z2 with z2 _
        exact Prod.ext z1 z2)
      rw [decide_eq_false this, Bool.false_and, decide_eq_false fun z => h1 (List.cons.inj z).1]
theorem eqv_slip (st su : List (Int × Key)) (e o : List Key) : (toPy (.tup [.tup (st.map stD), .tup (e.map datK)])).eqv (toPy (.tup [.tup (su.map stD), .tup (o.map datK)])) = decide (st = su ∧ e = o) := by
  show (PyData.eqvAll (toPys (st.map stD)) (toPys (su.map stD)) && (PyData.eqvAll (toPys (e.map datK)) (toPys (o.map datK)) && true)) = _
  rw [toPys_steps, toPys_steps, eqv_steps, toPys_keys, toPys_keys, eqvAll_keys, Bool.and_true]
  by_cases h1 : st = su <;> by_cases h2 : e = o <;> simp [h1, h2]
theorem mem_eqv (ts : List (List Key)) (z : List Key) : ((ts.map fun t => PyData.tuple (t.map dKey)).any fun x => x.eqv (.tuple (z.map dKey))) = true ↔ z ∈ ts := by
  rw [List.any_eq_true]
  constructor
  · rintro ⟨x, hx, h⟩
    obtain ⟨t, ht, rfl⟩ := List.mem_map.mp hx
    rw [eqv_keys, decide_eq_true_eq] at h
    rw [← h]; exact ht
  · intro h
    exact ⟨_, List.mem_map_of_mem h, by rw [eqv_keys]; exact decide_eq_true rfl⟩
theorem datVs_terms {K : PySem.W.Frag} {H : Hp} {ps : List Addr} {ks : List (List Key)} (h : PK H ps ks) : DatVs K H (ps.map V.ref) (ks.map fun k => .tuple (k.map dKey)) := by
  induction h with
  | nil => exact .nil
  | cons r t ih => exact .cons (datV_tup r.1) ih
theorem canLay_terms {H : Hp} {ps : List Addr} {ks : List (List Key)} (h : PK H ps ks) : PyData.canLayAll0 (ks.map fun k => .tuple (k.map dKey)) = true := by
  induction h with
  | nil => rfl
  | @cons p k ps ks r t ih =>
    show (PyData.canLayAll0 (k.map dKey) && PyData.canLayAll0 (ks.map fun k => .tuple (k.map dKey))) = true
    rw [canLay_keys (asc_str r.2), ih]; rfl
theorem pk_app {H : Hp} {ps rs : List Addr} {ts us : List (List Key)} (h : PK H ps ts) (h2 : PK H rs us) : PK H (ps ++ rs) (ts ++ us) := by
  induction h with
  | nil => exact h2
  | cons r _ ih => exact .cons r ih
theorem Tab1.keepP {P P' : Addr} {l c : Nat} {t : CloT} {H H' : Hp} (h : Tab1 P l c t H) (ne : P ≠ P') (hP : ∃ ps, H P' = some (.tbl ps)) (k : KeepP P' H H') : Tab1 P l c t H' := by
  obtain ⟨ps, h1, h2⟩ := h
  obtain ⟨ps', hP⟩ := hP
  exact ⟨ps, k _ _ h1 ne, h2.imp id fun ⟨a, e, ha⟩ => ⟨a, e, k _ _ ha fun z => by subst z; rw [hP] at ha; cases ha⟩⟩
theorem Tab1.tbl {P : Addr} {l c : Nat} {t : CloT} {H : Hp} (h : Tab1 P l c t H) : ∃ ps, H P = some (.tbl ps) := let ⟨ps, h1, _⟩ := h; ⟨ps, h1⟩
theorem Tab1.keepB {P d : Addr} {l c : Nat} {t : CloT} {H H' : Hp} (h : Tab1 P l c t H) (hd : ∃ kvs, H d = some (.dT kvs)) (k : KeepB d H H') : Tab1 P l c t H' := by
  obtain ⟨ps, h1, h2⟩ := h
  exact ⟨ps, k.obj hd h1 (fun _ z => nomatch z), h2.imp id fun ⟨a, e, ha⟩ => ⟨a, e, k.obj hd ha (fun _ z => nomatch z)⟩⟩
structure Kp (A : Adr) (b : Addr) (H H' : Hp) : Prop where
  keep : ∀ x o, x ≠ b → H x = some o → (∀ ps, o ≠ .tbl ps) → H' x = some o
  ts : TabS A H'
  tp : TabP A H'
theorem Kp.same {A : Adr} {b : Addr} {H H1 H2 : Hp} (k : Kp A b H H1) (s : Same H1 H2) : Kp A b H H2 := ⟨fun x o n e nt => s _ _ (k.keep x o n e nt), k.ts.same s, k.tp.same s⟩
theorem Kp.next {A : Adr} {b : Addr} {H H1 H2 : Hp} (k : Kp A b H H1) (hd : ∃ kvs, H1 b = some (.dT kvs)) (s : KeepB b H1 H2) : Kp A b H H2 := ⟨fun x o n e nt => s _ _ n (k.keep x o n e nt), k.ts.keepB hd s, k.tp.keepB hd s⟩
structure Pair (b k l : Int) (fi st su : List (Int × Key)) (e o : List Key) (kvs : List (List Key × Key)) (pre1 pre2 : List (List Key)) (k1 k2 : List Key) : Prop where
  b60 : b ≤ 60
  lb : l ≤ b
  fiw : ∀ s ∈ fi, s.1 < l
  r1 : Rest b k l st e
  r2 : Rest b k l su o
  ch1 : ∀ h, Ext (tabG kvs) h → pre1 ++ [k1] = chainT h b k e st.reverse
  ch2 : ∀ h, Ext (tabG kvs) h → pre2 ++ [k2] = chainT h b k o su.reverse
  nin : (st = su ∧ e = o) ∨ k2 ∉ pre1 ++ [k1]
section
variable {b k l : Int} {fi st su : List (Int × Key)} {e o : List Key} {kvs kvs' : List (List Key × Key)} {pre1 pre2 : List (List Key)} {k1 k2 : List Key} {j : Int}
theorem Pair.nt (p : Pair b k l fi st su e o kvs pre1 pre2 k1 k2) : k2 ∉ pre2 ∧ k1 ∉ pre1 := by
  have c1 := p.ch1 _ (hsF_ext kvs)
  have c2 := p.ch2 _ (hsF_ext kvs)
  have w1 := chain_pw p.b60 p.lb p.r1 (hsF kvs)
  have w2 := chain_pw p.b60 p.lb p.r2 (hsF kvs)
  rw [← c1] at w1
  rw [← c2] at w2
  exact ⟨fun z => by have := last_notin w2 _ z; omega, fun z => by have := last_notin w1 _ z; omega⟩
theorem Pair.roots (p : Pair b k l fi st su e o kvs pre1 pre2 k1 k2) (sub : Sub (tabG kvs) (tabG kvs')) :
    hpF (hsF kvs') k1 k2 (lastT (hpF (hsF kvs') k1 k2) b k e (fi ++ st).reverse) = hpF (hsF kvs') k1 k2 (lastT (hpF (hsF kvs') k1 k2) b k o (fi ++ su).reverse) := by
  rcases p.nin with ⟨rfl, rfl⟩ | nm
  · rfl
  · rw [List.reverse_append, List.reverse_append]
    exact (planted_chains (p.ch1 _ ((hsF_ext kvs').of sub)).symm (p.ch2 _ ((hsF_ext kvs').of sub)).symm nm p.nt.1).2.2
theorem Pair.due (p : Pair b k l fi st su e o kvs pre1 pre2 k1 k2) (sub : Sub (tabG kvs) (tabG kvs')) (s : SureT j kvs') (s0 : SureT j kvs) {r : Option (List Key × List Key)}
    (h : IsDue (hpF (hsF kvs') k1 k2) (chainT (hpF (hsF kvs') k1 k2) b k e (fi ++ st).reverse ++ chainT (hpF (hsF kvs') k1 k2) b k o (fi ++ su).reverse) r) : ((st = su ∧ e = o) → r = none) ∧ (¬ (st = su ∧ e = o) → r = some (k1, k2)) := by
  have inj : ∀ x y, hsF kvs' x = hsF kvs' y → x = y := fun x y z => hsF_inj s z
  refine ⟨fun eq => ?_, fun ne => ?_⟩
  · obtain ⟨rfl, rfl⟩ := eq
    have e12 : k1 = k2 := by
      have c1 := p.ch1 _ (hsF_ext kvs)
      have c2 := p.ch2 _ (hsF_ext kvs)
      rw [← c1] at c2
      have := congrArg List.getLast? c2
      simp at this; exact this.symm
    subst e12
    have hp : ∀ t, hpF (hsF kvs') k1 k1 t = hsF kvs' t := fun t => by
      unfold hpF
      split
      · rename_i z; rw [z]
      · rfl
    cases r with
    | none => rfl
    | some r =>
      obtain ⟨_, _, _, _, _, h3, h4, _⟩ := h
      rw [hp, hp] at h4
      exact (h3 (inj _ _ h4)).elim
  · have nm : k2 ∉ pre1 ++ [k1] := p.nin.resolve_left ne
    rw [List.reverse_append, List.reverse_append] at h
    obtain ⟨z1, z2, _⟩ := planted_chains (F := fi.reverse) (p.ch1 _ ((hsF_ext kvs').of sub)).symm (p.ch2 _ ((hsF_ext kvs').of sub)).symm nm p.nt.1
    rw [z1, z2] at h
    refine IsDue.one h (planted_due inj nm p.nt.1 (fun z => ?_) p.nt.2)
    have : rank k2 ∈ (upper (hpF (hsF kvs') k1 k2) b k (hsF kvs' k1) fi.reverse).map rank := List.mem_map_of_mem z
    rw [upper_rank] at this
    obtain ⟨s1, hs1, es1⟩ := List.mem_map.mp this
    have h1 := p.fiw s1 (List.mem_reverse.mp hs1)
    have h2 := chain_low p.b60 p.lb p.r2 (hsF kvs) k2 (by rw [← p.ch2 _ (hsF_ext kvs)]; simp)
    omega
end
end Rs
namespace Rs
open PySem PySem.Spec PyProof.Rows L2
theorem toldV_form (k : Int) (e : List Key) : toldV k e = .non ∨ ∃ z, toldV k e = .str z := by
  unfold toldV
  split
  · split
    · exact .inr ⟨_, rfl⟩
    · exact .inl rfl
  · exact .inl rfl
theorem areSteps_app {b : Int} : ∀ {fi st : List (Int × Key)} {l : Int}, areStepsD b l (fi.map stD) = true → areStepsD b (placeFrom l (fi.map stD)) (st.map stD) = true → areStepsD b l ((fi ++ st).map stD) = true ∧ placeFrom l ((fi ++ st).map stD) = placeFrom (placeFrom l (fi.map stD)) (st.map stD)
  | [], st, l, _, h => ⟨h, rfl⟩
  | s :: r, st, l, h, h2 => by
    have h : (isStepD b l (stD s) && areStepsD b (s.1 + 1) (r.map stD)) = true := h
    rw [Bool.and_eq_true] at h
    have pe : ∀ (q : List (Int × Key)), placeFrom l ((s :: q).map stD) = placeFrom (s.1 + 1) (q.map stD) := fun q => by
      cases q with
      | nil => rfl
      | cons t q =>
        show placeFrom l (stD s :: stD t :: q.map stD) = placeFrom (s.1 + 1) (stD t :: q.map stD)
        unfold placeFrom
        rw [List.getLast?_cons_cons]
        cases e2 : (stD t :: q.map stD).getLast? with
        | none => simp at e2
        | some x => rfl
    rw [pe r] at h2 ⊢
    obtain ⟨z1, z2⟩ := areSteps_app h.2 h2
    refine ⟨?_, ?_⟩
    · show (isStepD b l (stD s) && areStepsD b (s.1 + 1) ((r ++ st).map stD)) = true
      rw [h.1, z1]; rfl
    · rw [List.cons_append, pe (r ++ st), z2]
theorem whole_slip {H : Hp} {b k l : Int} {fi st : List (Int × Key)} {e : List Key} {p c t : Addr} {ys : List V} (gf : goodSteps b 0 (fi.map stD)) (hl : l = placeFrom 0 (fi.map stD)) (g1 : goodSteps b l (st.map stD)) (en : isEndD b k (placeFrom l (st.map stD)) (.tup (e.map datK)) = true) (gd : Good b k st e)
    (hp : H p = some (.tup [.ref c, .ref t])) (hc : H c = some (.tup ys)) (ws : DatWs H ys ((fi ++ st).map stD)) (ht : DatW H (.ref t) (.tup (e.map datK))) : SlipW H (.ref p) b k (fi ++ st) e := by
  subst hl
  obtain ⟨z1, z2⟩ := areSteps_app gf.1 g1.1
  have hpl := place_in gd.b1 z1
  have gs : goodSteps b 0 ((fi ++ st).map stD) := by
    refine ⟨z1, ?_, ?_⟩
    · rw [List.map_append]; exact okDs_app gf.2.1 g1.2.1
    · rw [List.map_append, dpAll_app]; have := gf.2.2; have := g1.2.2; omega
  rw [← z2] at en
  exact ⟨⟨.tup hp (.cons (.tup hc ws) (.cons ht .nil)), gd.b1, gd.b60, gd.k0, gd.k1, gs, gd.ok, gd.dp, _, hpl.1, en⟩, en⟩
variable {K : PySem.W.Frag} {mg : Str → Option Value} {A : Adr}
theorem Stp.pl {H : Hp} {f : Addr} {a : SA} {k1 k2 : List Key} {g : List Key → Option Key} {n : Nat} (s : Stp A H f ⟨a, some (k1, k2)⟩ g n) : ∃ kvs, g = tabG kvs ∧ PlaAt H f a k1 k2 kvs n := by
  cases s with
  | sur kvs h ef ep hg => cases ep
  | pla x y kvs h ep hg => cases ep; exact ⟨kvs, hg, h⟩
structure St8 (A : Adr) (f : Addr) (a : SA) (b k l : Int) (p10 p11 : Addr) (fi st su : List (Int × Key)) (e o : List Key) (kvs : List (List Key × Key)) (pre1 pre2 : List (List Key)) (k1 k2 : List Key) (H : Hp) : Prop where
  pr : Pair b k l fi st su e o kvs pre1 pre2 k1 k2
  s0 : SureT a.j kvs
  w1 : SlipW H (.ref p10) b k (fi ++ st) e
  w2 : SlipW H (.ref p11) b k (fi ++ su) o
theorem St8.keep {f : Addr} {a : SA} {b k l : Int} {p10 p11 : Addr} {fi st su : List (Int × Key)} {e o : List Key} {kvs : List (List Key × Key)} {pre1 pre2 : List (List Key)} {k1 k2 : List Key} {H H' : Hp} (s : St8 A f a b k l p10 p11 fi st su e o kvs pre1 pre2 k1 k2 H) (kt : ∀ b xs, H b = some (.tup xs) → H' b = some (.tup xs)) : St8 A f a b k l p10 p11 fi st su e o kvs pre1 pre2 k1 k2 H' := ⟨s.pr, s.s0, s.w1.keep kt, s.w2.keep kt⟩
noncomputable def LB (K : PySem.W.Frag) (A : Adr) : TS := tSeq (mIfS (tNot (mTru K (tCallX (sp__law_part_alike K A) (fun _ => E0) (tCons (tCallX (sp_slip_mark K A) (fun _ => E0) (tCons (mVar 9) (tCons (mVar 0) (tCons (mVar 1) (tCons (mVar 13) (tNil)))))) (tCons (mVar 12) (tNil)))))) (tRet (tC (.bl false))) (tNext)) (mIfS (tNot (mTru K (tCallX (sp__law_same K A) (fun _ => E0) (tCons (tCallX (sp_slip_answer K A) (fun _ => E0) (tCons (mVar 9) (tCons (mVar 0) (tCons (mVar 12) (tCons (mVar 1) (tCons (mVar 13) (tNil))))))) (tCons (tCallX (sp__law_told K A) (fun _ => E0) (tCons (mVar 1) (tCons (mVar 13) (tNil)))) (tNil)))))) (tRet (tC (.bl false))) (tNext))
theorem loop_body {D : Ends} {H : Hp} {f px : Addr} {a : SA} {b k : Int} {sX : List (Int × Key)} {eX : List Key} {k1 k2 : List Key} {x : Key} {g : List Key → Option Key} {n : Nat} {y2 y3 y4 y5 y6 y7 y8 y10 y11 y14 : Option V}
    (W : SlipW H (.ref px) b k sX eX) (sp : Stp A H f ⟨a, some (k1, k2)⟩ g n) (hn : n ≤ 10000) (root : ∀ kvs', Sub g (tabG kvs') → x = hpF (hsF kvs') k1 k2 (lastT (hpF (hsF kvs') k1 k2) b k eX sX.reverse))
    (q : ∀ (g' : List Key → Option Key) (H' : Hp), KeepB a.b H H' → Stp A H' f ⟨a, some (k1, k2)⟩ g' (n + 300) → Sub g g' → D.nx [some (.int b), some (.int k), y2, y3, y4, y5, y6, y7, y8, some (.ref f), y10, y11, some (kV x), some (.ref px), y14] H') :
    LB K A D [some (.int b), some (.int k), y2, y3, y4, y5, y6, y7, y8, some (.ref f), y10, y11, some (kV x), some (.ref px), y14] H := by
  have gl := W.1.2.len
  refine ⟨f, ⟨a, some (k1, k2)⟩, b, k, .ref px, sX, eX, g, n, rfl, W, sp, by omega, fun y g1 H1 kb1 sp1 sub1 hy => ?_⟩
  obtain ⟨kv1, rfl, pla1⟩ := sp1.pl
  have exy : y = x := by rw [hy _ (hpF_ext rfl), ← root kv1 sub1]
  subst exy
  refine ⟨y, rfl, Sel.no rfl ?_⟩
  refine ⟨f, ⟨a, some (k1, k2)⟩, b, k, .ref px, sX, eX, tabG kv1, _, y, rfl, W.keep (kb1.tup sp.dict), sp1, by omega, hy, fun g2 H2 kb2 sp2 sub2 => ?_⟩
  refine ⟨b, k, .ref px, sX, eX, rfl, (W.keep (kb1.tup sp.dict)).keep (kb2.tup sp1.dict), toldV k eX, rfl, toldV_form k eX, Sel.no rfl ?_⟩
  exact q g2 H2 (kb1.trans kb2) (sp2.keep (by omega) fun _ _ e _ _ _ => e) (sub1.trans sub2)
end Rs
namespace Rs
open PySem PySem.Spec PyProof.Rows L2
variable {K : PySem.W.Frag} {mg : Str → Option Value} {A : Adr}
section
variable {Q : VK} {H3 G : Hp} {f p L1 L2 p10 p11 pc1 pc2 : Addr} {a : SA} {b k l m : Int} {v w : V} {fi st su : List (Int × Key)} {e o : List Key} {kvs : List (List Key × Key)} {pre1 pre2 : List (List Key)} {k1 k2 : List Key} {qs1 qs2 : List Addr} {x : Key} {g : List Key → Option Key} {n : Nat}
theorem pair10 {H' : Hp} {vf : V} {r : Option (List Key × List Key)} {x13 : Option V} (h8 : St8 A f a b k l p10 p11 fi st su e o kvs pre1 pre2 k1 k2 H') (hL1 : H' L1 = some (.lst ((qs1 ++ [pc1]).map V.ref))) (hL2 : H' L2 = some (.lst ((qs2 ++ [pc2]).map V.ref))) (h1 : H' pc1 = some (.tup (k1.map kV))) (h2 : H' pc2 = some (.tup (k2.map kV)))
    (ret : RetDue H' r vf) (due : ((st = su ∧ e = o) → r = none) ∧ (¬ (st = su ∧ e = o) → r = some (k1, k2))) (q : Q (.bl true) H') :
    R__law_pair_right_10 K A { nx := fun _ H' => Q .non H', rt := Q } [some (.int b), some (.int k), some (.ref p), some v, some w, some (.int m), some (.ref a.f), some (.ref L1), some (.ref L2), some (.ref f), some (.ref p10), some (.ref p11), some (kV x), x13, some vf] H' := by
  have ok1 : okD (.tup [.tup ((fi ++ st).map stD), .tup (e.map datK)]) = true := by
    show (okDs ((fi ++ st).map stD) && (okD (.tup (e.map datK)) && true)) = true
    rw [h8.w1.1.2.gs.2.1, h8.w1.1.2.ok]; rfl
  have ok2 : okD (.tup [.tup ((fi ++ su).map stD), .tup (o.map datK)]) = true := by
    show (okDs ((fi ++ su).map stD) && (okD (.tup (o.map datK)) && true)) = true
    rw [h8.w2.1.2.gs.2.1, h8.w2.1.2.ok]; rfl
  have dp : (toPy (.tup [.tup ((fi ++ st).map stD), .tup (e.map datK)])).depth ≤ 150 := by
    have d1 := h8.w1.1.2.gs.2.2
    have d2 := h8.w1.1.2.dp
    show max (PyData.depthAll (toPys ((fi ++ st).map stD)) + 1) (max (toPy (.tup (e.map datK))).depth 0) + 1 ≤ 150
    omega
  refine .inr (.inl ⟨_, _, h8.w1.1.1.toV ok1, h8.w2.1.1.toV ok2, lay_toPy ok1, lay_toPy ok2, dp, ?_⟩)
  rw [eqv_slip]
  refine Sel.dec (fun eq => ?_) (fun ne => ?_)
  · have hr := due.1 ⟨List.append_cancel_left eq.1, eq.2⟩
    subst hr
    have hv : vf = .non := ret
    subst hv
    exact q
  · have hr := due.2 (fun z => ne ⟨by rw [z.1], z.2⟩)
    subst hr
    obtain ⟨pr, pa, pb, rfl, hpr, hpa, hpb, oka, okb⟩ := ret
    have ty : tyN H' (.ref pr) = some "tuple" := by unfold tyN; dsimp only; rw [hpr]
    refine ⟨by decide, "tuple", ty, Sel.no rfl (.inl (.inr (.inl ⟨_, SqT.of hpr, Sel.no rfl ?_⟩)))⟩
    refine ixT (j := 0) hpr rfl rfl (ixLastL hL1 ⟨pa, pc1, k1, rfl, hpa, h1, (okT_len oka).2, Sel.t ?_⟩)
    exact ixT (j := 1) hpr rfl rfl (ixLastL hL2 ⟨pb, pc2, k2, rfl, hpb, h2, (okT_len okb).2, q⟩)
theorem pair9 {H : Hp} {x13 : Option V} (h8 : St8 A f a b k l p10 p11 fi st su e o kvs pre1 pre2 k1 k2 H) (sp : Stp A H f ⟨a, some (k1, k2)⟩ g n) (sub : Sub (tabG kvs) g) (hn : n ≤ 5000) (hL1 : H L1 = some (.lst ((qs1 ++ [pc1]).map V.ref))) (hL2 : H L2 = some (.lst ((qs2 ++ [pc2]).map V.ref))) (h1 : H pc1 = some (.tup (k1.map kV))) (h2 : H pc2 = some (.tup (k2.map kV)))
    (kp : Kp A a.b H3 H) (q : ∀ H', Kp A a.b H3 H' → Q (.bl true) H') :
    R__law_pair_right_9 K A { nx := fun _ H' => Q .non H', rt := Q } [some (.int b), some (.int k), some (.ref p), some v, some w, some (.int m), some (.ref a.f), some (.ref L1), some (.ref L2), some (.ref f), some (.ref p10), some (.ref p11), some (kV x), x13, none] H := by
  have gl1 := h8.w1.1.2.len
  have gl2 := h8.w2.1.2.len
  refine ⟨f, ⟨a, some (k1, k2)⟩, b, k, .ref p10, fi ++ st, e, g, n, rfl, h8.w1, sp, by omega, fun La psa tsa ga Ha kba spa suba hna hLa pka cha => ?_⟩
  have h8a := h8.keep (kba.tup sp.dict)
  refine ⟨f, ⟨a, some (k1, k2)⟩, b, k, .ref p11, fi ++ su, o, ga, _, rfl, h8a.w2, spa, by omega, fun Lb psb tsb gb Hb kbb spb subb hnb hLb pkb chb => ?_⟩
  have hLa' := kbb.obj spa.dict hLa (fun _ z => nomatch z)
  have pka' := pk_keep (kbb.tup spa.dict) pka
  have la := pk_len pka
  have lb := pk_len pkb
  have ta : tsa.length ≤ 61 := by rw [cha _ (extT_ok _), chain_len]; simp at gl1 ⊢; omega
  have tb : tsb.length ≤ 61 := by rw [chb _ (extT_ok _), chain_len]; simp at gl2 ⊢; omega
  refine .inl ⟨La, Lb, _, _, rfl, rfl, hLa', hLb, line_ge (by simp; omega), fun r hr => ?_⟩
  have S := Same.upd (o := .lst (psa.map V.ref ++ psb.map V.ref)) hr
  refine ⟨f, ⟨a, some (k1, k2)⟩, r, psa ++ psb, tsa ++ tsb, gb, _, rfl, spb.same (Nat.le_refl _) S, by rw [upd_same, List.map_append], pk_keep (fun _ _ z => S _ _ z) (pk_app pka' pkb), by simp; omega, by omega, fun vf H' g' rr kb sp' sub' ret due => ?_⟩
  obtain ⟨kvs', rfl, pla'⟩ := sp'.pl
  have hp := hpF_ext (kvs := kvs') (d := ⟨a, some (k1, k2)⟩) (k1 := k1) (k2 := k2) rfl
  have ea := cha _ ((hp.ofE sub').ofE subb)
  have eb := chb _ (hp.ofE sub')
  have dd := due _ hp
  rw [ea, eb] at dd
  have subK : Sub (tabG kvs) (tabG kvs') := sub.trans (suba.trans (subb.trans sub'))
  have kt : ∀ y o, H y = some o → (∀ kvs, o ≠ .dT kvs) → H' y = some o := fun y o z nd => kb.obj (spb.same (Nat.le_refl _) S).dict (S _ _ (kbb.obj spa.dict (kba.obj sp.dict z nd) nd)) nd
  refine pair10 (h8.keep fun y xs z => kt y _ z fun _ z => nomatch z) (kt _ _ hL1 fun _ z => nomatch z) (kt _ _ hL2 fun _ z => nomatch z) (kt _ _ h1 fun _ z => nomatch z) (kt _ _ h2 fun _ z => nomatch z) ret (h8.pr.due subK pla'.su.st h8.s0 dd) (q H' ?_)
  exact (((kp.next sp.dict kba).next spa.dict kbb).same S).next (spb.same (Nat.le_refl _) S).dict kb
theorem pair8 {H : Hp} (h8 : St8 A f a b k l p10 p11 fi st su e o kvs pre1 pre2 k1 k2 H) (sp : Stp A H f ⟨a, some (k1, k2)⟩ g n) (sub : Sub (tabG kvs) g) (hn : n ≤ 2000) (hx : ∀ h, Ext (eff ⟨a, some (k1, k2)⟩ g) h → x = h (lastT h b k e (fi ++ st).reverse)) (hL1 : H L1 = some (.lst ((qs1 ++ [pc1]).map V.ref))) (hL2 : H L2 = some (.lst ((qs2 ++ [pc2]).map V.ref))) (h1 : H pc1 = some (.tup (k1.map kV))) (h2 : H pc2 = some (.tup (k2.map kV)))
    (kp : Kp A a.b H3 H) (q : ∀ H', Kp A a.b H3 H' → Q (.bl true) H') :
    R__law_pair_right_8 K A { nx := fun _ H' => Q .non H', rt := Q } [some (.int b), some (.int k), some (.ref p), some v, some w, some (.int m), some (.ref a.f), some (.ref L1), some (.ref L2), some (.ref f), some (.ref p10), some (.ref p11), some (kV x), none, none] H := by
  refine ⟨line_ge (n := 2) (by decide), fun R hR => ?_⟩
  have S := Same.upd (o := .lst [V.ref p10, V.ref p11]) hR
  refine ⟨R, rfl, .inl ⟨⟨_, SqL.of upd_same⟩, ?_⟩⟩
  have hR2 : upd H R (.lst [V.ref p10, V.ref p11]) R = some (.lst [V.ref p10, V.ref p11]) := upd_same
  have sp0 : Stp A (upd H R (.lst [V.ref p10, V.ref p11])) f ⟨a, some (k1, k2)⟩ g n := sp.same (Nat.le_refl _) S
  have h80 := h8.keep fun _ _ z => S _ _ z
  have kp0 := kp.same S
  have hL1' := S _ _ hL1
  have hL2' := S _ _ hL2
  have h1' := S _ _ h1
  have h2' := S _ _ h2
  generalize upd H R (.lst [V.ref p10, V.ref p11]) = G at hR2 sp0 h80 kp0 hL1' hL2' h1' h2' ⊢
  have root1 : ∀ kvs', Sub g (tabG kvs') → x = hpF (hsF kvs') k1 k2 (lastT (hpF (hsF kvs') k1 k2) b k e (fi ++ st).reverse) := fun kvs' s => hx _ ((hpF_ext rfl).ofE s)
  have root2 : ∀ kvs', Sub g (tabG kvs') → x = hpF (hsF kvs') k1 k2 (lastT (hpF (hsF kvs') k1 k2) b k o (fi ++ su).reverse) := fun kvs' s => by rw [root1 kvs' s]; exact h8.pr.roots (sub.trans s)
  refine for_list (xs := [V.ref p10, V.ref p11]) (fun i σ H' => ∃ gI x13, σ = [some (.int b), some (.int k), some (.ref p), some v, some w, some (.int m), some (.ref a.f), some (.ref L1), some (.ref L2), some (.ref f), some (.ref p10), some (.ref p11), some (kV x), x13, none] ∧ KeepB a.b G H' ∧ Stp A H' f ⟨a, some (k1, k2)⟩ gI (n + 300 * i) ∧ Sub g gI) ⟨g, none, rfl, KeepB.rfl', sp0, Sub.rfl'⟩ ?_ ?_ ?_
  · rintro i σ H' _ ⟨gI, x13, _, kb, _⟩; exact SqL.of (kb.obj sp0.dict hR2 fun _ z => nomatch z)
  · rintro i y σ H' hy ⟨gI, x13, rfl, kb, spI, subI⟩
    have h8I := h80.keep (kb.tup sp0.dict)
    have hi : i < 2 := (List.getElem?_eq_some_iff.mp hy).1
    cases i with
    | zero =>
      cases hy
      show LB K A _ _ H'
      exact loop_body h8I.w1 spI (by omega) (fun kvs' s => root1 kvs' (subI.trans s)) fun g' H'' kb' sp' sub' => ⟨g', _, rfl, kb.trans kb', sp', subI.trans sub'⟩
    | succ i =>
      cases i with
      | zero =>
        cases hy
        show LB K A _ _ H'
        exact loop_body h8I.w2 spI (by omega) (fun kvs' s => root2 kvs' (subI.trans s)) fun g' H'' kb' sp' sub' => ⟨g', _, rfl, kb.trans kb', sp', subI.trans sub'⟩
      | succ i => omega
  · rintro σ H' ⟨gI, x13, rfl, kb, spI, subI⟩
    have ko : ∀ y o, G y = some o → (∀ kvs, o ≠ .dT kvs) → H' y = some o := fun y o z nd => kb.obj sp0.dict z nd
    exact pair9 (h80.keep (kb.tup sp0.dict)) spI (sub.trans subI) (by show n + 300 * 2 ≤ 5000; omega) (ko _ _ hL1' fun _ z => nomatch z) (ko _ _ hL2' fun _ z => nomatch z) (ko _ _ h1' fun _ z => nomatch z) (ko _ _ h2' fun _ z => nomatch z) (kp0.next sp0.dict kb) q
theorem pair_rest (T : Txt K mg A) {ps1 ps2 : List Addr} (su3 : SurAt H3 a kvs n) (hn : n ≤ 300) (wf : DatW H3 (.ref p) (.tup (fi.map stD))) (gf : goodSteps b 0 (fi.map stD)) (hl : l = placeFrom 0 (fi.map stD))
    (w1 : PartW H3 v b k st e) (g1 : goodSteps b l (st.map stD)) (e1 : isEndD b k (placeFrom l (st.map stD)) (.tup (e.map datK)) = true) (w2 : PartW H3 w b k su o) (g2 : goodSteps b l (su.map stD)) (e2 : isEndD b k (placeFrom l (su.map stD)) (.tup (o.map datK)) = true)
    (hL1 : H3 L1 = some (.lst (ps1.map V.ref))) (pk1 : PK H3 ps1 (pre1 ++ [k1])) (ch1 : ∀ h, Ext (tabG kvs) h → pre1 ++ [k1] = chainT h b k e st.reverse)
    (hL2 : H3 L2 = some (.lst (ps2.map V.ref))) (pk2 : PK H3 ps2 (pre2 ++ [k2])) (ch2 : ∀ h, Ext (tabG kvs) h → pre2 ++ [k2] = chainT h b k o su.reverse)
    (nin : (st = su ∧ e = o) ∨ k2 ∉ pre1 ++ [k1]) (ts : TabS A H3) (tp : TabP A H3) (tn : A.t__law_sure ≠ A.t__law_planted) (q : ∀ H', Kp A a.b H3 H' → Q (.bl true) H') :
    R__law_pair_right_4 K A { nx := fun _ H' => Q .non H', rt := Q } [some (.int b), some (.int k), some (.ref p), some v, some w, some (.int m), some (.ref a.f), some (.ref L1), some (.ref L2), none, none, none, none, none, none] H3 := by
  obtain ⟨qs1, pc1, rfl, hpc1, okc1⟩ := pk_last pk1
  obtain ⟨qs2, pc2, rfl, hpc2, okc2⟩ := pk_last pk2
  have hb60 := w1.2.b60
  have hb1 := w1.2.b1
  have hpl := place_in hb1 gf.1
  refine ixLastL hL1 (ixLastL hL2 ⟨pc1, pc2, a, k1, k2, kvs, n, rfl, hpc1, hpc2, okc1, okc2, su3, tp, fun f H4 kp4 tp4 pla4 => ?_⟩)
  have kn4 : ∀ x o, H3 x = some o → (∀ ps, o ≠ .tbl ps) → H4 x = some o := fun x o z nt => kp4 _ _ z fun y => by obtain ⟨ps, hP⟩ := tp.tbl; subst y; rw [hP] at z; cases z; exact nt _ rfl
  have kt4 : ∀ x xs, H3 x = some (.tup xs) → H4 x = some (.tup xs) := fun x xs z => kn4 _ _ z fun _ y => nomatch y
  have kp4' : Kp A a.b H3 H4 := ⟨fun x o _ z nt => kn4 x o z nt, ts.keepP tn tp.tbl kp4, tp4⟩
  have w1' := w1.keep kt4
  have w2' := w2.keep kt4
  have wf' := wf.keepT kt4 (tup_steps fi)
  obtain ⟨va, s1, t1, xs1, rfl, ha1, hs1, ws1, ht1⟩ := slip_at w1'
  obtain ⟨vb, s2, t2, xs2, rfl, ha2, hs2, ws2, ht2⟩ := slip_at w2'
  obtain ⟨xsF, hF, rF⟩ : ∃ xsF, H4 p = some (.tup xsF) ∧ DatWs H4 xsF (fi.map stD) := by
    cases wf' with
    | @tup _ xs _ hh r => exact ⟨xs, hh, r⟩
  have lF : xsF.length ≤ 60 := by have h1 := rF.len; have h2 := areSteps_len (Int.le_refl 0) (by omega) gf.1; simp at h1 h2; omega
  have l1 : xs1.length ≤ 60 := by have h1 := ws1.len; have h2 := w1.2.len; simp at h1; omega
  have l2 : xs2.length ≤ 60 := by have h1 := ws2.len; have h2 := w2.2.len; simp at h1; omega
  have dt : ∀ {H : Hp} {t : Addr} {e : List Key}, H t = some (.tup (e.map kV)) → DatW H (.ref t) (.tup (e.map datK)) := fun {H t e} h => by
    have : ∀ e : List Key, DatWs H (e.map kV) (e.map datK) := fun e => by
      induction e with
      | nil => exact .nil
      | cons y r ih => exact .cons (dat_kV _ y) ih
    exact .tup h (this _)
  -- the first slip
  refine ixT (j := 0) ha1 rfl rfl (.inr ⟨p, s1, xsF, xs1, rfl, rfl, hF, hs1, line_ge (by omega), fun c1 H5 S5 hc1 => ?_⟩)
  refine ixT (j := 1) (S5 _ _ ha1) rfl rfl ⟨line_ge (n := 2) (by decide), fun p10 hp10 => ?_⟩
  have S6 := S5.trans (Same.upd (o := .tup [V.ref c1, V.ref t1]) hp10)
  have W1 : SlipW (upd H5 p10 (.tup [V.ref c1, V.ref t1])) (.ref p10) b k (fi ++ st) e := by
    refine whole_slip gf hl g1 e1 w1.2 upd_same (Same.upd hp10 _ _ hc1) ?_ (dt (S6 _ _ ht1))
    rw [List.map_append]
    exact (rF.mono S6).append (ws1.mono S6)
  generalize upd H5 p10 (.tup [V.ref c1, V.ref t1]) = H6 at S6 W1 ⊢
  -- the other one
  refine ixT (j := 0) (S6 _ _ ha2) rfl rfl (.inr ⟨p, s2, xsF, xs2, rfl, rfl, S6 _ _ hF, S6 _ _ hs2, line_ge (by omega), fun c2 H7 S7 hc2 => ?_⟩)
  refine ixT (j := 1) (S7 _ _ (S6 _ _ ha2)) rfl rfl ⟨line_ge (n := 2) (by decide), fun p11 hp11 => ?_⟩
  have S8 := S7.trans (Same.upd (o := .tup [V.ref c2, V.ref t2]) hp11)
  have W2 : SlipW (upd H7 p11 (.tup [V.ref c2, V.ref t2])) (.ref p11) b k (fi ++ su) o := by
    refine whole_slip gf hl g2 e2 w2.2 upd_same (Same.upd hp11 _ _ hc2) ?_ (dt (S8 _ _ (S6 _ _ ht2)))
    rw [List.map_append]
    exact ((rF.mono S6).mono S8).append ((ws2.mono S6).mono S8)
  generalize upd H7 p11 (.tup [V.ref c2, V.ref t2]) = H8 at S8 W2 ⊢
  have S48 := S6.trans S8
  have fiw : ∀ s ∈ fi, s.1 < l := fun s hs => by have := (steps_below gf.1).2 s hs; omega
  have pr : Pair b k l fi st su e o kvs pre1 pre2 k1 k2 := ⟨hb60, by omega, fiw, ⟨g1.1, e1⟩, ⟨g2.1, e2⟩, ch1, ch2, nin⟩
  have h8 : St8 A f a b k l p10 p11 fi st su e o kvs pre1 pre2 k1 k2 H8 := ⟨pr, su3.st, W1.keep fun _ _ z => S8 _ _ z, W2⟩
  have sp8 : Stp A H8 f ⟨a, some (k1, k2)⟩ (tabG kvs) n := .pla k1 k2 kvs (pla4.keep (Nat.le_refl _) fun x o z _ _ _ => S48 _ _ z) rfl rfl
  have kp8 := kp4'.same S48
  have gl1 := h8.w1.1.2.len
  have k48 : ∀ y o, H3 y = some o → (∀ ps, o ≠ .tbl ps) → H8 y = some o := fun y o z nt => S48 _ _ (kn4 _ _ z nt)
  refine ⟨f, rfl, sp8.clo, f, ⟨a, some (k1, k2)⟩, b, k, .ref p10, fi ++ st, e, tabG kvs, n, rfl, h8.w1.1, sp8, by omega, fun L ps tsx g9 H9 kb9 sp9 sub9 hLn hL pk ch => ?_⟩
  obtain ⟨pre, cur, rfl, hc⟩ := chain_split ch
  obtain ⟨qs, pc, rfl, hpc, okc⟩ := pk_last pk
  refine ixLastL hL (call_ok sp9 (by omega) hpc okc fun x H10 g10 kb10 sp10 sub10 gv so => ?_)
  have ko : ∀ y o, H3 y = some o → (∀ ps, o ≠ .tbl ps) → (∀ kvs, o ≠ .dT kvs) → H10 y = some o := fun y o z nt nd => kb10.obj sp9.dict (kb9.obj sp8.dict (k48 _ _ z nt) nd) nd
  refine pair8 ((h8.keep (kb9.tup sp8.dict)).keep (kb10.tup sp9.dict)) sp10 (sub9.trans sub10) (by omega) (fun h he => ?_) (ko _ _ hL1 (fun _ z => nomatch z) fun _ z => nomatch z) (ko _ _ hL2 (fun _ z => nomatch z) fun _ z => nomatch z) (ko _ _ hpc1 (fun _ z => nomatch z) fun _ z => nomatch z) (ko _ _ hpc2 (fun _ z => nomatch z) fun _ z => nomatch z) ((kp8.next sp8.dict kb9).next sp9.dict kb10) q
  rw [hc h (he.ofE sub10)]
  exact (he _ _ gv).symm
end
end Rs
namespace Rs
open PySem PySem.Spec PyProof.Rows L2
variable {K : PySem.W.Frag} {mg : Str → Option Value} {A : Adr}
theorem Stp.su {H : Hp} {f : Addr} {a : SA} {g : List Key → Option Key} {n : Nat} (s : Stp A H f ⟨a, none⟩ g n) : ∃ kvs, g = tabG kvs ∧ SurAt H a kvs n := by
  cases s with
  | sur kvs h ef ep hg => exact ⟨kvs, hg, h⟩
  | pla x y kvs h ep hg => cases ep
theorem len__law_pair_right (K : PySem.W.Frag) (A : Adr) : ∀ vs H Q E, sp__law_pair_right K A vs H Q E → vs.length = 6 := by rintro vs H Q E ⟨b, k, l, m, p, v, w, fi, st, su, e, o, rfl, _⟩; rfl
theorem rd__law_pair_right (T : Txt K mg A) (vs : List V) (H : Hp) (Q : VK) (E : XK) (h : sp__law_pair_right K A vs H Q E) : T__law_pair_right K A { nx := fun _ H' => Q .non H', rt := Q } (L2.start ["_law_bits_here", "_law_key_here", "_law_first", "_law_ones", "_law_others", "_law_number_here", "_law_sure_one", "_law_mine", "_law_theirs", "_law_stamper", "_law_one", "_law_other", "_law_mark_here", "_law_slip", "_law_found"] vs) H := by
  obtain ⟨b, k, l, m, p, v, w, fi, st, su, e, o, rfl, wf, gf, hl, w1, g1, e1, w2, g2, e2, ts, tp, tn, q⟩ := h
  have hb60 := w1.2.b60
  have hpl := place_in w1.2.b1 gf.1
  refine ⟨by decide, m % 1000, rfl, by omega, by omega, ts, fun a H1 kp1 ts1 hbn su1 => ?_⟩
  have kn1 : ∀ x o, H x = some o → (∀ ps, o ≠ .tbl ps) → H1 x = some o := fun x o z nt => kp1 _ _ z fun y => by obtain ⟨ps, hP⟩ := ts.tbl; subst y; rw [hP] at z; cases z; exact nt _ rfl
  have kt1 : ∀ x xs, H x = some (.tup xs) → H1 x = some (.tup xs) := fun x xs z => kn1 _ _ z fun _ y => nomatch y
  have tp1 : TabP A H1 := tp.keepP (Ne.symm tn) ts.tbl kp1
  show R__law_pair_right_1 K A _ [some (.int b), some (.int k), some (.ref p), some v, some w, some (.int m), some (.ref a.f), none, none, none, none, none, none, none, none] H1
  have sp1 : Stp A H1 a.f ⟨a, none⟩ (tabG []) 0 := .sur [] su1 rfl rfl rfl
  refine ⟨a.f, ⟨a, none⟩, b, k, v, st, e, tabG [], 0, rfl, w1.keep kt1, sp1, by omega, fun L1 ps1 tsa gA H2 kb2 sp2 sub2 hn1 hL1 pk1 ch1 => ?_⟩
  show R__law_pair_right_2 K A _ [some (.int b), some (.int k), some (.ref p), some v, some w, some (.int m), some (.ref a.f), some (.ref L1), none, none, none, none, none, none, none] H2
  refine ⟨a.f, ⟨a, none⟩, b, k, w, su, o, gA, _, rfl, (w2.keep kt1).keep (kb2.tup sp1.dict), sp2, by have := w1.2.len; omega, fun L2 ps2 tsb gB H3 kb3 sp3 sub3 hn2 hL2 pk2 ch2 => ?_⟩
  show R__law_pair_right_3 K A _ [some (.int b), some (.int k), some (.ref p), some v, some w, some (.int m), some (.ref a.f), some (.ref L1), some (.ref L2), none, none, none, none, none, none] H3
  obtain ⟨kvs, rfl, su3⟩ := sp3.su
  have kt3 : ∀ x xs, H x = some (.tup xs) → H3 x = some (.tup xs) := fun x xs z => kb3.tup sp2.dict _ _ (kb2.tup sp1.dict _ _ (kt1 _ _ z))
  have hL1' := kb3.obj sp2.dict hL1 (fun _ z => nomatch z)
  have pk1' := pk_keep (kb3.tup sp2.dict) pk1
  have c1 : ∀ h, Ext (tabG kvs) h → tsa = chainT h b k e st.reverse := fun h he => ch1 h (he.of sub3)
  have c2 : ∀ h, Ext (tabG kvs) h → tsb = chainT h b k o su.reverse := ch2
  obtain ⟨pre1, k1, rfl, hc1⟩ := chain_split c1
  obtain ⟨pre2, k2, rfl, hc2⟩ := chain_split c2
  have wf3 := wf.keepT kt3 (tup_steps fi)
  have w13 := w1.keep kt3
  have w23 := w2.keep kt3
  have ts3 : TabS A H3 := (ts1.keepB sp1.dict kb2).keepB sp2.dict kb3
  have tp3 : TabP A H3 := (tp1.keepB sp1.dict kb2).keepB sp2.dict kb3
  have fin : ∀ H', Kp A a.b H3 H' → Q (.bl true) H' := fun H' kp => q H' (fun x o z nt => by
    have xb := ne_of_none z hbn
    exact kp.keep _ _ xb (kb3 _ _ xb (kb2 _ _ xb (kn1 _ _ z nt))) nt) kp.ts kp.tp
  have gl1 := w1.2.len
  have gl2 := w2.2.len
  have r1 : Rest b k l st e := ⟨g1.1, e1⟩
  have r2 : Rest b k l su o := ⟨g2.1, e2⟩
  obtain ⟨qs2, pc2, hq2, hpc2, okc2⟩ := pk_last pk2
  have hL2q := hL2
  rw [hq2] at hL2q
  refine ixLastL hL2q ?_
  refine .inr ⟨_, _, datV_tup hpc2, .inl (.lst (SqL.of hL1') (datVs_terms pk1')), canLay_terms pk1', canLay_keys (asc_str okc2), ?_, ?_⟩
  · show PyData.depthAll (k2.map dKey) + 1 ≤ 140; rw [depth_keys]; decide
  refine Sel.mk (fun hin => ?_) (fun hout => ?_)
  · have hin := (mem_eqv _ _).mp hin
    refine ⟨_, _, rfl, _, _, rfl, ?_⟩
    refine pair_rest T (v := w) (w := v) (st := su) (su := st) (e := o) (o := e) su3 (by omega) wf3 gf hl w23 g2 e2 w13 g1 e1 hL2 pk2 c2 hL1' pk1' c1 ?_ ts3 tp3 tn fin
    by_cases eq : su = st ∧ o = e
    · exact .inl eq
    · refine .inr fun hm => eq ?_
      have d1 := c1 _ (hsF_ext kvs)
      have d2 := c2 _ (hsF_ext kvs)
      have p1 := chain_pw hb60 (by omega) r1 (hsF kvs)
      have p2 := chain_pw hb60 (by omega) r2 (hsF kvs)
      rw [← d1] at p1
      rw [← d2] at p2
      have k12 := cross p1 p2 hin hm
      have z := root_inj (h := hsF kvs) (b := b) (k := k) (fun x y z => hsF_inj su3.st z) (end_rank hb60 r1.en).2 (end_rank hb60 r2.en).2 (st := st) (su := su) (by rw [hc1 _ (hsF_ext kvs), hc2 _ (hsF_ext kvs), k12])
      exact ⟨z.1.symm, z.2.symm⟩
  · have hout : k2 ∉ pre1 ++ [k1] := fun z => by rw [(mem_eqv _ _).mpr z] at hout; cases hout
    exact pair_rest T su3 (by omega) wf3 gf hl w13 g1 e1 w23 g2 e2 hL1' pk1' c1 hL2 pk2 c2 (.inr hout) ts3 tp3 tn fin
end Rs
namespace Rs
open PySem PySem.Spec PyProof.Rows L2
theorem stampOf {m : Dat} (h : isStampD m = true) : ∃ k : Key, m = datK k := by
  cases m with
  | int i => exact ⟨.inl i, rfl⟩
  | str z => exact ⟨.inr z, rfl⟩
  | _ => cases h
theorem steps_form {b : Int} : ∀ {ds : List Dat} {l : Int}, areStepsD b l ds = true → ∃ st : List (Int × Key), ds = st.map stD
  | [], _, _ => ⟨[], rfl⟩
  | s :: r, l, h => by
    have h : (isStepD b l s && areStepsD b (depthOf s + 1) r) = true := h
    rw [Bool.and_eq_true] at h
    obtain ⟨i, m, rfl⟩ := isStep_shape h.1
    have hm : (decide (l ≤ i ∧ i < b) && isStampD m) = true := h.1
    rw [Bool.and_eq_true] at hm
    obtain ⟨x, rfl⟩ := stampOf hm.2
    obtain ⟨st, rfl⟩ := steps_form h.2
    exact ⟨(i, x) :: st, rfl⟩
theorem ends_form {b k l : Int} {es : List Dat} (h : isEndD b k l (.tup es) = true) : ∃ e : List Key, es = e.map datK := by
  unfold isEndD at h
  split at h
  · rename_i hb
    match es, hb with
    | [x], hb => exact ⟨[.inr "bare"], by rw [isStr_eq hb]; rfl⟩
  · rw [Bool.or_eq_true] at h
    rcases h with h | h
    · match es, h with
      | [w, .int x, z], h =>
        have h : (isStrD "leaf" w && decide (0 ≤ x ∧ x < 2 ^ b.toNat) && isValueD z && decide (startI b x l = startI b k l)) = true := h
        simp only [Bool.and_eq_true] at h
        rw [isStr_eq h.1.1.1]
        cases z with
        | str z => exact ⟨[.inr "leaf", .inl x, .inr z], rfl⟩
        | _ => cases h.1.2
    · rw [Bool.and_eq_true] at h
      match es, h with
      | [w, .int d, .int bb, m, n], h =>
        have h1 : (isStrD "fork" w && decide (l ≤ d ∧ d < b) && decide (0 ≤ bb ∧ bb < 2 ^ d.toNat) && decide (bb / 2 ^ (d - l).toNat = startI b k l)) = true := h.1
        have h2 : (!decide (bb = startI b k d) && isStampD m && isStampD n) = true := h.2
        simp only [Bool.and_eq_true] at h1 h2
        obtain ⟨m, rfl⟩ := stampOf h2.1.2
        obtain ⟨n, rfl⟩ := stampOf h2.2
        rw [isStr_eq h1.1.1.1]
        exact ⟨[.inr "fork", .inl d, .inl bb, m, n], rfl⟩
theorem DatWs.take {H : Hp} : ∀ {xs : List V} {ds : List Dat} (n : Nat), DatWs H xs ds → DatWs H (xs.take n) (ds.take n)
  | _, _, 0, _ => .nil
  | _, _, n + 1, .nil => .nil
  | _, _, n + 1, .cons a r => .cons a (r.take n)
theorem steps_take {b : Int} : ∀ {ds : List Dat} {l : Int} (n : Nat), goodSteps b l ds → goodSteps b l (ds.take n)
  | _, _, 0, _ => ⟨rfl, rfl, Nat.zero_le 1⟩
  | [], _, n + 1, h => h
  | s :: r, l, n + 1, ⟨h1, h2, h3⟩ => by
    have h1 : (isStepD b l s && areStepsD b (depthOf s + 1) r) = true := h1
    have h2 : (okD s && okDs r) = true := h2
    have h3 : max (toPy s).depth (PyData.depthAll (toPys r)) ≤ 1 := h3
    rw [Bool.and_eq_true] at h1 h2
    obtain ⟨z1, z2, z3⟩ := steps_take (l := depthOf s + 1) n ⟨h1.2, h2.2, by omega⟩
    refine ⟨?_, ?_, ?_⟩
    · show (isStepD b l s && areStepsD b (depthOf s + 1) (r.take n)) = true
      rw [h1.1, z1]; rfl
    · show (okD s && okDs (r.take n)) = true
      rw [h2.1, z2]; rfl
    · show max (toPy s).depth (PyData.depthAll (toPys (r.take n))) ≤ 1
      omega
theorem steps_least {b : Int} : ∀ {ds : List Dat} {l l' : Int}, l' ≤ l → areStepsD b l ds = true → areStepsD b l' ds = true
  | [], _, _, _, _ => rfl
  | s :: r, l, l', hl, h => by
    have h : (isStepD b l s && areStepsD b (depthOf s + 1) r) = true := h
    rw [Bool.and_eq_true] at h
    show (isStepD b l' s && areStepsD b (depthOf s + 1) r) = true
    rw [h.2, Bool.and_true]
    obtain ⟨i, m, rfl⟩ := isStep_shape h.1
    have h1 : (decide (l ≤ i ∧ i < b) && isStampD m) = true := h.1
    show (decide (l' ≤ i ∧ i < b) && isStampD m) = true
    rw [Bool.and_eq_true, decide_eq_true_eq] at h1
    rw [decide_eq_true (by omega), h1.2]; rfl
theorem place_hi {b l : Int} {st : List (Int × Key)} (hl : l ≤ b) (h : areStepsD b l (st.map stD) = true) : l ≤ placeFrom l (st.map stD) ∧ placeFrom l (st.map stD) ≤ b := by
  refine ⟨(steps_below h).1, ?_⟩
  unfold placeFrom
  cases e : (st.map stD).getLast? with
  | none => exact hl
  | some s =>
    have hm := List.mem_of_getLast? e
    obtain ⟨t, ht, rfl⟩ := List.mem_map.mp hm
    obtain ⟨i, hi, ei⟩ := List.getElem_of_mem ht
    have := areSteps_above2 h (i := i) (s := t) (by rw [List.getElem?_map, List.getElem?_eq_getElem hi, ei]; rfl) (by rw [List.getElem?_eq_getElem hi, ei])
    show t.1 + 1 ≤ b
    omega
noncomputable def RestAt (b k l : Int) (H : Hp) (p : Addr) : Prop := ∃ st e, PartW H (.ref p) b k st e ∧ goodSteps b l (st.map stD) ∧ isEndD b k (placeFrom l (st.map stD)) (.tup (e.map datK)) = true
theorem RestAt.keep {b k l : Int} {H H' : Hp} {p : Addr} (h : RestAt b k l H p) (kt : ∀ b xs, H b = some (.tup xs) → H' b = some (.tup xs)) : RestAt b k l H' p := by
  obtain ⟨st, e, w, g, en⟩ := h
  exact ⟨st, e, w.keep kt, g, en⟩
theorem at_prev {ps : List Addr} {i : Nat} (hi : i < ps.length) : ∃ p, p ∈ ps ∧ atI (ps.map V.ref) ((i : Int) - 1) = some (.ref p) := by
  cases i with
  | zero =>
    have hn : ps ≠ [] := by intro z; subst z; simp at hi
    obtain ⟨qs, p, rfl⟩ : ∃ qs p, ps = qs ++ [p] := ⟨ps.dropLast, ps.getLast hn, (List.dropLast_concat_getLast hn).symm⟩
    refine ⟨p, by simp, ?_⟩
    rw [List.map_append]
    exact atI_last _ _
  | succ i =>
    refine ⟨ps[i], List.getElem_mem _, ?_⟩
    have e : ((i + 1 : Nat) : Int) - 1 = (i : Int) := by omega
    rw [e]
    exact atI_nat (by rw [List.getElem?_map, List.getElem?_eq_getElem (by omega)]; rfl)
variable {K : PySem.W.Frag} {mg : Str → Option Value} {A : Adr}
theorem law7 {Q : VK} {G : Hp} {a p R : Addr} {b k l : Int} {ns : List Int} {fi : List (Int × Key)} {ps : List Addr} {x6 x7 x8 : Option V} (hs : SqL K G a (ns.map V.int)) (wf : DatW G (.ref p) (.tup (fi.map stD))) (gf : goodSteps b 0 (fi.map stD)) (hl : l = placeFrom 0 (fi.map stD)) (hR : G R = some (.lst (ps.map V.ref))) (hps : ps.length ≤ 10) (rows : ∀ p ∈ ps, RestAt b k l G p)
    (ts : TabS A G) (tp : TabP A G) (tn : A.t__law_sure ≠ A.t__law_planted) (q : ∀ H', Q (.bl true) H') :
    R_law_7 K A { nx := fun _ H' => Q .non H', rt := Q } [some (.ref a), some (.int b), some (.int k), some (.ref p), some (.int l), some (.ref R), x6, x7, x8] G := by
  refine .inl (.inl ⟨_, SqL.of hR, _, rfl, by omega, by simp; omega, ?_⟩)
  have hn : (((ps.map V.ref).length : Nat) : Int).toNat = ps.length := by simp
  rw [hn]
  refine for_range (fun i σ H' => ∃ x6, σ = [some (.ref a), some (.int b), some (.int k), some (.ref p), some (.int l), some (.ref R), x6, x7, x8] ∧ (∀ x o, G x = some o → (∀ ps, o ≠ .tbl ps) → H' x = some o) ∧ TabS A H' ∧ TabP A H') ⟨x6, rfl, fun _ _ h _ => h, ts, tp⟩ ?_ ?_
  · rintro i σ H' hi ⟨y6, rfl, kn, ts', tp'⟩
    have kt : ∀ x xs, G x = some (.tup xs) → H' x = some (.tup xs) := fun x xs z => kn _ _ z fun _ y => nomatch y
    have hR' := kn _ _ hR (fun _ z => nomatch z)
    have hs' : SqL K H' a (ns.map V.int) := by
      rcases hs with (h | ⟨o, h⟩) | h
      · exact .inl (.inl (kn _ _ h (fun _ z => nomatch z)))
      · exact .inl (.inr ⟨o, kn _ _ h (fun _ z => nomatch z)⟩)
      · exact .inr h
    obtain ⟨p1, hp1, at1⟩ := at_prev hi
    obtain ⟨p2, hp2⟩ : ∃ p2, ps[i]? = some p2 := ⟨_, List.getElem?_eq_getElem hi⟩
    have ei : (0 : Int) + (i : Int) = (i : Int) := by omega
    rw [← ei] at at1
    obtain ⟨st, e, w1, g1, e1⟩ := (rows p1 hp1).keep kt
    obtain ⟨su, o, w2, g2, e2⟩ := (rows p2 (List.mem_of_getElem? hp2)).keep kt
    refine .inl (.inl ⟨R, _, 0 + (i : Int) - 1, .ref p1, rfl, rfl, SqL.of hR', at1, ?_⟩)
    refine ixL (j := i) hR' (by omega) (by rw [List.getElem?_map, hp2]; rfl) ⟨a, ns, 3, rfl, hs', by decide, fun z H2 S2 => ⟨⟨by decide, by decide⟩, ?_⟩⟩
    refine ⟨b, k, l, _, p, .ref p1, .ref p2, fi, st, su, e, o, rfl, (wf.keepT kt (tup_steps fi)).mono S2, gf, hl, w1.keep (fun _ _ h => S2 _ _ h), g1, e1, w2.keep (fun _ _ h => S2 _ _ h), g2, e2, ts'.same S2, tp'.same S2, tn, fun H3 kn3 ts3 tp3 => Sel.no rfl ?_⟩
    exact ⟨_, rfl, fun x o z nt => kn3 _ _ (S2 _ _ (kn _ _ z nt)) nt, ts3, tp3⟩
  · rintro σ H' ⟨y6, rfl, kn, ts', tp'⟩
    exact q H'
theorem law6 {Q : VK} {G0 G : Hp} {a p R : Addr} {b k l : Int} {ns : List Int} {fi : List (Int × Key)} (b1 : 1 ≤ b) (b60 : b ≤ 60) (k0 : 0 ≤ k) (k1 : k < 2 ^ b.toNat) (hs : SqL K G0 a (ns.map V.int)) (hlen : ns.length ≤ 63) (wf : DatW G0 (.ref p) (.tup (fi.map stD))) (gf : goodSteps b 0 (fi.map stD)) (hl : l = placeFrom 0 (fi.map stD)) (S0 : Same G0 G) (hRn : G0 R = none) (hR : G R = some (.lst []))
    (ts : TabS A G0) (tp : TabP A G0) (tn : A.t__law_sure ≠ A.t__law_planted) (q : ∀ H', Q (.bl true) H') :
    R_law_6 K A { nx := fun _ H' => Q .non H', rt := Q } [some (.ref a), some (.int b), some (.int k), some (.ref p), some (.int l), some (.ref R), none, none, none] G := by
  have hpl := place_in b1 gf.1
  have l0 : 0 ≤ l := by omega
  have lb : l ≤ b := by omega
  refine .inl (.inl ⟨_, S0.seq hs, ⟨by decide, by decide⟩, ?_⟩)
  have nlen : (ns.map V.int).length = ns.length := by simp
  obtain ⟨N, hN, N0, N5⟩ : ∃ N : Int, N = 2 + (if (if (((ns.map V.int).length : Nat) : Int) - 8 > 0 then (((ns.map V.int).length : Nat) : Int) - 8 else 0) / 2 < 3 then (if (((ns.map V.int).length : Nat) : Int) - 8 > 0 then (((ns.map V.int).length : Nat) : Int) - 8 else 0) / 2 else 3) ∧ 0 ≤ N ∧ N ≤ 5 := ⟨_, rfl, by split <;> omega, by split <;> omega⟩
  refine ⟨_, rfl, ?_⟩
  rw [← hN]
  refine ⟨by omega, by omega, ?_⟩
  refine for_range (fun i σ H' => ∃ ps x6 x7 x8, σ = [some (.ref a), some (.int b), some (.int k), some (.ref p), some (.int l), some (.ref R), x6, x7, x8] ∧ Same G0 H' ∧ H' R = some (.lst (ps.map V.ref)) ∧ ps.length = i ∧ ∀ p ∈ ps, RestAt b k l H' p) ⟨[], none, none, none, rfl, S0, hR, rfl, fun _ h => nomatch h⟩ ?_ ?_
  · rintro i σ H' hi ⟨ps, y6, y7, y8, rfl, S, hR', hps, rows⟩
    have hi5 : i < 5 := by omega
    refine ⟨mulL (by decide) (by decide), a, ns, 4 + 2 * (0 + (i : Int)), rfl, S.seq hs, by omega, fun z1 H1 S1 => ⟨z1, l, b, rfl, l0, lb, b60, fun pt ds H2 S2 ws g => ?_⟩⟩
    have S2 := S1.trans S2
    obtain ⟨st, rfl⟩ := steps_form g.1
    have ph := place_hi lb g.1
    refine ⟨mulL (by decide) (by decide), a, ns, 5 + 2 * (0 + (i : Int)), rfl, (S.trans S2).seq hs, by omega, fun z2 H3 S3 => ⟨.ref pt, _, l, b, rfl, ws.mono S3, l0, g, fun H4 S4 => ?_⟩⟩
    refine ⟨z2, b, k, placeFrom l (st.map stD), rfl, by omega, ph.2, b1, b60, k0, k1, fun v d H5 S5 we ok dp hd he => ?_⟩
    obtain ⟨es, rfl⟩ := hd
    obtain ⟨e, rfl⟩ := ends_form he
    have S5' := S2.trans (S3.trans (S4.trans S5))
    have hR5 := S5' _ _ hR'
    refine ⟨.inl ⟨rfl, _, SqL.of hR5⟩, line_ge (n := 2) (by decide), fun p2 hp2 => ?_⟩
    have S6 := Same.upd (o := .tup [V.ref pt, v]) hp2
    refine ⟨R, _, .ref p2, rfl, rfl, S6 _ _ hR5, small1000 (by simp; omega), ?_⟩
    have kt : ∀ x xs, upd H5 p2 (.tup [V.ref pt, v]) x = some (.tup xs) → upd (upd H5 p2 (.tup [V.ref pt, v])) R (.lst (ps.map V.ref ++ [V.ref p2])) x = some (.tup xs) := fun x xs h => by
      rw [upd_ne (fun z => by subst z; rw [S6 _ _ hR5] at h; cases h)]; exact h
    have ml : ps.map V.ref ++ [V.ref p2] = (ps ++ [p2]).map V.ref := by simp
    rw [ml] at kt ⊢
    refine ⟨ps ++ [p2], _, _, _, rfl, fun x o h => ?_, upd_same, by simp; omega, fun r hr => ?_⟩
    · rw [upd_ne (ne_of_none h hRn)]; exact S6 _ _ (S5' _ _ (S _ _ h))
    · rcases List.mem_append.mp hr with z | z
      · exact ((rows r z).keep fun _ _ h => S6 _ _ (S5' _ _ h)).keep kt
      · rw [List.mem_singleton.mp z]
        refine RestAt.keep ⟨st, e, ⟨.tup upd_same (.cons (ws.mono ((S3.trans (S4.trans S5)).trans S6)) (.cons (we.mono S6) .nil)), b1, b60, k0, k1, ⟨steps_least l0 g.1, g.2⟩, ok, dp, _, by omega, he⟩, g, he⟩ kt
  · rintro σ H' ⟨ps, y6, y7, y8, rfl, S, hR', hps, rows⟩
    exact law7 (S.seq hs) (wf.mono S) gf hl hR' (by omega) rows (ts.same S) (tp.same S) tn q
theorem len_law (K : PySem.W.Frag) (A : Adr) : ∀ vs H Q E, sp_law K A vs H Q E → vs.length = 1 := by rintro vs H Q E ⟨a, ns, rfl, _⟩; rfl
theorem rd_law (T : Txt K mg A) (vs : List V) (H : Hp) (Q : VK) (E : XK) (h : sp_law K A vs H Q E) : T_law K A { nx := fun _ H' => Q .non H', rt := Q } (L2.start ["_law_script", "_law_bits_here", "_law_key_here", "_law_first", "_law_low", "_law_rests", "_law_k", "_law_steps_here", "_law_end_here"] vs) H := by
  obtain ⟨a, ns, rfl, hs, hlen, ⟨t1, t2, t3⟩, q⟩ := h
  have tn : A.t__law_sure ≠ A.t__law_planted := fun z => by simp [z] at t3
  have ts : TabS A H := ⟨_, t1, .inl rfl⟩
  have tp : TabP A H := ⟨_, t2, .inl rfl⟩
  refine ⟨a, ns, 0, rfl, hs, by decide, fun z0 H0 S0 => ⟨z0, rfl, fun b H1 S1 b1 b60 => ?_⟩⟩
  have S1 := S0.trans S1
  show R_law_1 K A _ [some (.ref a), some (.int b), none, none, none, none, none, none, none] H1
  refine ⟨a, ns, 1, rfl, S1.seq hs, by decide, fun z1 H2 S2 => ⟨line_ge (n := 0) (by decide), fun o ho => ⟨b, z1, o, [], rfl, b1, b60, upd_same, Nat.zero_le _, (fun _ h => nomatch h), fun k H3 S3 k0 k1 => ?_⟩⟩⟩
  have S3 := (S1.trans S2).trans ((Same.upd ho).trans S3)
  show R_law_2 K A _ [some (.ref a), some (.int b), some (.int k), none, none, none, none, none, none] H3
  refine ⟨a, ns, 2, rfl, S3.seq hs, by decide, fun z2 H4 S4 => ⟨z2, 0, b, rfl, by decide, by omega, b60, fun ps ds H5 S5 ws g => ?_⟩⟩
  have S5 := S3.trans (S4.trans S5)
  show R_law_3 K A _ [some (.ref a), some (.int b), some (.int k), some (.ref ps), none, none, none, none, none] H5
  obtain ⟨xs, hx, rx⟩ : ∃ xs, H5 ps = some (.tup xs) ∧ DatWs H5 xs ds := by
    cases ws with
    | @tup _ xs _ hh r => exact ⟨xs, hh, r⟩
  refine ⟨a, ns, 3, rfl, S5.seq hs, by decide, fun z3 H6 S6 => .inl (.inr (.inl ⟨xs, SqT.of (S6 _ _ hx), by omega, ?_⟩))⟩
  have r0 := Int.emod_nonneg z3 (b := (xs.length : Int) + 1) (by omega)
  have r1 := Int.emod_lt_of_pos z3 (b := (xs.length : Int) + 1) (by omega)
  obtain ⟨n, hn⟩ := Int.eq_ofNat_of_zero_le r0
  refine ⟨_, rfl, .inl (.inr ⟨ps, xs, rfl, S6 _ _ hx, fun pf H7 S7 hpf => ?_⟩)⟩
  have ec : cutV xs none (some (z3 % ((xs.length : Int) + 1))) = xs.take n := by
    unfold cutV
    rw [hn, HT.sIx_nat, HT.sIx_none, List.drop_zero]
    have : min n xs.length - 0 = n := by omega
    rw [this]
  rw [ec] at hpf
  have gt := steps_take n g
  have wt : DatW H7 (.ref pf) (.tup (ds.take n)) := .tup hpf ((rx.mono (S6.trans S7)).take n)
  obtain ⟨fi, hfi⟩ := steps_form gt.1
  rw [hfi] at gt wt
  have S7 := S5.trans (S6.trans S7)
  show R_law_4 K A _ [some (.ref a), some (.int b), some (.int k), some (.ref pf), none, none, none, none, none] H7
  refine ⟨.ref pf, _, 0, b, rfl, wt, by decide, gt, fun H8 S8 => ?_⟩
  have wt8 := wt.mono S8
  have S8 := S7.trans S8
  show R_law_5 K A _ [some (.ref a), some (.int b), some (.int k), some (.ref pf), some (.int (placeFrom 0 (fi.map stD))), none, none, none, none] H8
  refine ⟨line_ge (n := 0) (by decide), fun R hR => ?_⟩
  show R_law_6 K A _ [some (.ref a), some (.int b), some (.int k), some (.ref pf), some (.int (placeFrom 0 (fi.map stD))), some (.ref R), none, none, none] _
  exact law6 b1 b60 k0 k1 (S8.seq hs) hlen wt8 gt rfl (Same.upd hR) hR upd_same (ts.same S8) (tp.same S8) tn q
end Rs
namespace Rs
open PySem PySem.Spec PyProof.Rows L2
theorem ok__law_sure__c0 {P : Program} {w : World} {K : PySem.W.Frag} {mg : Str → Option Value} {base : Heap} {A : Adr} (T : Txt K mg A)  : CloOk P w K mg base 1 ct__law_sure__c0 (sp__law_sure__c0 K A) :=
  clo_of rfl sc__law_sure__c0 (fun f c cl Ar outer s H vs cvs Q E hr hl hc h => by
    obtain ⟨a0, rfl⟩ := L2.len1x hl
    obtain ⟨b0, b1, rfl⟩ := L2.len2x hc
    exact ⟨_, (tm__law_sure__c0 T  f c cl Ar outer s H E hr).nox, rd__law_sure__c0 T a0 b0 b1 H Q E h⟩)
theorem ok__law_planted__c0 {P : Program} {w : World} {K : PySem.W.Frag} {mg : Str → Option Value} {base : Heap} {A : Adr} (T : Txt K mg A) (HK1_0 : KindsOk P w K mg base 1 (Knd1_0 K A)) : CloOk P w K mg base 2 ct__law_planted__c0 (sp__law_planted__c0 K A) :=
  clo_of rfl sc__law_planted__c0 (fun f c cl Ar outer s H vs cvs Q E hr hl hc h => by
    obtain ⟨a0, rfl⟩ := L2.len1x hl
    obtain ⟨b0, b1, b2, rfl⟩ := L2.len3x hc
    exact ⟨_, (tm__law_planted__c0 T HK1_0 f c cl Ar outer s H E hr).nox, rd__law_planted__c0 T a0 b0 b1 b2 H Q E h⟩)
theorem ok__law_bits {P : Program} {w : World} {K : PySem.W.Frag} {mg : Str → Option Value} {base : Heap} {A : Adr} (T : Txt K mg A)  : FnOk P w K mg base (CX1 P w) 1 A.a__law_bits A.d__law_bits ["_law_cell"] (sp__law_bits K A) :=
  T.f__law_bits.okN sc__law_bits (len__law_bits K A) (fun cdv Ar outer s H vs Q E hr h => ⟨_, tm__law_bits T  cdv Ar outer s H E hr, rd__law_bits T vs H Q E h⟩)
theorem ok__law_at {P : Program} {w : World} {K : PySem.W.Frag} {mg : Str → Option Value} {base : Heap} {A : Adr} (T : Txt K mg A)  : FnOk P w K mg base (CX1 P w) 1 A.a__law_at A.d__law_at ["_law_script", "_law_k"] (sp__law_at K A) :=
  T.f__law_at.okN sc__law_at (len__law_at K A) (fun cdv Ar outer s H vs Q E hr h => ⟨_, tm__law_at T  cdv Ar outer s H E hr, rd__law_at T vs H Q E h⟩)
theorem ok__law_key {P : Program} {w : World} {K : PySem.W.Frag} {mg : Str → Option Value} {base : Heap} {A : Adr} (T : Txt K mg A)  : FnOk P w K mg base (CX1 P w) 1 A.a__law_key A.d__law_key ["_law_bits_here", "_law_cell", "_law_others"] (sp__law_key K A) :=
  T.f__law_key.okN sc__law_key (len__law_key K A) (fun cdv Ar outer s H vs Q E hr h => ⟨_, tm__law_key T  cdv Ar outer s H E hr, rd__law_key T vs H Q E h⟩)
theorem ok__law_mark {P : Program} {w : World} {K : PySem.W.Frag} {mg : Str → Option Value} {base : Heap} {A : Adr} (T : Txt K mg A)  : FnOk P w K mg base (CX1 P w) 1 A.a__law_mark A.d__law_mark ["_law_number_here"] (sp__law_mark K A) :=
  T.f__law_mark.okN sc__law_mark (len__law_mark K A) (fun cdv Ar outer s H vs Q E hr h => ⟨_, tm__law_mark T  cdv Ar outer s H E hr, rd__law_mark T vs H Q E h⟩)
theorem ok__law_steps {P : Program} {w : World} {K : PySem.W.Frag} {mg : Str → Option Value} {base : Heap} {A : Adr} (T : Txt K mg A) (G__law_mark : FnOk P w K mg base (CX1 P w) 1 A.a__law_mark A.d__law_mark ["_law_number_here"] (sp__law_mark K A)) : FnOk P w K mg base (CX1 P w) 2 A.a__law_steps A.d__law_steps ["_law_cell", "_law_low", "_law_bits_here"] (sp__law_steps K A) :=
  T.f__law_steps.okN sc__law_steps (len__law_steps K A) (fun cdv Ar outer s H vs Q E hr h => ⟨_, tm__law_steps T G__law_mark cdv Ar outer s H E hr, rd__law_steps T vs H Q E h⟩)
theorem ok__law_place {P : Program} {w : World} {K : PySem.W.Frag} {mg : Str → Option Value} {base : Heap} {A : Adr} (T : Txt K mg A)  : FnOk P w K mg base (CX1 P w) 1 A.a__law_place A.d__law_place ["_law_steps_here", "_law_low"] (sp__law_place K A) :=
  T.f__law_place.okN sc__law_place (len__law_place K A) (fun cdv Ar outer s H vs Q E hr h => ⟨_, tm__law_place T  cdv Ar outer s H E hr, rd__law_place T vs H Q E h⟩)
theorem ok__law_text {P : Program} {w : World} {K : PySem.W.Frag} {mg : Str → Option Value} {base : Heap} {A : Adr} (T : Txt K mg A)  : FnOk P w K mg base (CX1 P w) 1 A.a__law_text A.d__law_text ["_law_cell"] (sp__law_text K A) :=
  T.f__law_text.okN sc__law_text (len__law_text K A) (fun cdv Ar outer s H vs Q E hr h => ⟨_, tm__law_text T  cdv Ar outer s H E hr, rd__law_text T vs H Q E h⟩)
theorem ok__law_end {P : Program} {w : World} {K : PySem.W.Frag} {mg : Str → Option Value} {base : Heap} {A : Adr} (T : Txt K mg A) (G__law_mark : FnOk P w K mg base (CX1 P w) 1 A.a__law_mark A.d__law_mark ["_law_number_here"] (sp__law_mark K A)) (G__law_text : FnOk P w K mg base (CX1 P w) 1 A.a__law_text A.d__law_text ["_law_cell"] (sp__law_text K A)) : FnOk P w K mg base (CX1 P w) 2 A.a__law_end A.d__law_end ["_law_cell", "_law_bits_here", "_law_key_here", "_law_low"] (sp__law_end K A) :=
  T.f__law_end.okN sc__law_end (len__law_end K A) (fun cdv Ar outer s H vs Q E hr h => ⟨_, tm__law_end T G__law_mark G__law_text cdv Ar outer s H E hr, rd__law_end T vs H Q E h⟩)
theorem ok__law_sure {P : Program} {w : World} {K : PySem.W.Frag} {mg : Str → Option Value} {base : Heap} {A : Adr} (T : Txt K mg A) (B : BM mg base) (C : PySem.W.CodeHd base A.k__law_sure A.t__law_sure)  : FnOk P w K mg base (CX1 P w) 1 A.a__law_sure A.d__law_sure ["_law_first"] (sp__law_sure K A) :=
  T.f__law_sure.okM (caps := fun L => [(0, L + 1), (1, L + 1 + 1)]) T.kc__law_sure sc__law_sure (len__law_sure K A) (fun L p hp => by simp only [List.mem_cons, List.not_mem_nil, or_false] at hp; rcases hp with rfl | rfl <;> exact ⟨_, rfl, rfl, rfl⟩) (fun L => by simp) (fun Ar outer s H vs Q E hr h => ⟨_, QMs.nox (tm__law_sure T B C  Ar outer s H E hr), rd__law_sure T (s.heap.objs.size + 1) (s.heap.objs.size + 1 + 1) (by simp) vs H Q E h⟩)
theorem ok__law_terms {P : Program} {w : World} {K : PySem.W.Frag} {mg : Str → Option Value} {base : Heap} {A : Adr} (T : Txt K mg A) (HK1 : KindsOk P w K mg base 2 (Knd1 K A)) : FnOk P w K mg base (CX1 P w) 3 A.a__law_terms A.d__law_terms ["_law_stamper", "_law_bits_here", "_law_key_here", "_law_slip"] (sp__law_terms K A) :=
  T.f__law_terms.okN sc__law_terms (len__law_terms K A) (fun cdv Ar outer s H vs Q E hr h => ⟨_, tm__law_terms T HK1 cdv Ar outer s H E hr, rd__law_terms T vs H Q E h⟩)
theorem ok__law_planted {P : Program} {w : World} {K : PySem.W.Frag} {mg : Str → Option Value} {base : Heap} {A : Adr} (T : Txt K mg A) (B : BM mg base) (C : PySem.W.CodeHd base A.k__law_planted A.t__law_planted)  : FnOk P w K mg base (CX1 P w) 1 A.a__law_planted A.d__law_planted ["_law_sure_one", "_law_one", "_law_other"] (sp__law_planted K A) :=
  T.f__law_planted.okM (caps := fun L => [(0, L + 1), (1, L + 1 + 1), (2, L + 1 + 1 + 1)]) T.kc__law_planted sc__law_planted (len__law_planted K A) (fun L p hp => by simp only [List.mem_cons, List.not_mem_nil, or_false] at hp; rcases hp with rfl | rfl | rfl <;> exact ⟨_, rfl, rfl, rfl⟩) (fun L => by simp) (fun Ar outer s H vs Q E hr h => ⟨_, QMs.nox (tm__law_planted T B C  Ar outer s H E hr), rd__law_planted T (s.heap.objs.size + 1) (s.heap.objs.size + 1 + 1) (s.heap.objs.size + 1 + 1 + 1) (by simp) vs H Q E h⟩)
theorem ok__law_part_alike {P : Program} {w : World} {K : PySem.W.Frag} {mg : Str → Option Value} {base : Heap} {A : Adr} (T : Txt K mg A)  : FnOk P w K mg base (CX1 P w) 1 A.a__law_part_alike A.d__law_part_alike ["_law_found", "_law_due"] (sp__law_part_alike K A) :=
  T.f__law_part_alike.okN sc__law_part_alike (len__law_part_alike K A) (fun cdv Ar outer s H vs Q E hr h => ⟨_, tm__law_part_alike T  cdv Ar outer s H E hr, rd__law_part_alike T vs H Q E h⟩)
theorem ok_is_whole {P : Program} {w : World} {K : PySem.W.Frag} {mg : Str → Option Value} {base : Heap} {A : Adr} (T : Txt K mg A)  : FnOk P w K mg base (CX1 P w) 1 A.a_is_whole A.d_is_whole ["thing"] (sp_is_whole K A) :=
  T.f_is_whole.okN sc_is_whole (len_is_whole K A) (fun cdv Ar outer s H vs Q E hr h => ⟨_, tm_is_whole T  cdv Ar outer s H E hr, rd_is_whole T vs H Q E h⟩)
theorem ok_is_key {P : Program} {w : World} {K : PySem.W.Frag} {mg : Str → Option Value} {base : Heap} {A : Adr} (T : Txt K mg A) (G_is_whole : FnOk P w K mg base (CX1 P w) 1 A.a_is_whole A.d_is_whole ["thing"] (sp_is_whole K A)) : FnOk P w K mg base (CX1 P w) 2 A.a_is_key A.d_is_key ["bits", "thing"] (sp_is_key K A) :=
  T.f_is_key.okN sc_is_key (len_is_key K A) (fun cdv Ar outer s H vs Q E hr h => ⟨_, tm_is_key T G_is_whole cdv Ar outer s H E hr, rd_is_key T vs H Q E h⟩)
theorem ok_is_stamp {P : Program} {w : World} {K : PySem.W.Frag} {mg : Str → Option Value} {base : Heap} {A : Adr} (T : Txt K mg A) (G_is_whole : FnOk P w K mg base (CX1 P w) 1 A.a_is_whole A.d_is_whole ["thing"] (sp_is_whole K A)) : FnOk P w K mg base (CX1 P w) 2 A.a_is_stamp A.d_is_stamp ["thing"] (sp_is_stamp K A) :=
  T.f_is_stamp.okN sc_is_stamp (len_is_stamp K A) (fun cdv Ar outer s H vs Q E hr h => ⟨_, tm_is_stamp T G_is_whole cdv Ar outer s H E hr, rd_is_stamp T vs H Q E h⟩)
theorem ok_is_step {P : Program} {w : World} {K : PySem.W.Frag} {mg : Str → Option Value} {base : Heap} {A : Adr} (T : Txt K mg A) (G_is_whole : FnOk P w K mg base (CX1 P w) 1 A.a_is_whole A.d_is_whole ["thing"] (sp_is_whole K A)) (G_is_stamp : FnOk P w K mg base (CX1 P w) 2 A.a_is_stamp A.d_is_stamp ["thing"] (sp_is_stamp K A)) : FnOk P w K mg base (CX1 P w) 3 A.a_is_step A.d_is_step ["bits", "least", "thing"] (sp_is_step K A) :=
  T.f_is_step.okN sc_is_step (len_is_step K A) (fun cdv Ar outer s H vs Q E hr h => ⟨_, tm_is_step T G_is_whole G_is_stamp cdv Ar outer s H E hr, rd_is_step T vs H Q E h⟩)
theorem ok_are_steps {P : Program} {w : World} {K : PySem.W.Frag} {mg : Str → Option Value} {base : Heap} {A : Adr} (T : Txt K mg A) (G_is_step : FnOk P w K mg base (CX1 P w) 3 A.a_is_step A.d_is_step ["bits", "least", "thing"] (sp_is_step K A)) : FnOk P w K mg base (CX1 P w) 4 A.a_are_steps A.d_are_steps ["bits", "thing"] (sp_are_steps K A) :=
  T.f_are_steps.okN sc_are_steps (len_are_steps K A) (fun cdv Ar outer s H vs Q E hr h => ⟨_, tm_are_steps T G_is_step cdv Ar outer s H E hr, rd_are_steps T vs H Q E h⟩)
theorem ok_start {P : Program} {w : World} {K : PySem.W.Frag} {mg : Str → Option Value} {base : Heap} {A : Adr} (T : Txt K mg A)  : FnOk P w K mg base (CX1 P w) 1 A.a_start A.d_start ["bits", "key", "depth"] (sp_start K A) :=
  T.f_start.okN sc_start (len_start K A) (fun cdv Ar outer s H vs Q E hr h => ⟨_, tm_start T  cdv Ar outer s H E hr, rd_start T vs H Q E h⟩)
theorem ok_is_value {P : Program} {w : World} {K : PySem.W.Frag} {mg : Str → Option Value} {base : Heap} {A : Adr} (T : Txt K mg A)  : FnOk P w K mg base (CX1 P w) 1 A.a_is_value A.d_is_value ["thing"] (sp_is_value K A) :=
  T.f_is_value.okN sc_is_value (len_is_value K A) (fun cdv Ar outer s H vs Q E hr h => ⟨_, tm_is_value T  cdv Ar outer s H E hr, rd_is_value T vs H Q E h⟩)
theorem ok_is_leaf {P : Program} {w : World} {K : PySem.W.Frag} {mg : Str → Option Value} {base : Heap} {A : Adr} (T : Txt K mg A) (G_is_key : FnOk P w K mg base (CX1 P w) 2 A.a_is_key A.d_is_key ["bits", "thing"] (sp_is_key K A)) (G_is_value : FnOk P w K mg base (CX1 P w) 1 A.a_is_value A.d_is_value ["thing"] (sp_is_value K A)) (G_start : FnOk P w K mg base (CX1 P w) 1 A.a_start A.d_start ["bits", "key", "depth"] (sp_start K A)) : FnOk P w K mg base (CX1 P w) 3 A.a_is_leaf A.d_is_leaf ["bits", "depth", "begin", "thing"] (sp_is_leaf K A) :=
  T.f_is_leaf.okN sc_is_leaf (len_is_leaf K A) (fun cdv Ar outer s H vs Q E hr h => ⟨_, tm_is_leaf T G_is_key G_is_value G_start cdv Ar outer s H E hr, rd_is_leaf T vs H Q E h⟩)
theorem ok_is_fork {P : Program} {w : World} {K : PySem.W.Frag} {mg : Str → Option Value} {base : Heap} {A : Adr} (T : Txt K mg A) (G_is_whole : FnOk P w K mg base (CX1 P w) 1 A.a_is_whole A.d_is_whole ["thing"] (sp_is_whole K A)) : FnOk P w K mg base (CX1 P w) 2 A.a_is_fork A.d_is_fork ["bits", "depth", "begin", "thing"] (sp_is_fork K A) :=
  T.f_is_fork.okN sc_is_fork (len_is_fork K A) (fun cdv Ar outer s H vs Q E hr h => ⟨_, tm_is_fork T G_is_whole cdv Ar outer s H E hr, rd_is_fork T vs H Q E h⟩)
theorem ok_is_end {P : Program} {w : World} {K : PySem.W.Frag} {mg : Str → Option Value} {base : Heap} {A : Adr} (T : Txt K mg A) (G_start : FnOk P w K mg base (CX1 P w) 1 A.a_start A.d_start ["bits", "key", "depth"] (sp_start K A)) (G_is_leaf : FnOk P w K mg base (CX1 P w) 3 A.a_is_leaf A.d_is_leaf ["bits", "depth", "begin", "thing"] (sp_is_leaf K A)) (G_is_fork : FnOk P w K mg base (CX1 P w) 2 A.a_is_fork A.d_is_fork ["bits", "depth", "begin", "thing"] (sp_is_fork K A)) (G_is_stamp : FnOk P w K mg base (CX1 P w) 2 A.a_is_stamp A.d_is_stamp ["thing"] (sp_is_stamp K A)) : FnOk P w K mg base (CX1 P w) 4 A.a_is_end A.d_is_end ["bits", "key", "place", "thing"] (sp_is_end K A) :=
  T.f_is_end.okN sc_is_end (len_is_end K A) (fun cdv Ar outer s H vs Q E hr h => ⟨_, tm_is_end T G_start G_is_leaf G_is_fork G_is_stamp cdv Ar outer s H E hr, rd_is_end T vs H Q E h⟩)
theorem ok_is_slip {P : Program} {w : World} {K : PySem.W.Frag} {mg : Str → Option Value} {base : Heap} {A : Adr} (T : Txt K mg A) (G_are_steps : FnOk P w K mg base (CX1 P w) 4 A.a_are_steps A.d_are_steps ["bits", "thing"] (sp_are_steps K A)) (G_is_end : FnOk P w K mg base (CX1 P w) 4 A.a_is_end A.d_is_end ["bits", "key", "place", "thing"] (sp_is_end K A)) : FnOk P w K mg base (CX1 P w) 5 A.a_is_slip A.d_is_slip ["bits", "key", "thing"] (sp_is_slip K A) :=
  T.f_is_slip.okN sc_is_slip (len_is_slip K A) (fun cdv Ar outer s H vs Q E hr h => ⟨_, tm_is_slip T G_are_steps G_is_end cdv Ar outer s H E hr, rd_is_slip T vs H Q E h⟩)
theorem ok_side {P : Program} {w : World} {K : PySem.W.Frag} {mg : Str → Option Value} {base : Heap} {A : Adr} (T : Txt K mg A)  : FnOk P w K mg base (CX1 P w) 1 A.a_side A.d_side ["bits", "key", "depth"] (sp_side K A) :=
  T.f_side.okN sc_side (len_side K A) (fun cdv Ar outer s H vs Q E hr h => ⟨_, tm_side T  cdv Ar outer s H E hr, rd_side T vs H Q E h⟩)
theorem ok_step_term {P : Program} {w : World} {K : PySem.W.Frag} {mg : Str → Option Value} {base : Heap} {A : Adr} (T : Txt K mg A) (G_start : FnOk P w K mg base (CX1 P w) 1 A.a_start A.d_start ["bits", "key", "depth"] (sp_start K A)) (G_side : FnOk P w K mg base (CX1 P w) 1 A.a_side A.d_side ["bits", "key", "depth"] (sp_side K A)) : FnOk P w K mg base (CX1 P w) 2 A.a_step_term A.d_step_term ["bits", "key", "step", "mark"] (sp_step_term K A) :=
  T.f_step_term.okN sc_step_term (len_step_term K A) (fun cdv Ar outer s H vs Q E hr h => ⟨_, tm_step_term T G_start G_side cdv Ar outer s H E hr, rd_step_term T vs H Q E h⟩)
theorem ok_slip_terms {P : Program} {w : World} {K : PySem.W.Frag} {mg : Str → Option Value} {base : Heap} {A : Adr} (T : Txt K mg A) (G_is_key : FnOk P w K mg base (CX1 P w) 2 A.a_is_key A.d_is_key ["bits", "thing"] (sp_is_key K A)) (G_is_slip : FnOk P w K mg base (CX1 P w) 5 A.a_is_slip A.d_is_slip ["bits", "key", "thing"] (sp_is_slip K A)) (G_step_term : FnOk P w K mg base (CX1 P w) 2 A.a_step_term A.d_step_term ["bits", "key", "step", "mark"] (sp_step_term K A)) (HK1 : KindsOk P w K mg base 2 (Knd1 K A)) : FnOk P w K mg base (CX1 P w) 6 A.a_slip_terms A.d_slip_terms ["stamper", "bits", "key", "slip"] (sp_slip_terms K A) :=
  T.f_slip_terms.okN sc_slip_terms (len_slip_terms K A) (fun cdv Ar outer s H vs Q E hr h => ⟨_, tm_slip_terms T G_is_key G_is_slip G_step_term HK1 cdv Ar outer s H E hr, rd_slip_terms T vs H Q E h⟩)
theorem ok_slip_mark {P : Program} {w : World} {K : PySem.W.Frag} {mg : Str → Option Value} {base : Heap} {A : Adr} (T : Txt K mg A) (G_slip_terms : FnOk P w K mg base (CX1 P w) 6 A.a_slip_terms A.d_slip_terms ["stamper", "bits", "key", "slip"] (sp_slip_terms K A)) (HK1 : KindsOk P w K mg base 2 (Knd1 K A)) : FnOk P w K mg base (CX1 P w) 7 A.a_slip_mark A.d_slip_mark ["stamper", "bits", "key", "slip"] (sp_slip_mark K A) :=
  T.f_slip_mark.okN sc_slip_mark (len_slip_mark K A) (fun cdv Ar outer s H vs Q E hr h => ⟨_, tm_slip_mark T G_slip_terms HK1 cdv Ar outer s H E hr, rd_slip_mark T vs H Q E h⟩)
theorem ok__law_same {P : Program} {w : World} {K : PySem.W.Frag} {mg : Str → Option Value} {base : Heap} {A : Adr} (T : Txt K mg A)  : FnOk P w K mg base (CX1 P w) 1 A.a__law_same A.d__law_same ["_law_found", "_law_due"] (sp__law_same K A) :=
  T.f__law_same.okN sc__law_same (len__law_same K A) (fun cdv Ar outer s H vs Q E hr h => ⟨_, tm__law_same T  cdv Ar outer s H E hr, rd__law_same T vs H Q E h⟩)
theorem ok_slip_value {P : Program} {w : World} {K : PySem.W.Frag} {mg : Str → Option Value} {base : Heap} {A : Adr} (T : Txt K mg A)  : FnOk P w K mg base (CX1 P w) 1 A.a_slip_value A.d_slip_value ["key", "slip"] (sp_slip_value K A) :=
  T.f_slip_value.okN sc_slip_value (len_slip_value K A) (fun cdv Ar outer s H vs Q E hr h => ⟨_, tm_slip_value T  cdv Ar outer s H E hr, rd_slip_value T vs H Q E h⟩)
theorem ok_slip_answer {P : Program} {w : World} {K : PySem.W.Frag} {mg : Str → Option Value} {base : Heap} {A : Adr} (T : Txt K mg A) (G_slip_mark : FnOk P w K mg base (CX1 P w) 7 A.a_slip_mark A.d_slip_mark ["stamper", "bits", "key", "slip"] (sp_slip_mark K A)) (G_slip_value : FnOk P w K mg base (CX1 P w) 1 A.a_slip_value A.d_slip_value ["key", "slip"] (sp_slip_value K A)) : FnOk P w K mg base (CX1 P w) 8 A.a_slip_answer A.d_slip_answer ["stamper", "bits", "mark", "key", "slip"] (sp_slip_answer K A) :=
  T.f_slip_answer.okN sc_slip_answer (len_slip_answer K A) (fun cdv Ar outer s H vs Q E hr h => ⟨_, tm_slip_answer T G_slip_mark G_slip_value cdv Ar outer s H E hr, rd_slip_answer T vs H Q E h⟩)
theorem ok__law_told {P : Program} {w : World} {K : PySem.W.Frag} {mg : Str → Option Value} {base : Heap} {A : Adr} (T : Txt K mg A)  : FnOk P w K mg base (CX1 P w) 1 A.a__law_told A.d__law_told ["_law_key_here", "_law_slip"] (sp__law_told K A) :=
  T.f__law_told.okN sc__law_told (len__law_told K A) (fun cdv Ar outer s H vs Q E hr h => ⟨_, tm__law_told T  cdv Ar outer s H E hr, rd__law_told T vs H Q E h⟩)
theorem ok_clash {P : Program} {w : World} {K : PySem.W.Frag} {mg : Str → Option Value} {base : Heap} {A : Adr} (T : Txt K mg A) (HK1 : KindsOk P w K mg base 2 (Knd1 K A)) : FnOk P w K mg base (CX1 P w) 3 A.a_clash A.d_clash ["stamper", "terms"] (sp_clash K A) :=
  T.f_clash.okN sc_clash (len_clash K A) (fun cdv Ar outer s H vs Q E hr h => ⟨_, tm_clash T HK1 cdv Ar outer s H E hr, rd_clash T vs H Q E h⟩)
theorem ok__law_term_alike {P : Program} {w : World} {K : PySem.W.Frag} {mg : Str → Option Value} {base : Heap} {A : Adr} (T : Txt K mg A) (G__law_part_alike : FnOk P w K mg base (CX1 P w) 1 A.a__law_part_alike A.d__law_part_alike ["_law_found", "_law_due"] (sp__law_part_alike K A)) : FnOk P w K mg base (CX1 P w) 2 A.a__law_term_alike A.d__law_term_alike ["_law_found", "_law_due"] (sp__law_term_alike K A) :=
  T.f__law_term_alike.okN sc__law_term_alike (len__law_term_alike K A) (fun cdv Ar outer s H vs Q E hr h => ⟨_, tm__law_term_alike T G__law_part_alike cdv Ar outer s H E hr, rd__law_term_alike T vs H Q E h⟩)
theorem ok__law_pair_right {P : Program} {w : World} {K : PySem.W.Frag} {mg : Str → Option Value} {base : Heap} {A : Adr} (T : Txt K mg A) (G__law_sure : FnOk P w K mg base (CX1 P w) 1 A.a__law_sure A.d__law_sure ["_law_first"] (sp__law_sure K A)) (G__law_terms : FnOk P w K mg base (CX1 P w) 3 A.a__law_terms A.d__law_terms ["_law_stamper", "_law_bits_here", "_law_key_here", "_law_slip"] (sp__law_terms K A)) (G__law_planted : FnOk P w K mg base (CX1 P w) 1 A.a__law_planted A.d__law_planted ["_law_sure_one", "_law_one", "_law_other"] (sp__law_planted K A)) (G__law_part_alike : FnOk P w K mg base (CX1 P w) 1 A.a__law_part_alike A.d__law_part_alike ["_law_found", "_law_due"] (sp__law_part_alike K A)) (G_slip_mark : FnOk P w K mg base (CX1 P w) 7 A.a_slip_mark A.d_slip_mark ["stamper", "bits", "key", "slip"] (sp_slip_mark K A)) (G__law_same : FnOk P w K mg base (CX1 P w) 1 A.a__law_same A.d__law_same ["_law_found", "_law_due"] (sp__law_same K A)) (G_slip_answer : FnOk P w K mg base (CX1 P w) 8 A.a_slip_answer A.d_slip_answer ["stamper", "bits", "mark", "key", "slip"] (sp_slip_answer K A)) (G__law_told : FnOk P w K mg base (CX1 P w) 1 A.a__law_told A.d__law_told ["_law_key_here", "_law_slip"] (sp__law_told K A)) (G_clash : FnOk P w K mg base (CX1 P w) 3 A.a_clash A.d_clash ["stamper", "terms"] (sp_clash K A)) (G_slip_terms : FnOk P w K mg base (CX1 P w) 6 A.a_slip_terms A.d_slip_terms ["stamper", "bits", "key", "slip"] (sp_slip_terms K A)) (G__law_term_alike : FnOk P w K mg base (CX1 P w) 2 A.a__law_term_alike A.d__law_term_alike ["_law_found", "_law_due"] (sp__law_term_alike K A)) (HK1 : KindsOk P w K mg base 2 (Knd1 K A)) : FnOk P w K mg base (CX1 P w) 9 A.a__law_pair_right A.d__law_pair_right ["_law_bits_here", "_law_key_here", "_law_first", "_law_ones", "_law_others", "_law_number_here"] (sp__law_pair_right K A) :=
  T.f__law_pair_right.okN sc__law_pair_right (len__law_pair_right K A) (fun cdv Ar outer s H vs Q E hr h => ⟨_, tm__law_pair_right T G__law_sure G__law_terms G__law_planted G__law_part_alike G_slip_mark G__law_same G_slip_answer G__law_told G_clash G_slip_terms G__law_term_alike HK1 cdv Ar outer s H E hr, rd__law_pair_right T vs H Q E h⟩)
theorem ok_law {P : Program} {w : World} {K : PySem.W.Frag} {mg : Str → Option Value} {base : Heap} {A : Adr} (T : Txt K mg A) (G__law_bits : FnOk P w K mg base (CX1 P w) 1 A.a__law_bits A.d__law_bits ["_law_cell"] (sp__law_bits K A)) (G__law_at : FnOk P w K mg base (CX1 P w) 1 A.a__law_at A.d__law_at ["_law_script", "_law_k"] (sp__law_at K A)) (G__law_key : FnOk P w K mg base (CX1 P w) 1 A.a__law_key A.d__law_key ["_law_bits_here", "_law_cell", "_law_others"] (sp__law_key K A)) (G__law_steps : FnOk P w K mg base (CX1 P w) 2 A.a__law_steps A.d__law_steps ["_law_cell", "_law_low", "_law_bits_here"] (sp__law_steps K A)) (G__law_place : FnOk P w K mg base (CX1 P w) 1 A.a__law_place A.d__law_place ["_law_steps_here", "_law_low"] (sp__law_place K A)) (G__law_end : FnOk P w K mg base (CX1 P w) 2 A.a__law_end A.d__law_end ["_law_cell", "_law_bits_here", "_law_key_here", "_law_low"] (sp__law_end K A)) (G__law_pair_right : FnOk P w K mg base (CX1 P w) 9 A.a__law_pair_right A.d__law_pair_right ["_law_bits_here", "_law_key_here", "_law_first", "_law_ones", "_law_others", "_law_number_here"] (sp__law_pair_right K A)) : FnOk P w K mg base (CX1 P w) 10 A.a_law A.d_law ["_law_script"] (sp_law K A) :=
  T.f_law.okN sc_law (len_law K A) (fun cdv Ar outer s H vs Q E hr h => ⟨_, tm_law T G__law_bits G__law_at G__law_key G__law_steps G__law_place G__law_end G__law_pair_right cdv Ar outer s H E hr, rd_law T vs H Q E h⟩)
theorem kinds1_0 {P : Program} {w : World} {K : PySem.W.Frag} {mg : Str → Option Value} {base : Heap} {A : Adr} (G__law_sure__c0 : CloOk P w K mg base 1 ct__law_sure__c0 (sp__law_sure__c0 K A)) : KindsOk P w K mg base 1 (Knd1_0 K A) := fun ts hts => by
  simp only [Knd1_0, List.mem_cons, List.not_mem_nil, or_false] at hts
  rcases hts with rfl
  · exact G__law_sure__c0
theorem kinds1 {P : Program} {w : World} {K : PySem.W.Frag} {mg : Str → Option Value} {base : Heap} {A : Adr} (G__law_sure__c0 : CloOk P w K mg base 2 ct__law_sure__c0 (sp__law_sure__c0 K A)) (G__law_planted__c0 : CloOk P w K mg base 2 ct__law_planted__c0 (sp__law_planted__c0 K A)) : KindsOk P w K mg base 2 (Knd1 K A) := fun ts hts => by
  simp only [Knd1, List.mem_cons, List.not_mem_nil, or_false] at hts
  rcases hts with rfl | rfl
  · exact G__law_sure__c0
  · exact G__law_planted__c0
theorem all_mk {l : PySem.W.OpenLaw} {w : World} {K : PySem.W.Frag} {h : Heap} {mg : Str → Option Value} {fa : Addr} (X : K.In h) (G : h.Ns mainGlobals mg) (hfa : mg "law" = some (.ref fa))
    {x__law_bits x__law_at x__law_key x__law_mark x__law_steps x__law_place x__law_text x__law_end x__law_sure x__law_terms x__law_planted x__law_part_alike x_is_whole x_is_key x_is_stamp x_is_step x_are_steps x_start x_is_value x_is_leaf x_is_fork x_is_end x_is_slip x_side x_step_term x_slip_terms x_slip_mark x__law_same x_slip_value x_slip_answer x__law_told x_clash x__law_term_alike x__law_pair_right x_law : Addr} {od0 an0 od1 an1 od2 an2 od3 an3 od4 an4 od5 an5 od6 an6 od7 an7 od8 an8 od9 an9 od10 an10 od11 an11 od12 an12 od13 an13 od14 an14 od15 an15 od16 an16 od17 an17 od18 an18 od19 an19 od20 an20 od21 an21 od22 an22 od23 an23 od24 an24 od25 an25 od26 an26 od27 an27 od28 an28 od29 an29 od30 an30 od31 an31 od32 an32 od33 an33 od34 an34 : Option Addr} {sl0 sl1 sl2 sl3 sl4 sl5 sl6 sl7 sl8 sl9 sl10 sl11 sl12 sl13 sl14 sl15 sl16 sl17 sl18 sl19 sl20 sl21 sl22 sl23 sl24 sl25 sl26 sl27 sl28 sl29 sl30 sl31 sl32 sl33 sl34 : Array (Option Value)} {oc0 kV0 dc0 pm0 cd0 ct0 oc1 kV1 dc1 pm1 cd1 ct1 oc2 kV2 dc2 pm2 cd2 ct2 oc3 kV3 dc3 pm3 cd3 ct3 oc4 kV4 dc4 pm4 cd4 ct4 oc5 kV5 dc5 pm5 cd5 ct5 oc6 kV6 dc6 pm6 cd6 ct6 oc7 kV7 dc7 pm7 cd7 ct7 oc8 kV8 dc8 pm8 cd8 ct8 oc9 kV9 dc9 pm9 cd9 ct9 oc10 kV10 dc10 pm10 cd10 ct10 oc11 kV11 dc11 pm11 cd11 ct11 oc12 kV12 dc12 pm12 cd12 ct12 oc13 kV13 dc13 pm13 cd13 ct13 oc14 kV14 dc14 pm14 cd14 ct14 oc15 kV15 dc15 pm15 cd15 ct15 oc16 kV16 dc16 pm16 cd16 ct16 oc17 kV17 dc17 pm17 cd17 ct17 oc18 kV18 dc18 pm18 cd18 ct18 oc19 kV19 dc19 pm19 cd19 ct19 oc20 kV20 dc20 pm20 cd20 ct20 oc21 kV21 dc21 pm21 cd21 ct21 oc22 kV22 dc22 pm22 cd22 ct22 oc23 kV23 dc23 pm23 cd23 ct23 oc24 kV24 dc24 pm24 cd24 ct24 oc25 kV25 dc25 pm25 cd25 ct25 oc26 kV26 dc26 pm26 cd26 ct26 oc27 kV27 dc27 pm27 cd27 ct27 oc28 kV28 dc28 pm28 cd28 ct28 oc29 kV29 dc29 pm29 cd29 ct29 oc30 kV30 dc30 pm30 cd30 ct30 oc31 kV31 dc31 pm31 cd31 ct31 oc32 kV32 dc32 pm32 cd32 ct32 oc33 kV33 dc33 pm33 cd33 ct33 oc34 kV34 dc34 pm34 cd34 ct34 : Value} {tc0 : Tok}
    (a0 : PySem.W.nsIn K mainGlobals "_law_bits" = some (some (.ref x__law_bits))) (l0 : K.lookup x__law_bits = some ⟨oc0, od0, .func (PySem.W.fnOf "_law_bits" "_law_bits" (defArgs s__law_bits) (defBody s__law_bits) (defScope s__law_bits) .none kV0 dc0 pm0 an0 cd0 ct0), sl0⟩) (c0 : PySem.W.codeIn K cd0 "_law_bits" = true) (k0 : PySem.W.keepIn K (.ref x__law_bits) = true)
    (a1 : PySem.W.nsIn K mainGlobals "_law_at" = some (some (.ref x__law_at))) (l1 : K.lookup x__law_at = some ⟨oc1, od1, .func (PySem.W.fnOf "_law_at" "_law_at" (defArgs s__law_at) (defBody s__law_at) (defScope s__law_at) .none kV1 dc1 pm1 an1 cd1 ct1), sl1⟩) (c1 : PySem.W.codeIn K cd1 "_law_at" = true) (k1 : PySem.W.keepIn K (.ref x__law_at) = true)
    (a2 : PySem.W.nsIn K mainGlobals "_law_key" = some (some (.ref x__law_key))) (l2 : K.lookup x__law_key = some ⟨oc2, od2, .func (PySem.W.fnOf "_law_key" "_law_key" (defArgs s__law_key) (defBody s__law_key) (defScope s__law_key) .none kV2 dc2 pm2 an2 cd2 ct2), sl2⟩) (c2 : PySem.W.codeIn K cd2 "_law_key" = true) (k2 : PySem.W.keepIn K (.ref x__law_key) = true)
    (a3 : PySem.W.nsIn K mainGlobals "_law_mark" = some (some (.ref x__law_mark))) (l3 : K.lookup x__law_mark = some ⟨oc3, od3, .func (PySem.W.fnOf "_law_mark" "_law_mark" (defArgs s__law_mark) (defBody s__law_mark) (defScope s__law_mark) .none kV3 dc3 pm3 an3 cd3 ct3), sl3⟩) (c3 : PySem.W.codeIn K cd3 "_law_mark" = true) (k3 : PySem.W.keepIn K (.ref x__law_mark) = true)
    (a4 : PySem.W.nsIn K mainGlobals "_law_steps" = some (some (.ref x__law_steps))) (l4 : K.lookup x__law_steps = some ⟨oc4, od4, .func (PySem.W.fnOf "_law_steps" "_law_steps" (defArgs s__law_steps) (defBody s__law_steps) (defScope s__law_steps) .none kV4 dc4 pm4 an4 cd4 ct4), sl4⟩) (c4 : PySem.W.codeIn K cd4 "_law_steps" = true) (k4 : PySem.W.keepIn K (.ref x__law_steps) = true)
    (a5 : PySem.W.nsIn K mainGlobals "_law_place" = some (some (.ref x__law_place))) (l5 : K.lookup x__law_place = some ⟨oc5, od5, .func (PySem.W.fnOf "_law_place" "_law_place" (defArgs s__law_place) (defBody s__law_place) (defScope s__law_place) .none kV5 dc5 pm5 an5 cd5 ct5), sl5⟩) (c5 : PySem.W.codeIn K cd5 "_law_place" = true) (k5 : PySem.W.keepIn K (.ref x__law_place) = true)
    (a6 : PySem.W.nsIn K mainGlobals "_law_text" = some (some (.ref x__law_text))) (l6 : K.lookup x__law_text = some ⟨oc6, od6, .func (PySem.W.fnOf "_law_text" "_law_text" (defArgs s__law_text) (defBody s__law_text) (defScope s__law_text) .none kV6 dc6 pm6 an6 cd6 ct6), sl6⟩) (c6 : PySem.W.codeIn K cd6 "_law_text" = true) (k6 : PySem.W.keepIn K (.ref x__law_text) = true)
    (a7 : PySem.W.nsIn K mainGlobals "_law_end" = some (some (.ref x__law_end))) (l7 : K.lookup x__law_end = some ⟨oc7, od7, .func (PySem.W.fnOf "_law_end" "_law_end" (defArgs s__law_end) (defBody s__law_end) (defScope s__law_end) .none kV7 dc7 pm7 an7 cd7 ct7), sl7⟩) (c7 : PySem.W.codeIn K cd7 "_law_end" = true) (k7 : PySem.W.keepIn K (.ref x__law_end) = true)
    (a8 : PySem.W.nsIn K mainGlobals "_law_sure" = some (some (.ref x__law_sure))) (l8 : K.lookup x__law_sure = some ⟨oc8, od8, .func (PySem.W.fnOf "_law_sure" "_law_sure" (defArgs s__law_sure) (defBody s__law_sure) (defScope s__law_sure) .none kV8 dc8 pm8 an8 cd8 ct8), sl8⟩) (c8 : PySem.W.codeIn K cd8 "_law_sure" = true) (k8 : PySem.W.keepIn K (.ref x__law_sure) = true)
    (tb__law_sure : (PySem.W.tabIn K "_law_sure").isSome = true)
    (a9 : PySem.W.nsIn K mainGlobals "_law_terms" = some (some (.ref x__law_terms))) (l9 : K.lookup x__law_terms = some ⟨oc9, od9, .func (PySem.W.fnOf "_law_terms" "_law_terms" (defArgs s__law_terms) (defBody s__law_terms) (defScope s__law_terms) .none kV9 dc9 pm9 an9 cd9 ct9), sl9⟩) (c9 : PySem.W.codeIn K cd9 "_law_terms" = true) (k9 : PySem.W.keepIn K (.ref x__law_terms) = true)
    (a10 : PySem.W.nsIn K mainGlobals "_law_planted" = some (some (.ref x__law_planted))) (l10 : K.lookup x__law_planted = some ⟨oc10, od10, .func (PySem.W.fnOf "_law_planted" "_law_planted" (defArgs s__law_planted) (defBody s__law_planted) (defScope s__law_planted) .none kV10 dc10 pm10 an10 cd10 ct10), sl10⟩) (c10 : PySem.W.codeIn K cd10 "_law_planted" = true) (k10 : PySem.W.keepIn K (.ref x__law_planted) = true)
    (tb__law_planted : (PySem.W.tabIn K "_law_planted").isSome = true)
    (a11 : PySem.W.nsIn K mainGlobals "_law_part_alike" = some (some (.ref x__law_part_alike))) (l11 : K.lookup x__law_part_alike = some ⟨oc11, od11, .func (PySem.W.fnOf "_law_part_alike" "_law_part_alike" (defArgs s__law_part_alike) (defBody s__law_part_alike) (defScope s__law_part_alike) .none kV11 dc11 pm11 an11 cd11 ct11), sl11⟩) (c11 : PySem.W.codeIn K cd11 "_law_part_alike" = true) (k11 : PySem.W.keepIn K (.ref x__law_part_alike) = true)
    (a12 : PySem.W.nsIn K mainGlobals "is_whole" = some (some (.ref x_is_whole))) (l12 : K.lookup x_is_whole = some ⟨oc12, od12, .func (PySem.W.fnOf "is_whole" "is_whole" (defArgs s_is_whole) (defBody s_is_whole) (defScope s_is_whole) .none kV12 dc12 pm12 an12 cd12 ct12), sl12⟩) (c12 : PySem.W.codeIn K cd12 "is_whole" = true) (k12 : PySem.W.keepIn K (.ref x_is_whole) = true)
    (a13 : PySem.W.nsIn K mainGlobals "is_key" = some (some (.ref x_is_key))) (l13 : K.lookup x_is_key = some ⟨oc13, od13, .func (PySem.W.fnOf "is_key" "is_key" (defArgs s_is_key) (defBody s_is_key) (defScope s_is_key) .none kV13 dc13 pm13 an13 cd13 ct13), sl13⟩) (c13 : PySem.W.codeIn K cd13 "is_key" = true) (k13 : PySem.W.keepIn K (.ref x_is_key) = true)
    (a14 : PySem.W.nsIn K mainGlobals "is_stamp" = some (some (.ref x_is_stamp))) (l14 : K.lookup x_is_stamp = some ⟨oc14, od14, .func (PySem.W.fnOf "is_stamp" "is_stamp" (defArgs s_is_stamp) (defBody s_is_stamp) (defScope s_is_stamp) .none kV14 dc14 pm14 an14 cd14 ct14), sl14⟩) (c14 : PySem.W.codeIn K cd14 "is_stamp" = true) (k14 : PySem.W.keepIn K (.ref x_is_stamp) = true)
    (a15 : PySem.W.nsIn K mainGlobals "is_step" = some (some (.ref x_is_step))) (l15 : K.lookup x_is_step = some ⟨oc15, od15, .func (PySem.W.fnOf "is_step" "is_step" (defArgs s_is_step) (defBody s_is_step) (defScope s_is_step) .none kV15 dc15 pm15 an15 cd15 ct15), sl15⟩) (c15 : PySem.W.codeIn K cd15 "is_step" = true) (k15 : PySem.W.keepIn K (.ref x_is_step) = true)
    (a16 : PySem.W.nsIn K mainGlobals "are_steps" = some (some (.ref x_are_steps))) (l16 : K.lookup x_are_steps = some ⟨oc16, od16, .func (PySem.W.fnOf "are_steps" "are_steps" (defArgs s_are_steps) (defBody s_are_steps) (defScope s_are_steps) .none kV16 dc16 pm16 an16 cd16 ct16), sl16⟩) (c16 : PySem.W.codeIn K cd16 "are_steps" = true) (k16 : PySem.W.keepIn K (.ref x_are_steps) = true)
    (a17 : PySem.W.nsIn K mainGlobals "start" = some (some (.ref x_start))) (l17 : K.lookup x_start = some ⟨oc17, od17, .func (PySem.W.fnOf "start" "start" (defArgs s_start) (defBody s_start) (defScope s_start) .none kV17 dc17 pm17 an17 cd17 ct17), sl17⟩) (c17 : PySem.W.codeIn K cd17 "start" = true) (k17 : PySem.W.keepIn K (.ref x_start) = true)
    (a18 : PySem.W.nsIn K mainGlobals "is_value" = some (some (.ref x_is_value))) (l18 : K.lookup x_is_value = some ⟨oc18, od18, .func (PySem.W.fnOf "is_value" "is_value" (defArgs s_is_value) (defBody s_is_value) (defScope s_is_value) .none kV18 dc18 pm18 an18 cd18 ct18), sl18⟩) (c18 : PySem.W.codeIn K cd18 "is_value" = true) (k18 : PySem.W.keepIn K (.ref x_is_value) = true)
    (a19 : PySem.W.nsIn K mainGlobals "is_leaf" = some (some (.ref x_is_leaf))) (l19 : K.lookup x_is_leaf = some ⟨oc19, od19, .func (PySem.W.fnOf "is_leaf" "is_leaf" (defArgs s_is_leaf) (defBody s_is_leaf) (defScope s_is_leaf) .none kV19 dc19 pm19 an19 cd19 ct19), sl19⟩) (c19 : PySem.W.codeIn K cd19 "is_leaf" = true) (k19 : PySem.W.keepIn K (.ref x_is_leaf) = true)
    (a20 : PySem.W.nsIn K mainGlobals "is_fork" = some (some (.ref x_is_fork))) (l20 : K.lookup x_is_fork = some ⟨oc20, od20, .func (PySem.W.fnOf "is_fork" "is_fork" (defArgs s_is_fork) (defBody s_is_fork) (defScope s_is_fork) .none kV20 dc20 pm20 an20 cd20 ct20), sl20⟩) (c20 : PySem.W.codeIn K cd20 "is_fork" = true) (k20 : PySem.W.keepIn K (.ref x_is_fork) = true)
    (a21 : PySem.W.nsIn K mainGlobals "is_end" = some (some (.ref x_is_end))) (l21 : K.lookup x_is_end = some ⟨oc21, od21, .func (PySem.W.fnOf "is_end" "is_end" (defArgs s_is_end) (defBody s_is_end) (defScope s_is_end) .none kV21 dc21 pm21 an21 cd21 ct21), sl21⟩) (c21 : PySem.W.codeIn K cd21 "is_end" = true) (k21 : PySem.W.keepIn K (.ref x_is_end) = true)
    (a22 : PySem.W.nsIn K mainGlobals "is_slip" = some (some (.ref x_is_slip))) (l22 : K.lookup x_is_slip = some ⟨oc22, od22, .func (PySem.W.fnOf "is_slip" "is_slip" (defArgs s_is_slip) (defBody s_is_slip) (defScope s_is_slip) .none kV22 dc22 pm22 an22 cd22 ct22), sl22⟩) (c22 : PySem.W.codeIn K cd22 "is_slip" = true) (k22 : PySem.W.keepIn K (.ref x_is_slip) = true)
    (a23 : PySem.W.nsIn K mainGlobals "side" = some (some (.ref x_side))) (l23 : K.lookup x_side = some ⟨oc23, od23, .func (PySem.W.fnOf "side" "side" (defArgs s_side) (defBody s_side) (defScope s_side) .none kV23 dc23 pm23 an23 cd23 ct23), sl23⟩) (c23 : PySem.W.codeIn K cd23 "side" = true) (k23 : PySem.W.keepIn K (.ref x_side) = true)
    (a24 : PySem.W.nsIn K mainGlobals "step_term" = some (some (.ref x_step_term))) (l24 : K.lookup x_step_term = some ⟨oc24, od24, .func (PySem.W.fnOf "step_term" "step_term" (defArgs s_step_term) (defBody s_step_term) (defScope s_step_term) .none kV24 dc24 pm24 an24 cd24 ct24), sl24⟩) (c24 : PySem.W.codeIn K cd24 "step_term" = true) (k24 : PySem.W.keepIn K (.ref x_step_term) = true)
    (a25 : PySem.W.nsIn K mainGlobals "slip_terms" = some (some (.ref x_slip_terms))) (l25 : K.lookup x_slip_terms = some ⟨oc25, od25, .func (PySem.W.fnOf "slip_terms" "slip_terms" (defArgs s_slip_terms) (defBody s_slip_terms) (defScope s_slip_terms) .none kV25 dc25 pm25 an25 cd25 ct25), sl25⟩) (c25 : PySem.W.codeIn K cd25 "slip_terms" = true) (k25 : PySem.W.keepIn K (.ref x_slip_terms) = true)
    (a26 : PySem.W.nsIn K mainGlobals "slip_mark" = some (some (.ref x_slip_mark))) (l26 : K.lookup x_slip_mark = some ⟨oc26, od26, .func (PySem.W.fnOf "slip_mark" "slip_mark" (defArgs s_slip_mark) (defBody s_slip_mark) (defScope s_slip_mark) .none kV26 dc26 pm26 an26 cd26 ct26), sl26⟩) (c26 : PySem.W.codeIn K cd26 "slip_mark" = true) (k26 : PySem.W.keepIn K (.ref x_slip_mark) = true)
    (a27 : PySem.W.nsIn K mainGlobals "_law_same" = some (some (.ref x__law_same))) (l27 : K.lookup x__law_same = some ⟨oc27, od27, .func (PySem.W.fnOf "_law_same" "_law_same" (defArgs s__law_same) (defBody s__law_same) (defScope s__law_same) .none kV27 dc27 pm27 an27 cd27 ct27), sl27⟩) (c27 : PySem.W.codeIn K cd27 "_law_same" = true) (k27 : PySem.W.keepIn K (.ref x__law_same) = true)
    (a28 : PySem.W.nsIn K mainGlobals "slip_value" = some (some (.ref x_slip_value))) (l28 : K.lookup x_slip_value = some ⟨oc28, od28, .func (PySem.W.fnOf "slip_value" "slip_value" (defArgs s_slip_value) (defBody s_slip_value) (defScope s_slip_value) .none kV28 dc28 pm28 an28 cd28 ct28), sl28⟩) (c28 : PySem.W.codeIn K cd28 "slip_value" = true) (k28 : PySem.W.keepIn K (.ref x_slip_value) = true)
    (a29 : PySem.W.nsIn K mainGlobals "slip_answer" = some (some (.ref x_slip_answer))) (l29 : K.lookup x_slip_answer = some ⟨oc29, od29, .func (PySem.W.fnOf "slip_answer" "slip_answer" (defArgs s_slip_answer) (defBody s_slip_answer) (defScope s_slip_answer) .none kV29 dc29 pm29 an29 cd29 ct29), sl29⟩) (c29 : PySem.W.codeIn K cd29 "slip_answer" = true) (k29 : PySem.W.keepIn K (.ref x_slip_answer) = true)
    (a30 : PySem.W.nsIn K mainGlobals "_law_told" = some (some (.ref x__law_told))) (l30 : K.lookup x__law_told = some ⟨oc30, od30, .func (PySem.W.fnOf "_law_told" "_law_told" (defArgs s__law_told) (defBody s__law_told) (defScope s__law_told) .none kV30 dc30 pm30 an30 cd30 ct30), sl30⟩) (c30 : PySem.W.codeIn K cd30 "_law_told" = true) (k30 : PySem.W.keepIn K (.ref x__law_told) = true)
    (a31 : PySem.W.nsIn K mainGlobals "clash" = some (some (.ref x_clash))) (l31 : K.lookup x_clash = some ⟨oc31, od31, .func (PySem.W.fnOf "clash" "clash" (defArgs s_clash) (defBody s_clash) (defScope s_clash) .none kV31 dc31 pm31 an31 cd31 ct31), sl31⟩) (c31 : PySem.W.codeIn K cd31 "clash" = true) (k31 : PySem.W.keepIn K (.ref x_clash) = true)
    (a32 : PySem.W.nsIn K mainGlobals "_law_term_alike" = some (some (.ref x__law_term_alike))) (l32 : K.lookup x__law_term_alike = some ⟨oc32, od32, .func (PySem.W.fnOf "_law_term_alike" "_law_term_alike" (defArgs s__law_term_alike) (defBody s__law_term_alike) (defScope s__law_term_alike) .none kV32 dc32 pm32 an32 cd32 ct32), sl32⟩) (c32 : PySem.W.codeIn K cd32 "_law_term_alike" = true) (k32 : PySem.W.keepIn K (.ref x__law_term_alike) = true)
    (a33 : PySem.W.nsIn K mainGlobals "_law_pair_right" = some (some (.ref x__law_pair_right))) (l33 : K.lookup x__law_pair_right = some ⟨oc33, od33, .func (PySem.W.fnOf "_law_pair_right" "_law_pair_right" (defArgs s__law_pair_right) (defBody s__law_pair_right) (defScope s__law_pair_right) .none kV33 dc33 pm33 an33 cd33 ct33), sl33⟩) (c33 : PySem.W.codeIn K cd33 "_law_pair_right" = true) (k33 : PySem.W.keepIn K (.ref x__law_pair_right) = true)
    (a34 : PySem.W.nsIn K mainGlobals "law" = some (some (.ref x_law))) (l34 : K.lookup x_law = some ⟨oc34, od34, .func (PySem.W.fnOf "law" "law" (defArgs s_law) (defBody s_law) (defScope s_law) .none kV34 dc34 pm34 an34 cd34 ct34), sl34⟩) (c34 : PySem.W.codeIn K cd34 "law" = true) (k34 : PySem.W.keepIn K (.ref x_law) = true)
    (z_bool : PySem.W.nsIn K mainGlobals "bool" = some none)
    (z_int : PySem.W.nsIn K mainGlobals "int" = some none)
    (z_isinstance : PySem.W.nsIn K mainGlobals "isinstance" = some none)
    (z_len : PySem.W.nsIn K mainGlobals "len" = some none)
    (z_max : PySem.W.nsIn K mainGlobals "max" = some none)
    (z_min : PySem.W.nsIn K mainGlobals "min" = some none)
    (z_range : PySem.W.nsIn K mainGlobals "range" = some none)
    (z_reversed : PySem.W.nsIn K mainGlobals "reversed" = some none)
    (z_str : PySem.W.nsIn K mainGlobals "str" = some none)
    (z_tuple : PySem.W.nsIn K mainGlobals "tuple" = some none)
    (c_MOST_SIGNS : PySem.W.nsIn K mainGlobals "MOST_SIGNS" = some (some (.int 60 tc0)))
    (nt : PySem.W.noTabs K = true)
    (td : tabsApart K ["_law_sure", "_law_planted"] = true) :
    ∃ (fd : FuncData) (tabs : List (Addr × Addr)) (sp : Sp), (∀ (s : Shared) (v : Value), BindsTo s fd ⟨[v], []⟩ [("_law_script", v)]) ∧ PySem.W.noTabs K = true ∧ (∀ t ∈ tabs, ∃ y ∈ (["_law_sure", "_law_planted"] : List Str), PySem.W.tabIn K y = some t) ∧
      (∀ base : Heap, K.In base → base.Ns mainGlobals mg → BM mg base → (∀ t ∈ tabs, PySem.W.CodeHd base t.1 t.2) → FnOk l.prog w K mg base (CX1 l.prog w) 10 fa fd ["_law_script"] sp) ∧
      ∀ (H : Hp) (a : Addr) (ns : List Int), ns.length ≤ 63 → (∀ t ∈ tabs, H t.2 = some (.tbl #[])) → SqL K H a (ns.map V.int) → sp [.ref a] H (fun v _ => v = .bl true) fun _ _ _ => False := by
  have e := hfa.symm.trans (PySem.W.mg_of X G a34)
  cases e
  obtain ⟨⟨z__law_sure, t__law_sure⟩, tb__law_sure⟩ := Option.isSome_iff_exists.mp tb__law_sure
  have kc__law_sure : cd8 = .ref z__law_sure := PySem.W.law_code X G tb__law_sure (PySem.W.mg_of X G a8) (X _ _ l8) rfl
  subst kc__law_sure
  obtain ⟨⟨z__law_planted, t__law_planted⟩, tb__law_planted⟩ := Option.isSome_iff_exists.mp tb__law_planted
  have kc__law_planted : cd10 = .ref z__law_planted := PySem.W.law_code X G tb__law_planted (PySem.W.mg_of X G a10) (X _ _ l10) rfl
  subst kc__law_planted
  have tdn : ([t__law_sure, t__law_planted] : List Addr).Nodup := apart_of (by unfold tabsApart at td; simp only [List.map_cons, List.map_nil, tb__law_sure, tb__law_planted, Option.map_some] at td; exact of_decide_eq_true td)
  have T : Txt K mg ⟨x__law_bits, PySem.W.fnOf "_law_bits" "_law_bits" (defArgs s__law_bits) (defBody s__law_bits) (defScope s__law_bits) .none kV0 dc0 pm0 an0 cd0 ct0, x__law_at, PySem.W.fnOf "_law_at" "_law_at" (defArgs s__law_at) (defBody s__law_at) (defScope s__law_at) .none kV1 dc1 pm1 an1 cd1 ct1, x__law_key, PySem.W.fnOf "_law_key" "_law_key" (defArgs s__law_key) (defBody s__law_key) (defScope s__law_key) .none kV2 dc2 pm2 an2 cd2 ct2, x__law_mark, PySem.W.fnOf "_law_mark" "_law_mark" (defArgs s__law_mark) (defBody s__law_mark) (defScope s__law_mark) .none kV3 dc3 pm3 an3 cd3 ct3, x__law_steps, PySem.W.fnOf "_law_steps" "_law_steps" (defArgs s__law_steps) (defBody s__law_steps) (defScope s__law_steps) .none kV4 dc4 pm4 an4 cd4 ct4, x__law_place, PySem.W.fnOf "_law_place" "_law_place" (defArgs s__law_place) (defBody s__law_place) (defScope s__law_place) .none kV5 dc5 pm5 an5 cd5 ct5, x__law_text, PySem.W.fnOf "_law_text" "_law_text" (defArgs s__law_text) (defBody s__law_text) (defScope s__law_text) .none kV6 dc6 pm6 an6 cd6 ct6, x__law_end, PySem.W.fnOf "_law_end" "_law_end" (defArgs s__law_end) (defBody s__law_end) (defScope s__law_end) .none kV7 dc7 pm7 an7 cd7 ct7, x__law_sure, PySem.W.fnOf "_law_sure" "_law_sure" (defArgs s__law_sure) (defBody s__law_sure) (defScope s__law_sure) .none kV8 dc8 pm8 an8 (.ref z__law_sure) ct8, x__law_terms, PySem.W.fnOf "_law_terms" "_law_terms" (defArgs s__law_terms) (defBody s__law_terms) (defScope s__law_terms) .none kV9 dc9 pm9 an9 cd9 ct9, x__law_planted, PySem.W.fnOf "_law_planted" "_law_planted" (defArgs s__law_planted) (defBody s__law_planted) (defScope s__law_planted) .none kV10 dc10 pm10 an10 (.ref z__law_planted) ct10, x__law_part_alike, PySem.W.fnOf "_law_part_alike" "_law_part_alike" (defArgs s__law_part_alike) (defBody s__law_part_alike) (defScope s__law_part_alike) .none kV11 dc11 pm11 an11 cd11 ct11, x_is_whole, PySem.W.fnOf "is_whole" "is_whole" (defArgs s_is_whole) (defBody s_is_whole) (defScope s_is_whole) .none kV12 dc12 pm12 an12 cd12 ct12, x_is_key, PySem.W.fnOf "is_key" "is_key" (defArgs s_is_key) (defBody s_is_key) (defScope s_is_key) .none kV13 dc13 pm13 an13 cd13 ct13, x_is_stamp, PySem.W.fnOf "is_stamp" "is_stamp" (defArgs s_is_stamp) (defBody s_is_stamp) (defScope s_is_stamp) .none kV14 dc14 pm14 an14 cd14 ct14, x_is_step, PySem.W.fnOf "is_step" "is_step" (defArgs s_is_step) (defBody s_is_step) (defScope s_is_step) .none kV15 dc15 pm15 an15 cd15 ct15, x_are_steps, PySem.W.fnOf "are_steps" "are_steps" (defArgs s_are_steps) (defBody s_are_steps) (defScope s_are_steps) .none kV16 dc16 pm16 an16 cd16 ct16, x_start, PySem.W.fnOf "start" "start" (defArgs s_start) (defBody s_start) (defScope s_start) .none kV17 dc17 pm17 an17 cd17 ct17, x_is_value, PySem.W.fnOf "is_value" "is_value" (defArgs s_is_value) (defBody s_is_value) (defScope s_is_value) .none kV18 dc18 pm18 an18 cd18 ct18, x_is_leaf, PySem.W.fnOf "is_leaf" "is_leaf" (defArgs s_is_leaf) (defBody s_is_leaf) (defScope s_is_leaf) .none kV19 dc19 pm19 an19 cd19 ct19, x_is_fork, PySem.W.fnOf "is_fork" "is_fork" (defArgs s_is_fork) (defBody s_is_fork) (defScope s_is_fork) .none kV20 dc20 pm20 an20 cd20 ct20, x_is_end, PySem.W.fnOf "is_end" "is_end" (defArgs s_is_end) (defBody s_is_end) (defScope s_is_end) .none kV21 dc21 pm21 an21 cd21 ct21, x_is_slip, PySem.W.fnOf "is_slip" "is_slip" (defArgs s_is_slip) (defBody s_is_slip) (defScope s_is_slip) .none kV22 dc22 pm22 an22 cd22 ct22, x_side, PySem.W.fnOf "side" "side" (defArgs s_side) (defBody s_side) (defScope s_side) .none kV23 dc23 pm23 an23 cd23 ct23, x_step_term, PySem.W.fnOf "step_term" "step_term" (defArgs s_step_term) (defBody s_step_term) (defScope s_step_term) .none kV24 dc24 pm24 an24 cd24 ct24, x_slip_terms, PySem.W.fnOf "slip_terms" "slip_terms" (defArgs s_slip_terms) (defBody s_slip_terms) (defScope s_slip_terms) .none kV25 dc25 pm25 an25 cd25 ct25, x_slip_mark, PySem.W.fnOf "slip_mark" "slip_mark" (defArgs s_slip_mark) (defBody s_slip_mark) (defScope s_slip_mark) .none kV26 dc26 pm26 an26 cd26 ct26, x__law_same, PySem.W.fnOf "_law_same" "_law_same" (defArgs s__law_same) (defBody s__law_same) (defScope s__law_same) .none kV27 dc27 pm27 an27 cd27 ct27, x_slip_value, PySem.W.fnOf "slip_value" "slip_value" (defArgs s_slip_value) (defBody s_slip_value) (defScope s_slip_value) .none kV28 dc28 pm28 an28 cd28 ct28, x_slip_answer, PySem.W.fnOf "slip_answer" "slip_answer" (defArgs s_slip_answer) (defBody s_slip_answer) (defScope s_slip_answer) .none kV29 dc29 pm29 an29 cd29 ct29, x__law_told, PySem.W.fnOf "_law_told" "_law_told" (defArgs s__law_told) (defBody s__law_told) (defScope s__law_told) .none kV30 dc30 pm30 an30 cd30 ct30, x_clash, PySem.W.fnOf "clash" "clash" (defArgs s_clash) (defBody s_clash) (defScope s_clash) .none kV31 dc31 pm31 an31 cd31 ct31, x__law_term_alike, PySem.W.fnOf "_law_term_alike" "_law_term_alike" (defArgs s__law_term_alike) (defBody s__law_term_alike) (defScope s__law_term_alike) .none kV32 dc32 pm32 an32 cd32 ct32, x__law_pair_right, PySem.W.fnOf "_law_pair_right" "_law_pair_right" (defArgs s__law_pair_right) (defBody s__law_pair_right) (defScope s__law_pair_right) .none kV33 dc33 pm33 an33 cd33 ct33, fa, PySem.W.fnOf "law" "law" (defArgs s_law) (defBody s_law) (defScope s_law) .none kV34 dc34 pm34 an34 cd34 ct34, z__law_sure, t__law_sure, z__law_planted, t__law_planted⟩ := ⟨fun_mk (st := s__law_bits) l0 c0 k0, PySem.W.mg_of X G a0, (fun_mk (st := s__law_bits) l0 c0 k0).binds (ps := ["_law_cell"]) fun _ _ _ _ _ _ us hl => by obtain ⟨_, rfl⟩ := L2.len1x hl; rfl, fun_mk (st := s__law_at) l1 c1 k1, PySem.W.mg_of X G a1, (fun_mk (st := s__law_at) l1 c1 k1).binds (ps := ["_law_script", "_law_k"]) fun _ _ _ _ _ _ us hl => by obtain ⟨_, _, rfl⟩ := L2.len2x hl; rfl, fun_mk (st := s__law_key) l2 c2 k2, PySem.W.mg_of X G a2, (fun_mk (st := s__law_key) l2 c2 k2).binds (ps := ["_law_bits_here", "_law_cell", "_law_others"]) fun _ _ _ _ _ _ us hl => by obtain ⟨_, _, _, rfl⟩ := L2.len3x hl; rfl, fun_mk (st := s__law_mark) l3 c3 k3, PySem.W.mg_of X G a3, (fun_mk (st := s__law_mark) l3 c3 k3).binds (ps := ["_law_number_here"]) fun _ _ _ _ _ _ us hl => by obtain ⟨_, rfl⟩ := L2.len1x hl; rfl, fun_mk (st := s__law_steps) l4 c4 k4, PySem.W.mg_of X G a4, (fun_mk (st := s__law_steps) l4 c4 k4).binds (ps := ["_law_cell", "_law_low", "_law_bits_here"]) fun _ _ _ _ _ _ us hl => by obtain ⟨_, _, _, rfl⟩ := L2.len3x hl; rfl, fun_mk (st := s__law_place) l5 c5 k5, PySem.W.mg_of X G a5, (fun_mk (st := s__law_place) l5 c5 k5).binds (ps := ["_law_steps_here", "_law_low"]) fun _ _ _ _ _ _ us hl => by obtain ⟨_, _, rfl⟩ := L2.len2x hl; rfl, fun_mk (st := s__law_text) l6 c6 k6, PySem.W.mg_of X G a6, (fun_mk (st := s__law_text) l6 c6 k6).binds (ps := ["_law_cell"]) fun _ _ _ _ _ _ us hl => by obtain ⟨_, rfl⟩ := L2.len1x hl; rfl, fun_mk (st := s__law_end) l7 c7 k7, PySem.W.mg_of X G a7, (fun_mk (st := s__law_end) l7 c7 k7).binds (ps := ["_law_cell", "_law_bits_here", "_law_key_here", "_law_low"]) fun _ _ _ _ _ _ us hl => by obtain ⟨_, _, _, _, rfl⟩ := L2.len4x hl; rfl, fun_mk (st := s__law_sure) l8 c8 k8, PySem.W.mg_of X G a8, (fun_mk (st := s__law_sure) l8 c8 k8).binds (ps := ["_law_first"]) fun _ _ _ _ _ _ us hl => by obtain ⟨_, rfl⟩ := L2.len1x hl; rfl, fun_mk (st := s__law_terms) l9 c9 k9, PySem.W.mg_of X G a9, (fun_mk (st := s__law_terms) l9 c9 k9).binds (ps := ["_law_stamper", "_law_bits_here", "_law_key_here", "_law_slip"]) fun _ _ _ _ _ _ us hl => by obtain ⟨_, _, _, _, rfl⟩ := L2.len4x hl; rfl, fun_mk (st := s__law_planted) l10 c10 k10, PySem.W.mg_of X G a10, (fun_mk (st := s__law_planted) l10 c10 k10).binds (ps := ["_law_sure_one", "_law_one", "_law_other"]) fun _ _ _ _ _ _ us hl => by obtain ⟨_, _, _, rfl⟩ := L2.len3x hl; rfl, fun_mk (st := s__law_part_alike) l11 c11 k11, PySem.W.mg_of X G a11, (fun_mk (st := s__law_part_alike) l11 c11 k11).binds (ps := ["_law_found", "_law_due"]) fun _ _ _ _ _ _ us hl => by obtain ⟨_, _, rfl⟩ := L2.len2x hl; rfl, fun_mk (st := s_is_whole) l12 c12 k12, PySem.W.mg_of X G a12, (fun_mk (st := s_is_whole) l12 c12 k12).binds (ps := ["thing"]) fun _ _ _ _ _ _ us hl => by obtain ⟨_, rfl⟩ := L2.len1x hl; rfl, fun_mk (st := s_is_key) l13 c13 k13, PySem.W.mg_of X G a13, (fun_mk (st := s_is_key) l13 c13 k13).binds (ps := ["bits", "thing"]) fun _ _ _ _ _ _ us hl => by obtain ⟨_, _, rfl⟩ := L2.len2x hl; rfl, fun_mk (st := s_is_stamp) l14 c14 k14, PySem.W.mg_of X G a14, (fun_mk (st := s_is_stamp) l14 c14 k14).binds (ps := ["thing"]) fun _ _ _ _ _ _ us hl => by obtain ⟨_, rfl⟩ := L2.len1x hl; rfl, fun_mk (st := s_is_step) l15 c15 k15, PySem.W.mg_of X G a15, (fun_mk (st := s_is_step) l15 c15 k15).binds (ps := ["bits", "least", "thing"]) fun _ _ _ _ _ _ us hl => by obtain ⟨_, _, _, rfl⟩ := L2.len3x hl; rfl, fun_mk (st := s_are_steps) l16 c16 k16, PySem.W.mg_of X G a16, (fun_mk (st := s_are_steps) l16 c16 k16).binds (ps := ["bits", "thing"]) fun _ _ _ _ _ _ us hl => by obtain ⟨_, _, rfl⟩ := L2.len2x hl; rfl, fun_mk (st := s_start) l17 c17 k17, PySem.W.mg_of X G a17, (fun_mk (st := s_start) l17 c17 k17).binds (ps := ["bits", "key", "depth"]) fun _ _ _ _ _ _ us hl => by obtain ⟨_, _, _, rfl⟩ := L2.len3x hl; rfl, fun_mk (st := s_is_value) l18 c18 k18, PySem.W.mg_of X G a18, (fun_mk (st := s_is_value) l18 c18 k18).binds (ps := ["thing"]) fun _ _ _ _ _ _ us hl => by obtain ⟨_, rfl⟩ := L2.len1x hl; rfl, fun_mk (st := s_is_leaf) l19 c19 k19, PySem.W.mg_of X G a19, (fun_mk (st := s_is_leaf) l19 c19 k19).binds (ps := ["bits", "depth", "begin", "thing"]) fun _ _ _ _ _ _ us hl => by obtain ⟨_, _, _, _, rfl⟩ := L2.len4x hl; rfl, fun_mk (st := s_is_fork) l20 c20 k20, PySem.W.mg_of X G a20, (fun_mk (st := s_is_fork) l20 c20 k20).binds (ps := ["bits", "depth", "begin", "thing"]) fun _ _ _ _ _ _ us hl => by obtain ⟨_, _, _, _, rfl⟩ := L2.len4x hl; rfl, fun_mk (st := s_is_end) l21 c21 k21, PySem.W.mg_of X G a21, (fun_mk (st := s_is_end) l21 c21 k21).binds (ps := ["bits", "key", "place", "thing"]) fun _ _ _ _ _ _ us hl => by obtain ⟨_, _, _, _, rfl⟩ := L2.len4x hl; rfl, fun_mk (st := s_is_slip) l22 c22 k22, PySem.W.mg_of X G a22, (fun_mk (st := s_is_slip) l22 c22 k22).binds (ps := ["bits", "key", "thing"]) fun _ _ _ _ _ _ us hl => by obtain ⟨_, _, _, rfl⟩ := L2.len3x hl; rfl, fun_mk (st := s_side) l23 c23 k23, PySem.W.mg_of X G a23, (fun_mk (st := s_side) l23 c23 k23).binds (ps := ["bits", "key", "depth"]) fun _ _ _ _ _ _ us hl => by obtain ⟨_, _, _, rfl⟩ := L2.len3x hl; rfl, fun_mk (st := s_step_term) l24 c24 k24, PySem.W.mg_of X G a24, (fun_mk (st := s_step_term) l24 c24 k24).binds (ps := ["bits", "key", "step", "mark"]) fun _ _ _ _ _ _ us hl => by obtain ⟨_, _, _, _, rfl⟩ := L2.len4x hl; rfl, fun_mk (st := s_slip_terms) l25 c25 k25, PySem.W.mg_of X G a25, (fun_mk (st := s_slip_terms) l25 c25 k25).binds (ps := ["stamper", "bits", "key", "slip"]) fun _ _ _ _ _ _ us hl => by obtain ⟨_, _, _, _, rfl⟩ := L2.len4x hl; rfl, fun_mk (st := s_slip_mark) l26 c26 k26, PySem.W.mg_of X G a26, (fun_mk (st := s_slip_mark) l26 c26 k26).binds (ps := ["stamper", "bits", "key", "slip"]) fun _ _ _ _ _ _ us hl => by obtain ⟨_, _, _, _, rfl⟩ := L2.len4x hl; rfl, fun_mk (st := s__law_same) l27 c27 k27, PySem.W.mg_of X G a27, (fun_mk (st := s__law_same) l27 c27 k27).binds (ps := ["_law_found", "_law_due"]) fun _ _ _ _ _ _ us hl => by obtain ⟨_, _, rfl⟩ := L2.len2x hl; rfl, fun_mk (st := s_slip_value) l28 c28 k28, PySem.W.mg_of X G a28, (fun_mk (st := s_slip_value) l28 c28 k28).binds (ps := ["key", "slip"]) fun _ _ _ _ _ _ us hl => by obtain ⟨_, _, rfl⟩ := L2.len2x hl; rfl, fun_mk (st := s_slip_answer) l29 c29 k29, PySem.W.mg_of X G a29, (fun_mk (st := s_slip_answer) l29 c29 k29).binds (ps := ["stamper", "bits", "mark", "key", "slip"]) fun _ _ _ _ _ _ us hl => by obtain ⟨_, _, _, _, _, rfl⟩ := L2.len5x hl; rfl, fun_mk (st := s__law_told) l30 c30 k30, PySem.W.mg_of X G a30, (fun_mk (st := s__law_told) l30 c30 k30).binds (ps := ["_law_key_here", "_law_slip"]) fun _ _ _ _ _ _ us hl => by obtain ⟨_, _, rfl⟩ := L2.len2x hl; rfl, fun_mk (st := s_clash) l31 c31 k31, PySem.W.mg_of X G a31, (fun_mk (st := s_clash) l31 c31 k31).binds (ps := ["stamper", "terms"]) fun _ _ _ _ _ _ us hl => by obtain ⟨_, _, rfl⟩ := L2.len2x hl; rfl, fun_mk (st := s__law_term_alike) l32 c32 k32, PySem.W.mg_of X G a32, (fun_mk (st := s__law_term_alike) l32 c32 k32).binds (ps := ["_law_found", "_law_due"]) fun _ _ _ _ _ _ us hl => by obtain ⟨_, _, rfl⟩ := L2.len2x hl; rfl, fun_mk (st := s__law_pair_right) l33 c33 k33, PySem.W.mg_of X G a33, (fun_mk (st := s__law_pair_right) l33 c33 k33).binds (ps := ["_law_bits_here", "_law_key_here", "_law_first", "_law_ones", "_law_others", "_law_number_here"]) fun _ _ _ _ _ _ us hl => by obtain ⟨_, _, _, _, _, _, rfl⟩ := L2.len6x hl; rfl, fun_mk (st := s_law) l34 c34 k34, PySem.W.mg_of X G a34, (fun_mk (st := s_law) l34 c34 k34).binds (ps := ["_law_script"]) fun _ _ _ _ _ _ us hl => by obtain ⟨_, rfl⟩ := L2.len1x hl; rfl, PySem.W.mg_none_of X G z_bool, PySem.W.mg_none_of X G z_int, PySem.W.mg_none_of X G z_isinstance, PySem.W.mg_none_of X G z_len, PySem.W.mg_none_of X G z_max, PySem.W.mg_none_of X G z_min, PySem.W.mg_none_of X G z_range, PySem.W.mg_none_of X G z_reversed, PySem.W.mg_none_of X G z_str, PySem.W.mg_none_of X G z_tuple, ⟨_, PySem.W.mg_of X G c_MOST_SIGNS⟩, rfl, rfl⟩
  refine ⟨PySem.W.fnOf "law" "law" (defArgs s_law) (defBody s_law) (defScope s_law) .none kV34 dc34 pm34 an34 cd34 ct34, [(z__law_sure, t__law_sure), (z__law_planted, t__law_planted)], sp_law K ⟨x__law_bits, PySem.W.fnOf "_law_bits" "_law_bits" (defArgs s__law_bits) (defBody s__law_bits) (defScope s__law_bits) .none kV0 dc0 pm0 an0 cd0 ct0, x__law_at, PySem.W.fnOf "_law_at" "_law_at" (defArgs s__law_at) (defBody s__law_at) (defScope s__law_at) .none kV1 dc1 pm1 an1 cd1 ct1, x__law_key, PySem.W.fnOf "_law_key" "_law_key" (defArgs s__law_key) (defBody s__law_key) (defScope s__law_key) .none kV2 dc2 pm2 an2 cd2 ct2, x__law_mark, PySem.W.fnOf "_law_mark" "_law_mark" (defArgs s__law_mark) (defBody s__law_mark) (defScope s__law_mark) .none kV3 dc3 pm3 an3 cd3 ct3, x__law_steps, PySem.W.fnOf "_law_steps" "_law_steps" (defArgs s__law_steps) (defBody s__law_steps) (defScope s__law_steps) .none kV4 dc4 pm4 an4 cd4 ct4, x__law_place, PySem.W.fnOf "_law_place" "_law_place" (defArgs s__law_place) (defBody s__law_place) (defScope s__law_place) .none kV5 dc5 pm5 an5 cd5 ct5, x__law_text, PySem.W.fnOf "_law_text" "_law_text" (defArgs s__law_text) (defBody s__law_text) (defScope s__law_text) .none kV6 dc6 pm6 an6 cd6 ct6, x__law_end, PySem.W.fnOf "_law_end" "_law_end" (defArgs s__law_end) (defBody s__law_end) (defScope s__law_end) .none kV7 dc7 pm7 an7 cd7 ct7, x__law_sure, PySem.W.fnOf "_law_sure" "_law_sure" (defArgs s__law_sure) (defBody s__law_sure) (defScope s__law_sure) .none kV8 dc8 pm8 an8 (.ref z__law_sure) ct8, x__law_terms, PySem.W.fnOf "_law_terms" "_law_terms" (defArgs s__law_terms) (defBody s__law_terms) (defScope s__law_terms) .none kV9 dc9 pm9 an9 cd9 ct9, x__law_planted, PySem.W.fnOf "_law_planted" "_law_planted" (defArgs s__law_planted) (defBody s__law_planted) (defScope s__law_planted) .none kV10 dc10 pm10 an10 (.ref z__law_planted) ct10, x__law_part_alike, PySem.W.fnOf "_law_part_alike" "_law_part_alike" (defArgs s__law_part_alike) (defBody s__law_part_alike) (defScope s__law_part_alike) .none kV11 dc11 pm11 an11 cd11 ct11, x_is_whole, PySem.W.fnOf "is_whole" "is_whole" (defArgs s_is_whole) (defBody s_is_whole) (defScope s_is_whole) .none kV12 dc12 pm12 an12 cd12 ct12, x_is_key, PySem.W.fnOf "is_key" "is_key" (defArgs s_is_key) (defBody s_is_key) (defScope s_is_key) .none kV13 dc13 pm13 an13 cd13 ct13, x_is_stamp, PySem.W.fnOf "is_stamp" "is_stamp" (defArgs s_is_stamp) (defBody s_is_stamp) (defScope s_is_stamp) .none kV14 dc14 pm14 an14 cd14 ct14, x_is_step, PySem.W.fnOf "is_step" "is_step" (defArgs s_is_step) (defBody s_is_step) (defScope s_is_step) .none kV15 dc15 pm15 an15 cd15 ct15, x_are_steps, PySem.W.fnOf "are_steps" "are_steps" (defArgs s_are_steps) (defBody s_are_steps) (defScope s_are_steps) .none kV16 dc16 pm16 an16 cd16 ct16, x_start, PySem.W.fnOf "start" "start" (defArgs s_start) (defBody s_start) (defScope s_start) .none kV17 dc17 pm17 an17 cd17 ct17, x_is_value, PySem.W.fnOf "is_value" "is_value" (defArgs s_is_value) (defBody s_is_value) (defScope s_is_value) .none kV18 dc18 pm18 an18 cd18 ct18, x_is_leaf, PySem.W.fnOf "is_leaf" "is_leaf" (defArgs s_is_leaf) (defBody s_is_leaf) (defScope s_is_leaf) .none kV19 dc19 pm19 an19 cd19 ct19, x_is_fork, PySem.W.fnOf "is_fork" "is_fork" (defArgs s_is_fork) (defBody s_is_fork) (defScope s_is_fork) .none kV20 dc20 pm20 an20 cd20 ct20, x_is_end, PySem.W.fnOf "is_end" "is_end" (defArgs s_is_end) (defBody s_is_end) (defScope s_is_end) .none kV21 dc21 pm21 an21 cd21 ct21, x_is_slip, PySem.W.fnOf "is_slip" "is_slip" (defArgs s_is_slip) (defBody s_is_slip) (defScope s_is_slip) .none kV22 dc22 pm22 an22 cd22 ct22, x_side, PySem.W.fnOf "side" "side" (defArgs s_side) (defBody s_side) (defScope s_side) .none kV23 dc23 pm23 an23 cd23 ct23, x_step_term, PySem.W.fnOf "step_term" "step_term" (defArgs s_step_term) (defBody s_step_term) (defScope s_step_term) .none kV24 dc24 pm24 an24 cd24 ct24, x_slip_terms, PySem.W.fnOf "slip_terms" "slip_terms" (defArgs s_slip_terms) (defBody s_slip_terms) (defScope s_slip_terms) .none kV25 dc25 pm25 an25 cd25 ct25, x_slip_mark, PySem.W.fnOf "slip_mark" "slip_mark" (defArgs s_slip_mark) (defBody s_slip_mark) (defScope s_slip_mark) .none kV26 dc26 pm26 an26 cd26 ct26, x__law_same, PySem.W.fnOf "_law_same" "_law_same" (defArgs s__law_same) (defBody s__law_same) (defScope s__law_same) .none kV27 dc27 pm27 an27 cd27 ct27, x_slip_value, PySem.W.fnOf "slip_value" "slip_value" (defArgs s_slip_value) (defBody s_slip_value) (defScope s_slip_value) .none kV28 dc28 pm28 an28 cd28 ct28, x_slip_answer, PySem.W.fnOf "slip_answer" "slip_answer" (defArgs s_slip_answer) (defBody s_slip_answer) (defScope s_slip_answer) .none kV29 dc29 pm29 an29 cd29 ct29, x__law_told, PySem.W.fnOf "_law_told" "_law_told" (defArgs s__law_told) (defBody s__law_told) (defScope s__law_told) .none kV30 dc30 pm30 an30 cd30 ct30, x_clash, PySem.W.fnOf "clash" "clash" (defArgs s_clash) (defBody s_clash) (defScope s_clash) .none kV31 dc31 pm31 an31 cd31 ct31, x__law_term_alike, PySem.W.fnOf "_law_term_alike" "_law_term_alike" (defArgs s__law_term_alike) (defBody s__law_term_alike) (defScope s__law_term_alike) .none kV32 dc32 pm32 an32 cd32 ct32, x__law_pair_right, PySem.W.fnOf "_law_pair_right" "_law_pair_right" (defArgs s__law_pair_right) (defBody s__law_pair_right) (defScope s__law_pair_right) .none kV33 dc33 pm33 an33 cd33 ct33, fa, PySem.W.fnOf "law" "law" (defArgs s_law) (defBody s_law) (defScope s_law) .none kV34 dc34 pm34 an34 cd34 ct34, z__law_sure, t__law_sure, z__law_planted, t__law_planted⟩, fun s v => .of_eq rfl, nt, ?_, fun base _ _ B C => ?_, fun H a ns hl hO hS => ⟨a, ns, rfl, hS, hl, ⟨hO (z__law_sure, t__law_sure) (by simp), hO (z__law_planted, t__law_planted) (by simp), tdn⟩, fun _ => rfl⟩⟩
  · intro t ht
    simp only [List.mem_cons, List.not_mem_nil, or_false] at ht
    rcases ht with rfl | rfl
    · exact ⟨"_law_sure", by simp, tb__law_sure⟩
    · exact ⟨"_law_planted", by simp, tb__law_planted⟩
  have G__law_sure__c0 := ok__law_sure__c0 (P := l.prog) (w := w) (base := base) T 
  have HK1_0 := kinds1_0 (P := l.prog) (w := w) (base := base) (G__law_sure__c0.mono (by decide))
  have G__law_planted__c0 := ok__law_planted__c0 (P := l.prog) (w := w) (base := base) T HK1_0
  have G__law_bits := ok__law_bits (P := l.prog) (w := w) (base := base) T 
  have G__law_at := ok__law_at (P := l.prog) (w := w) (base := base) T 
  have G__law_key := ok__law_key (P := l.prog) (w := w) (base := base) T 
  have G__law_mark := ok__law_mark (P := l.prog) (w := w) (base := base) T 
  have G__law_steps := ok__law_steps (P := l.prog) (w := w) (base := base) T G__law_mark
  have G__law_place := ok__law_place (P := l.prog) (w := w) (base := base) T 
  have G__law_text := ok__law_text (P := l.prog) (w := w) (base := base) T 
  have G__law_end := ok__law_end (P := l.prog) (w := w) (base := base) T G__law_mark G__law_text
  have G__law_sure := ok__law_sure (P := l.prog) (w := w) (base := base) T B (C (z__law_sure, t__law_sure) (by simp)) 
  have HK1 := kinds1 (P := l.prog) (w := w) (base := base) (G__law_sure__c0.mono (by decide)) (G__law_planted__c0.mono (by decide))
  have G__law_terms := ok__law_terms (P := l.prog) (w := w) (base := base) T HK1
  have G__law_planted := ok__law_planted (P := l.prog) (w := w) (base := base) T B (C (z__law_planted, t__law_planted) (by simp)) 
  have G__law_part_alike := ok__law_part_alike (P := l.prog) (w := w) (base := base) T 
  have G_is_whole := ok_is_whole (P := l.prog) (w := w) (base := base) T 
  have G_is_key := ok_is_key (P := l.prog) (w := w) (base := base) T G_is_whole
  have G_is_stamp := ok_is_stamp (P := l.prog) (w := w) (base := base) T G_is_whole
  have G_is_step := ok_is_step (P := l.prog) (w := w) (base := base) T G_is_whole G_is_stamp
  have G_are_steps := ok_are_steps (P := l.prog) (w := w) (base := base) T G_is_step
  have G_start := ok_start (P := l.prog) (w := w) (base := base) T 
  have G_is_value := ok_is_value (P := l.prog) (w := w) (base := base) T 
  have G_is_leaf := ok_is_leaf (P := l.prog) (w := w) (base := base) T G_is_key G_is_value G_start
  have G_is_fork := ok_is_fork (P := l.prog) (w := w) (base := base) T G_is_whole
  have G_is_end := ok_is_end (P := l.prog) (w := w) (base := base) T G_start G_is_leaf G_is_fork G_is_stamp
  have G_is_slip := ok_is_slip (P := l.prog) (w := w) (base := base) T G_are_steps G_is_end
  have G_side := ok_side (P := l.prog) (w := w) (base := base) T 
  have G_step_term := ok_step_term (P := l.prog) (w := w) (base := base) T G_start G_side
  have G_slip_terms := ok_slip_terms (P := l.prog) (w := w) (base := base) T G_is_key G_is_slip G_step_term HK1
  have G_slip_mark := ok_slip_mark (P := l.prog) (w := w) (base := base) T G_slip_terms HK1
  have G__law_same := ok__law_same (P := l.prog) (w := w) (base := base) T 
  have G_slip_value := ok_slip_value (P := l.prog) (w := w) (base := base) T 
  have G_slip_answer := ok_slip_answer (P := l.prog) (w := w) (base := base) T G_slip_mark G_slip_value
  have G__law_told := ok__law_told (P := l.prog) (w := w) (base := base) T 
  have G_clash := ok_clash (P := l.prog) (w := w) (base := base) T HK1
  have G__law_term_alike := ok__law_term_alike (P := l.prog) (w := w) (base := base) T G__law_part_alike
  have G__law_pair_right := ok__law_pair_right (P := l.prog) (w := w) (base := base) T G__law_sure G__law_terms G__law_planted G__law_part_alike G_slip_mark G__law_same G_slip_answer G__law_told G_clash G_slip_terms G__law_term_alike HK1
  have G_law := ok_law (P := l.prog) (w := w) (base := base) T G__law_bits G__law_at G__law_key G__law_steps G__law_place G__law_end G__law_pair_right
  exact G_law
theorem walk {l : PySem.W.OpenLaw} {q : Program} {loose : List Str} {XP : (Str → Option Value) → Heap → Prop} {YP : World → Heap → Prop} {d : DefRec} {K : Params → PySem.W.Frag} (hn : l.most = some 63) (hdf : d.params.defaults = [])
    (hY : ∀ (w : World) (h : Heap), YP w h → (K w.params).In h) (hq : ∀ y ∈ (["_law_sure", "_law_planted"] : List Str), ((PyProof.Rows.recsOf q).find? fun e => e.name == y).isSome = true)
    (F : ∀ (w : World) (mg : Str → Option Value) (fa : Addr) (h : Heap), (K w.params).In h → h.Ns mainGlobals mg → mg d.name = some (.ref fa) →
      ∃ (fd : FuncData) (tabs : List (Addr × Addr)) (sp : Sp), (∀ (s : Shared) (u : Value), BindsTo s fd ⟨[u], []⟩ [("_law_script", u)]) ∧ PySem.W.noTabs (K w.params) = true ∧ (∀ t ∈ tabs, ∃ y ∈ (["_law_sure", "_law_planted"] : List Str), PySem.W.tabIn (K w.params) y = some t) ∧
        (∀ base : Heap, (K w.params).In base → base.Ns mainGlobals mg → BM mg base → (∀ t ∈ tabs, PySem.W.CodeHd base t.1 t.2) → FnOk l.prog w (K w.params) mg base (CX1 l.prog w) 10 fa fd ["_law_script"] sp) ∧
        ∀ (H : Hp) (a : Addr) (ns : List Int), ns.length ≤ 63 → (∀ t ∈ tabs, H t.2 = some (.tbl #[])) → SqL (K w.params) H a (ns.map V.int) → sp [.ref a] H (fun v _ => v = .bl true) fun _ _ _ => False) :
    PySem.W.WalkO q loose XP YP l.row.toRowW d [] (fun f vs => PySem.call f vs) :=
  L2.walk_ofT (n := 63) (k := 10) (x := "_law_script") (CX := fun w => CX1 l.prog w) hn (by decide) hdf ⟨rfl, by decide, by decide⟩ hY hq F fun _ _ _ _ _ ⟨_, _, _, _, _, z⟩ => z
end Rs
def PySem.W.Fast.tw7296270063745465952 : Unit := ()
def PySem.W.Fast.tw6915012540715254878 : Unit := ()
def PySem.W.Fast.tw112062862040832439 : Unit := ()
def PySem.W.Fast.tw8034364538164353445 : Unit := ()
def PySem.W.Fast.tw17507977118740147868 : Unit := ()
def PySem.W.Fast.tw16773690405066450563 : Unit := ()
def PySem.W.Fast.tw8143894948263850709 : Unit := ()
def PySem.W.Fast.tw5748755089401476063 : Unit := ()
def PySem.W.Fast.tw8275938400253332913 : Unit := ()
open PySem PySem.W PyProof.Rows
set_option maxRecDepth 100000 in
set_option maxHeartbeats 0 in
theorem PySem.Challenge.cw_rootstamp_k26_whole_one_slip_or_a_clash_holds : PySem.Challenge.rw_rootstamp_k26_whole_one_slip_or_a_clash.Holds := by
  w_on; o_law; k_head; (case hw => w_witness2)
  k_fill
  refine Rs.walk (l := PySem.Challenge.rw_rootstamp_k26_whole_one_slip_or_a_clash) rfl rfl (fun w h Y => by first | exact PySem.W.kIn_of Y | exact PySem.W.km_in_of Y) (by decide +kernel) ?F
  case F =>
    intro w mg fa h KX G hmg
    refine' Rs.all_mk KX G hmg ?a0 ?l0 ?c0 ?k0 ?a1 ?l1 ?c1 ?k1 ?a2 ?l2 ?c2 ?k2 ?a3 ?l3 ?c3 ?k3 ?a4 ?l4 ?c4 ?k4 ?a5 ?l5 ?c5 ?k5 ?a6 ?l6 ?c6 ?k6 ?a7 ?l7 ?c7 ?k7 ?a8 ?l8 ?c8 ?k8 ?tb__law_sure ?a9 ?l9 ?c9 ?k9 ?a10 ?l10 ?c10 ?k10 ?tb__law_planted ?a11 ?l11 ?c11 ?k11 ?a12 ?l12 ?c12 ?k12 ?a13 ?l13 ?c13 ?k13 ?a14 ?l14 ?c14 ?k14 ?a15 ?l15 ?c15 ?k15 ?a16 ?l16 ?c16 ?k16 ?a17 ?l17 ?c17 ?k17 ?a18 ?l18 ?c18 ?k18 ?a19 ?l19 ?c19 ?k19 ?a20 ?l20 ?c20 ?k20 ?a21 ?l21 ?c21 ?k21 ?a22 ?l22 ?c22 ?k22 ?a23 ?l23 ?c23 ?k23 ?a24 ?l24 ?c24 ?k24 ?a25 ?l25 ?c25 ?k25 ?a26 ?l26 ?c26 ?k26 ?a27 ?l27 ?c27 ?k27 ?a28 ?l28 ?c28 ?k28 ?a29 ?l29 ?c29 ?k29 ?a30 ?l30 ?c30 ?k30 ?a31 ?l31 ?c31 ?k31 ?a32 ?l32 ?c32 ?k32 ?a33 ?l33 ?c33 ?k33 ?a34 ?l34 ?c34 ?k34 ?z_bool ?z_int ?z_isinstance ?z_len ?z_max ?z_min ?z_range ?z_reversed ?z_str ?z_tuple ?c_MOST_SIGNS ?nt ?td
    (case a0 => k_is); (case l0 => k_is); (case c0 => k_is); (case k0 => k_is); (case a1 => k_is); (case l1 => k_is)
    (case c1 => k_is); (case k1 => k_is); (case a2 => k_is); (case l2 => k_is); (case c2 => k_is); (case k2 => k_is)
    (case a3 => k_is); (case l3 => k_is); (case c3 => k_is); (case k3 => k_is); (case a4 => k_is); (case l4 => k_is)
    (case c4 => k_is); (case k4 => k_is); (case a5 => k_is); (case l5 => k_is); (case c5 => k_is); (case k5 => k_is)
    (case a6 => k_is); (case l6 => k_is); (case c6 => k_is); (case k6 => k_is); (case a7 => k_is); (case l7 => k_is)
    (case c7 => k_is); (case k7 => k_is); (case a8 => k_is); (case l8 => k_is); (case c8 => k_is); (case k8 => k_is)
    (case tb__law_sure => kernel_rfl); (case a9 => k_is); (case l9 => k_is); (case c9 => k_is); (case k9 => k_is); (case a10 => k_is)
    (case l10 => k_is); (case c10 => k_is); (case k10 => k_is); (case tb__law_planted => kernel_rfl); (case a11 => k_is); (case l11 => k_is)
    (case c11 => k_is); (case k11 => k_is); (case a12 => k_is); (case l12 => k_is); (case c12 => k_is); (case k12 => k_is)
    (case a13 => k_is); (case l13 => k_is); (case c13 => k_is); (case k13 => k_is); (case a14 => k_is); (case l14 => k_is)
    (case c14 => k_is); (case k14 => k_is); (case a15 => k_is); (case l15 => k_is); (case c15 => k_is); (case k15 => k_is)
    (case a16 => k_is); (case l16 => k_is); (case c16 => k_is); (case k16 => k_is); (case a17 => k_is); (case l17 => k_is)
    (case c17 => k_is); (case k17 => k_is); (case a18 => k_is); (case l18 => k_is); (case c18 => k_is); (case k18 => k_is)
    (case a19 => k_is); (case l19 => k_is); (case c19 => k_is); (case k19 => k_is); (case a20 => k_is); (case l20 => k_is)
    (case c20 => k_is); (case k20 => k_is); (case a21 => k_is); (case l21 => k_is); (case c21 => k_is); (case k21 => k_is)
    (case a22 => k_is); (case l22 => k_is); (case c22 => k_is); (case k22 => k_is); (case a23 => k_is); (case l23 => k_is)
    (case c23 => k_is); (case k23 => k_is); (case a24 => k_is); (case l24 => k_is); (case c24 => k_is); (case k24 => k_is)
    (case a25 => k_is); (case l25 => k_is); (case c25 => k_is); (case k25 => k_is); (case a26 => k_is); (case l26 => k_is)
    (case c26 => k_is); (case k26 => k_is); (case a27 => k_is); (case l27 => k_is); (case c27 => k_is); (case k27 => k_is)
    (case a28 => k_is); (case l28 => k_is); (case c28 => k_is); (case k28 => k_is); (case a29 => k_is); (case l29 => k_is)
    (case c29 => k_is); (case k29 => k_is); (case a30 => k_is); (case l30 => k_is); (case c30 => k_is); (case k30 => k_is)
    (case a31 => k_is); (case l31 => k_is); (case c31 => k_is); (case k31 => k_is); (case a32 => k_is); (case l32 => k_is)
    (case c32 => k_is); (case k32 => k_is); (case a33 => k_is); (case l33 => k_is); (case c33 => k_is); (case k33 => k_is)
    (case a34 => k_is); (case l34 => k_is); (case c34 => k_is); (case k34 => k_is); (case z_bool => k_is); (case z_int => k_is)
    (case z_isinstance => k_is); (case z_len => k_is); (case z_max => k_is); (case z_min => k_is); (case z_range => k_is); (case z_reversed => k_is)
    (case z_str => k_is); (case z_tuple => k_is); (case c_MOST_SIGNS => k_is); (case nt => kernel_rfl); (case td => kernel_rfl)


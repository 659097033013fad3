import PyProof.Rows.All
import Wide.All
import OpenK.AllK
import Wide.FinOn
import Lean
import PyProof.EqAt
import PyProof.EqKinds
import PyProof.TupleCall
import PyProof.P3In
import KE.KDictLaws
import KE.KTabLook
import KE.KRevIter
import KE.KItemsList
import PyProof.TupleOfGen
import PySem.Challenge.RW_rootstamp_k07_refusals
set_option Elab.async false
set_option linter.all false
set_option maxRecDepth 100000
set_option maxHeartbeats 4000000
namespace L2
open PySem PySem.Spec PyProof.Rows
abbrev Key := Sum Int Str
def cT : Key → Value → Bool
 | .inl k, v => Value.isInt k v
 | .inr x, v => Value.isStrOf x v
def mK (w : World) : Key → Int
 | .inl k => hashInt k
 | .inr x => hashStr w x
theorem aT : ∀ {k : Key} {v : Value}, cT k v = true → (∃ i t, k = Sum.inl i ∧ v = Value.int i t) ∨ (∃ x t, k = Sum.inr x ∧ v = Value.str x t)
  | .inl i, v, h => by
    obtain ⟨t, e⟩ := Value.isInt_shape (k := i) (v := v) h
    exact .inl ⟨i, t, rfl, e⟩
  | .inr x, v, h => by
    obtain ⟨t, e⟩ := Value.isStrOf_shape (x := x) (v := v) h
    exact .inr ⟨x, t, rfl, e⟩
theorem gA (i : Int) (t : Tok) : cT (.inl i) (.int i t) = true := by simp [cT, Value.isInt]
theorem gF (x : Str) (t : Tok) : cT (.inr x) (.str x t) = true := by simp [cT, Value.isStrOf]
theorem kO (a b : Int) : decide ((Sum.inl a : Key) = Sum.inl b) = (a == b) := by
 by_cases e : a = b
 · subst e; simp
 · have h : ¬ (Sum.inl a : Key) = Sum.inl b := fun q => e (Sum.inl.inj q)
   rw [decide_eq_false h]
   exact (beq_eq_false_iff_ne.mpr e).symm
theorem kR (a b : Str) : decide ((Sum.inr a : Key) = Sum.inr b) = decide (a = b) := by
 by_cases e : a = b
 · subst e; simp
 · have h : ¬ (Sum.inr a : Key) = Sum.inr b := fun q => e (Sum.inr.inj q)
   rw [decide_eq_false h, decide_eq_false e]
theorem kg (a : Int) (b : Str) : decide ((Sum.inl a : Key) = Sum.inr b) = false := decide_eq_false (fun q => nomatch q)
theorem kF (a : Str) (b : Int) : decide ((Sum.inr a : Key) = Sum.inl b) = false := decide_eq_false (fun q => nomatch q)
def bn (prog : Program) (w : World) : PySem.KeyKind prog w Key where
 is := cT
 hash := mK w
 inj := fun v a b ha hb => by
  rcases aT ha with ⟨i, t, rfl, rfl⟩ | ⟨x, t, rfl, rfl⟩
  · rcases aT hb with ⟨j, u, rfl, e⟩ | ⟨y, u, rfl, e⟩
    · injection e with e1 _; rw [e1]
    · exact nomatch e
  · rcases aT hb with ⟨j, u, rfl, e⟩ | ⟨y, u, rfl, e⟩
    · exact nomatch e
    · injection e with e1 _; rw [e1]
 byValue := fun k v h => by
  rcases aT h with ⟨i, t, rfl, rfl⟩ | ⟨x, t, rfl, rfl⟩ <;> rfl
 pyHash := fun hv h => by
  rcases aT hv with ⟨i, t, rfl, rfl⟩ | ⟨x, t, rfl, rfl⟩
  · exact wpAny_pyHash_int h
  · exact wpAny_pyHash_str h
 eqBool := fun hu hv h => by
  rcases aT hu with ⟨i, t, rfl, rfl⟩ | ⟨x, t, rfl, rfl⟩
  · rcases aT hv with ⟨j, u, rfl, rfl⟩ | ⟨y, u, rfl, rfl⟩
    · rw [kO] at h; exact wpAny_eqBool_int h
    · rw [kg] at h; exact SeqAt.EqAt.int_str i t y u _ _ _ _ h
  · rcases aT hv with ⟨j, u, rfl, rfl⟩ | ⟨y, u, rfl, rfl⟩
    · rw [kF] at h; exact SeqAt.EqAt.str_int x t j u _ _ _ _ h
    · rw [kR] at h; exact wpAny_eqBool_str h
 «strs» := fun k x t v h => by
  rcases aT h with ⟨i, u, rfl, e⟩ | ⟨y, u, rfl, e⟩
  · exact nomatch e
  · injection e with e1 _
    subst e1
    cases v <;> rfl
theorem fo (prog : Program) (w : World) (i : Int) (t : Tok) : (bn prog w).is (.inl i) (.int i t) = true := gA i t
theorem fe (prog : Program) (w : World) (x : Str) (t : Tok) : (bn prog w).is (.inr x) (.str x t) = true := gF x t
end L2
namespace L2
open PySem PySem.Spec PyProof.Rows
inductive V where
 | non | bl (b : Bool) | int (i : Int) | str (x : Str) | byt (b : Array UInt8) | flt (b : UInt64) | ref (a : Addr) | ty (n : String)
 deriving DecidableEq
def aw : V → Value → Prop
 | .non, u => u = Value.none
 | .bl b, u => u = Value.bool b
 | .int i, u => ∃ t, u = Value.int i t
 | .str x, u => ∃ t, u = Value.str x t
 | .byt b, u => ∃ t, u = Value.bytes b t
 | .flt b, u => ∃ t, u = Value.float b t
 | .ref a, u => u = Value.ref a
 | .ty n, u => u = Value.type n
abbrev au : List V → List Value → Prop := Paired aw
theorem au.length {xs : List V} {us : List Value} (r : au xs us) : xs.length = us.length := Paired.length r
theorem au.get : ∀ {xs : List V} {us : List Value} {i : Nat} {x : V}, au xs us → xs[i]? = some x → ∃ u, us[i]? = some u ∧ aw x u
  | _, _, _, _, .nil, e => by simp at e
  | _, _, 0, _, .cons r _, e => by simp at e; subst e; exact ⟨_, rfl, r⟩
  | _, _, i + 1, x, .cons _ t, e => by
    obtain ⟨u, h1, h2⟩ := au.get (i := i) (x := x) t (by simpa using e)
    exact ⟨u, by simpa using h1, h2⟩
theorem au.append : ∀ {xs ys : List V} {us ws : List Value}, au xs us → au ys ws → au (xs ++ ys) (us ++ ws)
 | _, _, _, _, .nil, s => s
 | _, _, _, _, .cons r t, s => .cons r (au.append t s)
theorem au.take : ∀ {xs : List V} {us : List Value} (n : Nat), au xs us → au (xs.take n) (us.take n)
 | _, _, 0, _ => .nil
 | _, _, _ + 1, .nil => .nil
 | _, _, n + 1, .cons r t => .cons r (au.take n t)
theorem au.drop : ∀ {xs : List V} {us : List Value} (n : Nat), au xs us → au (xs.drop n) (us.drop n)
 | _, _, 0, r => r
 | _, _, _ + 1, .nil => .nil
 | _, _, n + 1, .cons _ t => au.drop n t
def bC : Option V → Option Value → Prop
 | some v, some u => aw v u
 | none, none => True
 | _, _ => False
def KV {κ : Type} : List (κ × V) → List (κ × Value) → Prop := Paired fun (p : κ × V) (q : κ × Value) => p.1 = q.1 ∧ aw p.2 q.2
def kV : Key → V
 | .inl i => .int i
 | .inr x => .str x
inductive HO where
 | lst (xs : List V)
 | tup (xs : List V)
 | dK (kvs : List (Key × V)) | dT (kvs : List (List Key × V))
 | set (S : Int → Bool) (n : Nat)
 | ins (C dx : Addr) (fs : List (Str × V))
 | own (x : Addr)
 | xd (fs : List (Str × V))
 | met (f x : Addr)
 | rng (lo hi : Int)
 | frz (o : Obj) (u : HO)
 | tbl (ps : Array Value)
 | ext (φ : Heap → Prop)
abbrev Hp := Addr → Option HO
def upd (H : Hp) (a : Addr) (o : HO) : Hp := fun b => if b = a then some o else H b
theorem aj {H : Hp} {a : Addr} {o : HO} : upd H a o a = some o := by unfold upd; rw [if_pos rfl]
theorem ak {H : Hp} {a b : Addr} {o : HO} (h : b ≠ a) : upd H a o b = H b := by unfold upd; rw [if_neg h]
theorem jL {H : Hp} {a : Addr} {o u : HO} : upd (upd H a o) a u = upd H a u := by
 funext b; unfold upd; split <;> rfl
theorem al {H : Hp} {a b : Addr} {o : HO} (h : H a = some o) (h' : H b = none) : a ≠ b := by
 intro e; subst e; rw [h] at h'; cases h'
section
variable (P : Program) (w : World)
def aM (H : Hp) (h : Heap) (a : Addr) : HO → Prop
 | .lst xs => xs.length ≤ sizeLine ∧ ∃ (its : List Value) (n : Nat), au xs its ∧ h.get? a = some { cls := .type "list", data := .seq its.toArray n }
 | .tup xs => xs.length ≤ sizeLine ∧ ∃ its : List Value, au xs its ∧ IsTup h a its.toArray
 | .dK kvs => kvs.length ≤ sizeLine ∧ (a == sysModules) = false ∧ ∃ vs, KV kvs vs ∧ h.DictOf (bn P w) a vs
 | .dT kvs => kvs.length ≤ sizeLine ∧ (a == sysModules) = false ∧ ∃ xs : List (List Key × Addr × Value),
  Paired (fun (p : List Key × V) (q : List Key × Addr × Value) => p.1 = q.1 ∧ H q.2.1 = some (.tup (p.1.map kV)) ∧ aw p.2 q.2.2) kvs xs ∧
  ∃ o es ep, h.get? a = some o ∧ o.ExactDict ∧ o.data = .dict es ep ∧ es.toList = xs.map (entryOfKey (tupleKind (bn P w))) ∧ (xs.map (·.1)).Nodup
 | .set S n => h.SetOf (intKind P w) a S n
 | .ins C dx fs => H dx = some (.own a) ∧ fs.length ≤ 1000 ∧ dx ≠ a ∧ h.get? a = some (W.instObj C dx) ∧
  ∃ mA, h.Ns1 dx mA ∧ (∀ f, bC (fs.lookup f) (mA f)) ∧ PySem.Within mA (fs.map (·.1))
 | .own _ => ∃ o, h.get? a = some o
 | .xd fs => ∃ mA, h.Ns1 a mA ∧ ∀ f, bC (fs.lookup f) (mA f)
 | .rng lo hi => ∃ t u v, h.get? a = some { cls := .type "range", data := .fields #[.int lo t, .int hi u, .int 1 v] }
 | .frz o u => h.get? a = some o ∧ aM H h a u
 | .tbl ps => h.get? a = some { cls := .none, data := .fields ps }
 | .met f x => h.get? a = some (W.methodObj (.ref f) (.ref x))
 | .ext φ => φ h ∧ (∃ o, h.get? a = some o) ∧ ∀ h1 h2 : Heap, φ h1 → (∀ o, h1.get? a = some o → h2.get? a = some o) → φ h2
def HOk (H : Hp) (h : Heap) : Prop := ∀ a o, H a = some o → aM P w H h a o
end
section
variable {P : Program} {w : World} {H H' : Hp} {h h' : Heap} {a : Addr} {o : HO}
theorem aM.lt (x : aM P w H h a o) : a < h.objs.size := by
 cases o with
 | lst xs => obtain ⟨_, _, _, _, e⟩ := x; exact Heap.lt_size e
 | tup xs => obtain ⟨_, _, _, p⟩ := x; exact p.lt
 | dK kvs => obtain ⟨_, _, _, _, o, _, _, e, _⟩ := x; exact Heap.lt_size e
 | dT kvs => obtain ⟨_, _, _, _, o, _, _, e, _⟩ := x; exact Heap.lt_size e
 | set S n => obtain ⟨o, _, _, _, e, _⟩ := x; exact Heap.lt_size e
 | ins C dx fs => obtain ⟨_, _, _, e, _⟩ := x; exact Heap.lt_size e
 | own y => obtain ⟨_, e⟩ := x; exact Heap.lt_size e
 | xd fs => obtain ⟨_, ⟨_, _, _, e, _⟩, _⟩ := x; exact Heap.lt_size e
 | rng lo hi => obtain ⟨_, _, _, e⟩ := x; exact Heap.lt_size e
 | frz ob u => obtain ⟨e, _⟩ := x; exact Heap.lt_size e
 | tbl ps => exact Heap.lt_size (show h.get? a = some _ from x)
 | met f y => exact Heap.lt_size (show h.get? a = some _ from x)
 | ext φ => obtain ⟨_, ⟨_, e⟩, _⟩ := x; exact Heap.lt_size e
theorem Paired.mapP {α β : Type} {F G : α → β → Prop} : ∀ {l₁ : List α} {l₂ : List β}, Paired F l₁ l₂ → (∀ a b, F a b → G a b) → Paired G l₁ l₂
 | _, _, .nil, _ => .nil
 | _, _, .cons r t, f => .cons (f _ _ r) (Paired.mapP t f)
theorem aM.stay (x : aM P w H h a o) (k : ∀ b u, (b = a ∨ H b = some (.own a)) → h.get? b = some u → h'.get? b = some u)
    (ho : ∀ b, H b = some (.own a) → H' b = some (.own a)) (ht : ∀ b xs, H b = some (.tup xs) → H' b = some (.tup xs)) : aM P w H' h' a o := by
  induction o with
  | lst xs => obtain ⟨z, its, n, r, e⟩ := x; exact ⟨z, its, n, r, k _ _ (.inl rfl) e⟩
  | tup xs => obtain ⟨z, its, r, ob, e, c⟩ := x; exact ⟨z, its, r, ob, k _ _ (.inl rfl) e, c⟩
  | dK kvs => obtain ⟨z, y, vs, r, ob, es, ep, e, c⟩ := x; exact ⟨z, y, vs, r, ob, es, ep, k _ _ (.inl rfl) e, c⟩
  | dT kvs =>
    obtain ⟨z, y, xs, r, ob, es, ep, e, c⟩ := x
    exact ⟨z, y, xs, Paired.mapP r fun p q z => ⟨z.1, ht _ _ z.2.1, z.2.2⟩, ob, es, ep, k _ _ (.inl rfl) e, c⟩
  | set S n => obtain ⟨ob, es, ep, t, e, c⟩ := x; exact ⟨ob, es, ep, t, k _ _ (.inl rfl) e, c⟩
  | ins C dx fs =>
    obtain ⟨d, z, ne, e, mA, ⟨od, es, ep, e2, c⟩, r⟩ := x
    exact ⟨ho _ d, z, ne, k _ _ (.inl rfl) e, mA, ⟨od, es, ep, k _ _ (.inr d) e2, c⟩, r⟩
  | own y => obtain ⟨ob, e⟩ := x; exact ⟨ob, k _ _ (.inl rfl) e⟩
  | xd fs => obtain ⟨mA, ⟨od, es, ep, e, c⟩, r⟩ := x; exact ⟨mA, ⟨od, es, ep, k _ _ (.inl rfl) e, c⟩, r⟩
  | rng lo hi => obtain ⟨t, u, v, e⟩ := x; exact ⟨t, u, v, k _ _ (.inl rfl) e⟩
  | frz ob u ih => obtain ⟨e, q⟩ := x; exact ⟨k _ _ (.inl rfl) e, ih q⟩
  | tbl ps =>
    have e : h.get? a = some { cls := .none, data := .fields ps } := x
    show h'.get? a = some { cls := .none, data := .fields ps }
    exact k a _ (.inl rfl) e
  | met f y =>
    have e : h.get? a = some (W.methodObj (.ref f) (.ref y)) := x
    show h'.get? a = some (W.methodObj (.ref f) (.ref y))
    exact k a _ (.inl rfl) e
  | ext φ => obtain ⟨p, ⟨o, e⟩, st⟩ := x; exact ⟨st _ _ p fun o q => k _ _ (.inl rfl) q, ⟨o, k _ _ (.inl rfl) e⟩, st⟩
theorem HOk.lt (x : HOk P w H h) (e : H a = some o) : a < h.objs.size := (x a o e).lt
theorem HOk.fresh (x : HOk P w H h) (e : h.objs.size ≤ a) : H a = none := by
 cases q : H a with
 | none => rfl
 | some u => exact absurd (Nat.lt_of_lt_of_le (x.lt q) e) (Nat.lt_irrefl _)
theorem HOk.kept (x : HOk P w H h) (k : ∀ b u, h.get? b = some u → h'.get? b = some u) : HOk P w H h' := fun a o e =>
 (x a o e).stay (fun b u _ q => k b u q) (fun _ q => q) fun _ _ q => q
theorem HOk.laid (x : HOk P w H h) (k : ∀ b u, h.get? b = some u → h'.get? b = some u) (hp : h.objs.size ≤ a) (new : aM P w (upd H a o) h' a o) : HOk P w (upd H a o) h' := fun b u e => by
 have hn := x.fresh hp
 by_cases hb : b = a
 · subst hb; rw [aj] at e; cases e; exact new
 · rw [ak hb] at e
   exact (x b u e).stay (fun c v _ q => k c v q) (fun c q => by rw [ak (al q hn)]; exact q) fun c xs q => by rw [ak (al q hn)]; exact q
end
def Rd (H : Hp) (a : Addr) (u : HO) : Prop := H a = some u ∨ ∃ o, H a = some (.frz o u)
theorem Rd.ok {P : Program} {w : World} {H : Hp} {h : Heap} {a : Addr} {u : HO} (r : Rd H a u) (x : HOk P w H h) : aM P w H h a u := by
 rcases r with r | ⟨o, r⟩
 · exact x a u r
 · obtain ⟨_, q⟩ := x a _ r
   exact q
def Mut : Option HO → Prop
 | some (.lst _) => True
 | some (.dK _) => True
 | some (.dT _) => True
 | some (.set _ _) => True
 | some (.ins _ _ _) => True
 | some (.ext _) => True
 | _ => False
section
variable {P : Program} {w : World} {H : Hp} {h h' : Heap} {x e : Addr} {o' : HO}
theorem HOk.write (ok : HOk P w H h) (mu : Mut (H x)) (he : e = x ∨ H e = some (.own x)) (k : ∀ b u, b ≠ e → h.get? b = some u → h'.get? b = some u) (heo : ∃ u, h'.get? e = some u)
   (new : aM P w (upd H x o') h' x o') : HOk P w (upd H x o') h' := fun b u q => by
 have nown : ∀ c y, H c = some (.own y) → c ≠ x := fun c y r z => by subst z; rw [r] at mu; exact mu
 have ntup : ∀ c xs, H c = some (.tup xs) → c ≠ x := fun c xs r z => by subst z; rw [r] at mu; exact mu
 by_cases hb : b = x
 · subst hb; rw [aj] at q; cases q; exact new
 · rw [ak hb] at q
   by_cases hbe : b = e
   · have q' : H b = some (.own x) := by
       rcases he with z | z
       · exact absurd (hbe.trans z) hb
       · rw [hbe]; exact z
     rw [q] at q'; cases q'
     obtain ⟨v, hv⟩ := heo
     exact ⟨v, by rw [hbe]; exact hv⟩
   · refine (ok b u q).stay (fun c v hc r => k c v ?_ r) (fun c r => by rw [ak (nown c b r)]; exact r) fun c xs r => by rw [ak (ntup c xs r)]; exact r
     rcases hc with rfl | hc
     · exact hbe
     · rintro rfl
       rcases he with z | z
       · exact nown c b hc z
       · rw [hc] at z; cases z; exact hb rfl
end
structure Un (fs ex : List Addr) (H H' : Hp) (h h' : Heap) : Prop where
 keep : ∀ b o, h.get? b = some o → H b = none → b ∉ fs → b ∉ ex → h'.get? b = some o
 slot : ∀ b o, h.get? b = some o → H b = none → b ∈ fs → b ∉ ex → ∃ sl, h'.get? b = some { o with slots := sl }
 free : ∀ b o, h.get? b = some o → H b = none → b ∉ ex → H' b = none
 there : ∀ b o, h.get? b = some o → b ∉ ex → ∃ o', h'.get? b = some o'
 tups : ∀ b xs, H b = some (.tup xs) → H' b = some (.tup xs)
 frzs : ∀ b o u, H b = some (.frz o u) → H' b = some (.frz o u)
 tbls : ∀ b ps, H b = some (.tbl ps) → ∃ more, H' b = some (.tbl (ps ++ more))
section
variable {fs fs' ex ex' : List Addr} {H H1 H2 : Hp} {h h1 h2 h' : Heap} {a x e : Addr} {o : HO}
theorem Un.any (u : Un fs ex H H1 h h1) {b : Addr} {ob : Obj} (q : h.get? b = some ob) (n : H b = none) (hx : b ∉ ex) : ∃ sl, h1.get? b = some { ob with slots := sl } := by
 by_cases hb : b ∈ fs
 · exact u.slot b ob q n hb hx
 · exact ⟨ob.slots, u.keep b ob q n hb hx⟩
theorem Un.trans (a : Un fs ex H H1 h h1) (b : Un fs ex H1 H2 h1 h2) : Un fs ex H H2 h h2 where
 keep := fun c ob q n hc hx => b.keep c ob (a.keep c ob q n hc hx) (a.free c ob q n hx) hc hx
 slot := fun c ob q n hc hx => by
  obtain ⟨sl, e1⟩ := a.slot c ob q n hc hx
  obtain ⟨sl', e2⟩ := b.slot c _ e1 (a.free c ob q n hx) hc hx
  exact ⟨sl', e2⟩
 free := fun c ob q n hx => by
  obtain ⟨o', e1⟩ := a.there c ob q hx
  exact b.free c o' e1 (a.free c ob q n hx) hx
 there := fun c ob q hx => by
  obtain ⟨o', e1⟩ := a.there c ob q hx
  exact b.there c o' e1 hx
 tups := fun c xs q => b.tups c xs (a.tups c xs q)
 frzs := fun c ob xs q => b.frzs c ob xs (a.frzs c ob xs q)
 tbls := fun c ps q => by
  obtain ⟨m1, e1⟩ := a.tbls c ps q
  obtain ⟨m2, e2⟩ := b.tbls c _ e1
  exact ⟨m1 ++ m2, by rw [e2, Array.append_assoc]⟩
theorem Un.kept (k : ∀ b u, h.get? b = some u → h'.get? b = some u) : Un fs ex H H h h' :=
 ⟨fun b ob q _ _ _ => k b ob q, fun b ob q _ _ _ => ⟨ob.slots, k b ob q⟩, fun _ _ _ n _ => n, fun b ob q _ => ⟨ob, k b ob q⟩, fun _ _ q => q, fun _ _ _ q => q, fun _ ps q => ⟨#[], by rw [q]; simp⟩⟩
theorem Un.refl : Un fs ex H H h h := Un.kept fun _ _ q => q
theorem Un.laid (k : ∀ b u, h.get? b = some u → h'.get? b = some u) (hp : h.objs.size ≤ a) (hn : H a = none) : Un fs ex H (upd H a o) h h' where
 keep := fun b u q _ _ _ => k b u q
 slot := fun b u q _ _ _ => ⟨u.slots, k b u q⟩
 free := fun b u q n _ => by rw [ak (Nat.ne_of_lt (Nat.lt_of_lt_of_le (Heap.lt_size q) hp))]; exact n
 there := fun b u q _ => ⟨u, k b u q⟩
 tups := fun b xs q => by rw [ak (al q hn)]; exact q
 frzs := fun b u xs q => by rw [ak (al q hn)]; exact q
 tbls := fun b ps q => ⟨#[], by rw [ak (al q hn), q]; simp⟩
theorem Un.write (mu : Mut (H x)) (he : e = x ∨ H e = some (.own x)) (k : ∀ b u, b ≠ e → h.get? b = some u → h'.get? b = some u) (heo : ∃ u, h'.get? e = some u) : Un fs ex H (upd H x o) h h' := by
 have hx : ∀ b, H b = none → b ≠ x := fun b n z => by subst z; rw [n] at mu; exact mu
 have hb : ∀ b, H b = none → b ≠ e := fun b n z => by
   subst z
   rcases he with r | r
   · exact hx b n r
   · rw [n] at r; cases r
 have hm : ∀ b u, H b = some u → ¬ Mut (some u) → b ≠ x := fun b u q nm z => by subst z; rw [q] at mu; exact nm mu
 refine ⟨fun b u q n _ _ => k b u (hb b n) q, fun b u q n _ _ => ⟨u.slots, k b u (hb b n) q⟩, fun b u q n _ => by rw [ak (hx b n)]; exact n, fun b u q _ => ?_,
   fun b xs q => by rw [ak (hm b _ q fun z => z)]; exact q, fun b u xs q => by rw [ak (hm b _ q fun z => z)]; exact q, fun b ps q => ⟨#[], by rw [ak (hm b _ q fun z => z), q]; simp⟩⟩
 by_cases hbe : b = e
 · subst hbe; exact heo
 · exact ⟨u, k b u hbe q⟩
end
def trk (h : Heap) (H : Hp) : List Addr := (List.range h.objs.size).filter fun a => (H a).isSome
def bR (h : Heap) (H : Hp) : Heap := W.hideAll h (trk h H)
theorem gy (h : Heap) (H : Hp) : (bR h H).objs.size = h.objs.size := W.hideAll_size _ _
theorem io {h : Heap} {H : Hp} {b : Addr} {o : Obj} (e : h.get? b = some o) (n : H b = none) : (bR h H).get? b = some o :=
 W.hideAll_get _ e fun hm => by
  have q : (H b).isSome = true := (List.mem_filter.mp hm).2
  rw [n] at q; simp at q
theorem jg {h : Heap} {H : Hp} {b : Addr} {o : Obj} (e : (bR h H).get? b = some o) : h.get? b = some o ∧ H b = none := by
  have e' : h.get? b = some o := W.of_hideAll (trk h H) e
  refine ⟨e', ?_⟩
  cases q : H b with
  | none => rfl
  | some x =>
    have hm : b ∈ trk h H := List.mem_filter.mpr ⟨List.mem_range.mpr (Heap.lt_size e'), by simp [q]⟩
    have z : (bR h H).get? b = none := W.hideAll_none (trk h H) hm
    rw [z] at e; cases e
def jK (g h : Heap) (L : Addr) : List (Addr × Obj) := (List.range h.objs.size).filterMap fun a => if a = L ∨ (g.get? a).isSome = true then none else (h.get? a).map fun o => (a, o)
def bd (g h : Heap) (L d : Addr) : List (Addr × Obj) := (jK g h L).filter fun p => decide (p.1 ≠ d)
end L2
namespace L2
open PySem PySem.Spec PyProof.Rows
structure Mod (K : W.Frag) (mg : Str → Option Value) (base : Heap) : Prop where
 kin : K.In base
 glob : base.Ns mainGlobals mg
 blt : ∃ mb, base.Ns builtinsNs mb ∧ ∀ x : Str, x ≠ "__name__" → mb x = bootBuiltins x
 nolimit : base.NoLimit
set_option genInjectivity false in
set_option genSizeOf false in
structure Cx where
 prog : Program
 w : World
 K : W.Frag
 mg : Str → Option Value
 base : Heap
 A : Around
 N : List Str
 s₀ : Shared
 H₀ : Hp
 env : Env
 outer : List Env
 stack : List Env
 ex : List Addr
 fn : Str → Bool
 calm : Bool
 pn : List (Addr × Obj)
 xe : Value → Shared → Prop
def frs (l : List Env) : List Addr := l.filterMap (·.frame)
abbrev Cx.fs (X : Cx) : List Addr := frs X.outer
def Vis (sc : Scope) (x : Str) : Prop := sc.names.lookup x = some .local ∨ sc.names.lookup x = some .cell ∨ sc.names.lookup x = some .free
def Loc (sc : Scope) (x : Str) : Prop := sc.names.lookup x = some .local ∨ sc.names.lookup x = some .cell
def kJ (env : Env) (h : Heap) (m : Str → Option Value) (x : Str) (u : Value) : Prop :=
 (env.kindOf x = some .local ∧ m x = some u) ∨ ((env.kindOf x = some .cell ∨ env.kindOf x = some .free) ∧ ∃ c, env.cells.lookup x = some c ∧ h.IsCell c (some u))
set_option genInjectivity false in
set_option genSizeOf false in
structure Cx.Ok (X : Cx) : Prop where
 mod : Mod X.K X.mg X.base
 kind : X.env.scope.kind = .function
 glob : X.env.globals = mainGlobals
 blt : X.env.builtins = builtinsNs
 above : X.s₀.heap.objs.size ≤ X.env.locals
 inj : ∀ x y c, X.env.cells.lookup x = some c → X.env.cells.lookup y = some c → x = y
 has : ∀ x, (X.env.kindOf x = some .cell ∨ X.env.kindOf x = some .free) → ∃ c, X.env.cells.lookup x = some c
 cab : ∀ x c, X.fn x = true → X.env.cells.lookup x = some c → X.s₀.heap.objs.size ≤ c
 hd : X.calm = true → X.A.handled = none
 frames : X.A.frames = some X.stack
 stk : X.stack = X.outer ∨ (X.stack = X.env :: X.outer ∧ X.env.frame = some X.env.locals)
 exf : ∀ b ∈ X.ex, b ≠ X.env.locals ∧ ∀ x c, X.env.cells.lookup x = some c → c ≠ b
 bs : ∀ b o, X.base.get? b = some o → X.s₀.heap.get? b = some o ∧ X.H₀ b = none
 bsz : X.base.objs.size ≤ X.s₀.heap.objs.size
 noex : ∀ b o, X.base.get? b = some o → b ∉ X.ex
 exfs : ∀ b ∈ X.ex, b ∉ X.fs
 funs : X.s₀.heap.FunFrames X.base X.outer
 frf : ∀ b ∈ X.fs, X.H₀ b = none
structure Inv (X : Cx) (pins : List (Addr × Obj)) (σ : List (Option V)) (H : Hp) (s : Shared) : Prop where
 ok : X.Ok
 os : s.os = X.s₀.os
 bare : AllBare s.gens
 base : Un X.fs X.ex X.H₀ H X.s₀.heap s.heap
 loc : ∃ m, s.heap.Ns X.env.locals m ∧ ∀ (i : Nat) (x : Str) (v : V), X.N[i]? = some x → σ[i]? = some (some v) → Vis X.env.scope x → ∃ u, aw v u ∧ kJ X.env s.heap m x u
 cell : ∀ x c, X.env.cells.lookup x = some c → ∃ v, s.heap.IsCell c v
 free : H X.env.locals = none
 freeC : ∀ x c, X.env.cells.lookup x = some c → H c = none
 pin : ∀ p ∈ X.pn ++ pins, s.heap.get? p.1 = some p.2 ∧ H p.1 = none ∧ p.1 ≠ X.env.locals ∧ p.1 ∉ X.fs ∧ ∀ v, p.2.data ≠ .cell v
 hok : HOk X.prog X.w H s.heap
 len : σ.length = X.N.length
section
variable {X : Cx} {pins : List (Addr × Obj)} {σ : List (Option V)} {H H' : Hp} {s : Shared} {h' : Heap}
theorem Cx.Ok.nofr (ok : X.Ok) {b : Addr} {o : Obj} (e : X.base.get? b = some o) : b ∉ X.fs := fun hb => by
 have := (ok.funs.mem hb).1
 rw [e] at this; cases this
theorem Inv.bs (I : Inv X pins σ H s) : ∀ b o, X.base.get? b = some o → s.heap.get? b = some o ∧ H b = none := fun b o e =>
 ⟨I.base.keep b o (I.ok.bs b o e).1 (I.ok.bs b o e).2 (I.ok.nofr e) (I.ok.noex b o e), I.base.free b o (I.ok.bs b o e).1 (I.ok.bs b o e).2 (I.ok.noex b o e)⟩
theorem Inv.bk (I : Inv X pins σ H s) : ∀ b o, X.base.get? b = some o → s.heap.get? b = some o := fun b o e => (I.bs b o e).1
theorem Inv.mod (I : Inv X pins σ H s) : Mod X.K X.mg X.base := I.ok.mod
theorem Inv.kIn (I : Inv X pins σ H s) : X.K.In s.heap := I.ok.mod.kin.keeps I.bk
theorem Inv.lt (I : Inv X pins σ H s) : X.env.locals < s.heap.objs.size := let ⟨_, hn, _⟩ := I.loc; hn.lt
theorem Inv.sz (I : Inv X pins σ H s) : X.s₀.heap.objs.size ≤ s.heap.objs.size := Nat.le_trans I.ok.above (Nat.le_of_lt I.lt)
theorem Inv.nofs (I : Inv X pins σ H s) {a : Addr} (h : s.heap.objs.size ≤ a) : a ∉ X.fs := fun hb => by
 obtain ⟨_, o, ho, _⟩ := I.ok.funs.mem hb
 exact absurd (Nat.lt_of_lt_of_le (Heap.lt_size ho) (Nat.le_trans I.sz h)) (Nat.lt_irrefl _)
theorem Inv.cne (I : Inv X pins σ H s) : ∀ x c, X.env.cells.lookup x = some c → c ≠ X.env.locals := fun x c e z => by
 obtain ⟨v, o, ho, hd⟩ := I.cell x c e
 obtain ⟨m, ⟨o', es, ep, ho', hd', _⟩, _⟩ := I.loc
 rw [z, ho'] at ho; cases ho; rw [hd'] at hd; cases hd
theorem Inv.funs (I : Inv X pins σ H s) : s.heap.FunFrames X.base X.outer := by
  have all : ∀ (l : List Env), (∀ b ∈ frs l, b ∈ X.fs) → X.s₀.heap.FunFrames X.base l → s.heap.FunFrames X.base l := by
    intro l
    induction l with
    | nil => intro _ _; trivial
    | cons env r ih =>
      intro hs hl
      obtain ⟨hk, ⟨L, o, hf, hn, ho, hd⟩, hr⟩ := hl
      have hL : L ∈ X.fs := hs L (by unfold frs; rw [List.filterMap_cons, hf]; exact List.mem_cons_self)
      obtain ⟨sl, e⟩ := I.base.slot L o ho (I.ok.frf L hL) hL fun z => I.ok.exfs L z hL
      exact ⟨hk, ⟨L, _, hf, hn, e, hd⟩, ih (fun b hb => hs b (by unfold frs; rw [List.filterMap_cons, hf]; exact List.mem_cons_of_mem _ hb)) hr⟩
  exact all X.outer (fun _ hb => hb) I.ok.funs
theorem Inv.stack (I : Inv X pins σ H s) : s.heap.FunFrames X.base X.stack := by
 rcases I.ok.stk with e | ⟨e, hf⟩
 · rw [e]; exact I.funs
 · rw [e]
   obtain ⟨m, hn, _⟩ := I.loc
   refine .cons (by rw [I.ok.kind]; decide) hf hn ?_ I.funs
   exact Heap.get?_none_of_le (Nat.le_trans I.ok.bsz I.ok.above)
theorem Inv.stkSub (I : Inv X pins σ H s) : ∀ b ∈ frs X.stack, b ∈ X.env.locals :: X.fs := fun b hb => by
 rcases I.ok.stk with e | ⟨e, hf⟩
 · rw [e] at hb; exact List.mem_cons_of_mem _ hb
 · rw [e] at hb
   unfold frs at hb
   rw [List.filterMap_cons, hf] at hb
   exact hb
theorem Inv.stkFree (I : Inv X pins σ H s) : ∀ b ∈ frs X.stack, H b = none := fun b hb => by
 rcases List.mem_cons.mp (I.stkSub b hb) with e | hb
 · rw [e]; exact I.free
 · obtain ⟨_, o, ho, _⟩ := I.ok.funs.mem hb
   exact I.base.free b o ho (I.ok.frf b hb) fun z => I.ok.exfs b z hb
theorem Inv.step {g' : Array GenState} {t' : Nat} {d' : Drawn} {ch : List Addr} (I : Inv X pins σ H s)
   (hch : ∀ b ∈ ch, (b ∈ X.ex ∨ X.s₀.heap.objs.size ≤ b) ∧ b ≠ X.env.locals ∧ (∀ x c, X.env.cells.lookup x = some c → c ≠ b) ∧ ∀ p ∈ X.pn ++ pins, p.1 ≠ b)
   (keep : ∀ b o, b ≠ X.env.locals → b ∉ X.fs → b ∉ ch → s.heap.get? b = some o → H b = none → h'.get? b = some o)
   (slot : ∀ b o, b ≠ X.env.locals → b ∈ X.fs → b ∉ ch → s.heap.get? b = some o → H b = none → ∃ sl, h'.get? b = some { o with slots := sl }) (free : ∀ b o, b ∉ ch → s.heap.get? b = some o → H b = none → H' b = none)
   (there : ∀ b o, b ∉ ch → s.heap.get? b = some o → ∃ o', h'.get? b = some o')
   (tups : ∀ b xs, H b = some (.tup xs) → H' b = some (.tup xs)) (frzs : ∀ b o u, H b = some (.frz o u) → H' b = some (.frz o u)) (tbls : ∀ b ps, H b = some (.tbl ps) → ∃ more, H' b = some (.tbl (ps ++ more)))
   (ns : ∀ m, s.heap.Ns X.env.locals m → h'.Ns X.env.locals m) (hok : HOk X.prog X.w H' h') (hg : AllBare g') :
   Inv X pins σ H' { s with heap := h', gens := g', drawn := d', toks := t' } := by
 have neL : ∀ b o, X.s₀.heap.get? b = some o → b ≠ X.env.locals := fun b o e => Nat.ne_of_lt (Nat.lt_of_lt_of_le (Heap.lt_size e) I.ok.above)
 have neC : ∀ b o, X.s₀.heap.get? b = some o → b ∉ X.ex → b ∉ ch := fun b o e hx hb => by
   rcases (hch b hb).1 with z | z
   · exact hx z
   · exact absurd (Nat.lt_of_lt_of_le (Heap.lt_size e) z) (Nat.lt_irrefl _)
 have cellK : ∀ x c, X.env.cells.lookup x = some c → ∀ v, s.heap.IsCell c v → h'.IsCell c v := fun x c e v ⟨o, ho, hd⟩ => by
   have nch : c ∉ ch := fun z => (hch c z).2.2.1 x c e rfl
   by_cases hc : c ∈ X.fs
   · obtain ⟨sl, q⟩ := slot c o (I.cne x c e) hc nch ho (I.freeC x c e)
     exact ⟨_, q, hd⟩
   · exact ⟨o, keep c o (I.cne x c e) hc nch ho (I.freeC x c e), hd⟩
 refine ⟨I.ok, I.os, hg, ⟨fun b o e n hb hx => ?_, fun b o e n hb hx => ?_, fun b o e n hx => ?_, fun b o e hx => ?_, fun b xs e => tups b xs (I.base.tups b xs e), fun b o xs e => frzs b o xs (I.base.frzs b o xs e), fun b ps e => ?_⟩, ?_, fun x c e => ?_, ?_, fun x c e => ?_, fun p hp => ?_, hok, I.len⟩
 · exact keep b o (neL b o e) hb (neC b o e hx) (I.base.keep b o e n hb hx) (I.base.free b o e n hx)
 · obtain ⟨sl, e1⟩ := I.base.slot b o e n hb hx
   obtain ⟨sl', e2⟩ := slot b _ (neL b o e) hb (neC b o e hx) e1 (I.base.free b o e n hx)
   exact ⟨sl', e2⟩
 · obtain ⟨o', e1⟩ := I.base.there b o e hx
   exact free b o' (neC b o e hx) e1 (I.base.free b o e n hx)
 · obtain ⟨o', e1⟩ := I.base.there b o e hx
   exact there b o' (neC b o e hx) e1
 · obtain ⟨m1, e1⟩ := I.base.tbls b ps e
   obtain ⟨m2, e2⟩ := tbls b _ e1
   exact ⟨m1 ++ m2, by rw [e2, Array.append_assoc]⟩
 · obtain ⟨m, hn, hl⟩ := I.loc
   refine ⟨m, ns m hn, fun i x v e1 e2 e3 => ?_⟩
   obtain ⟨u, r, l⟩ := hl i x v e1 e2 e3
   refine ⟨u, r, ?_⟩
   rcases l with l | ⟨k, c, e, z⟩
   · exact .inl l
   · exact .inr ⟨k, c, e, cellK x c e _ z⟩
 · obtain ⟨v, z⟩ := I.cell x c e
   exact ⟨v, cellK x c e v z⟩
 · obtain ⟨m, ⟨o, _, _, ho, _⟩, _⟩ := I.loc
   exact free _ o (fun z => (hch _ z).2.1 rfl) ho I.free
 · obtain ⟨v, o, ho, hd⟩ := I.cell x c e
   exact free c o (fun z => (hch c z).2.2.1 x c e rfl) ho (I.freeC x c e)
 · obtain ⟨e, n, ne, nf, d⟩ := I.pin p hp
   have nch : p.1 ∉ ch := fun z => (hch p.1 z).2.2.2 p hp rfl
   exact ⟨keep p.1 p.2 ne nf nch e n, free p.1 p.2 nch e n, ne, nf, d⟩
theorem Inv.un {t' : Nat} (I : Inv X pins σ H s) (u : Un X.fs [] H H' s.heap h') (hok : HOk X.prog X.w H' h') : Inv X pins σ H' { s with heap := h', toks := t' } := by
 obtain ⟨m, ⟨o, es, ep, ho, r⟩, _⟩ := id I.loc
 obtain ⟨sl, hL⟩ := u.any ho I.free (by simp)
 exact I.step (g' := s.gens) (d' := s.drawn) (ch := []) (fun _ z => nomatch z) (fun b o _ hb _ e n => u.keep b o e n hb (by simp)) (fun b o _ hb _ e n => u.slot b o e n hb (by simp)) (fun b o _ e n => u.free b o e n (by simp)) (fun b o _ e => u.there b o e (by simp)) u.tups u.frzs u.tbls (fun m' hm => by
  obtain ⟨o', es', ep', ho', r'⟩ := hm
  rw [ho] at ho'; cases ho'
  exact ⟨_, es', ep', hL, r'⟩) hok I.bare
theorem Inv.call {g' : Array GenState} {t' : Nat} {d' : Drawn} {ch : List Addr} (I : Inv X pins σ H s) (u : Un (frs X.stack) ch H H' s.heap h') (hok : HOk X.prog X.w H' h') (hg : AllBare g')
  (hch : ∀ b ∈ ch, (b ∈ X.ex ∨ X.s₀.heap.objs.size ≤ b) ∧ b ≠ X.env.locals ∧ (∀ x c, X.env.cells.lookup x = some c → c ≠ b) ∧ ∀ p ∈ X.pn ++ pins, p.1 ≠ b) :
  Inv X pins σ H' { s with heap := h', gens := g', drawn := d', toks := t' } := by
 obtain ⟨m, ⟨o, es, ep, ho, r⟩, _⟩ := id I.loc
 obtain ⟨sl, hL⟩ := u.any ho I.free fun z => (hch _ z).2.1 rfl
 exact I.step (ch := ch) hch (fun b o hL hb hc e n => u.keep b o e n (fun z => (List.mem_cons.mp (I.stkSub b z)).elim hL hb) hc) (fun b o _ _ hc e n => u.any e n hc) (fun b o hc e n => u.free b o e n hc) (fun b o hc e => u.there b o e hc) u.tups u.frzs u.tbls (fun m' hm => by
  obtain ⟨o', es', ep', ho', r'⟩ := hm
  rw [ho] at ho'; cases ho'
  exact ⟨_, es', ep', hL, r'⟩) hok hg
theorem Inv.turned {t' : Nat} {it : Addr} (I : Inv X pins σ H s) (k : ∀ b o, b ≠ it → s.heap.get? b = some o → h'.get? b = some o) (hn : H it = none) (hL : it ≠ X.env.locals)
   (h1 : it ∈ X.ex ∨ X.s₀.heap.objs.size ≤ it) (h2 : ∀ x c, X.env.cells.lookup x = some c → c ≠ it) (h3 : ∀ p ∈ X.pn ++ pins, p.1 ≠ it) : Inv X pins σ H { s with heap := h', toks := t' } := by
 have nit : ∀ b u, H b = some u → b ≠ it := fun b u e z => by rw [z, hn] at e; cases e
 refine I.step (g' := s.gens) (d' := s.drawn) (ch := [it]) (fun b hb => ?_) (fun b o _ _ hc e _ => k b o (fun z => hc (by simp [z])) e) (fun b o _ _ hc e _ => ⟨o.slots, k b o (fun z => hc (by simp [z])) e⟩) (fun _ _ _ _ n => n)
   (fun b o hc e => ⟨o, k b o (fun z => hc (by simp [z])) e⟩) (fun _ _ e => e) (fun _ _ _ e => e) (fun b ps e => ⟨#[], by rw [e]; simp⟩) (fun m hm => ?_) (fun b u e => ?_) I.bare
 · have e : b = it := by simpa using hb
   subst e
   exact ⟨h1, hL, h2, h3⟩
 · obtain ⟨o, es, ep, ho, r⟩ := hm
   exact ⟨o, es, ep, k _ o (Ne.symm hL) ho, r⟩
 · refine (I.hok b u e).stay (fun c v hc q => k c v ?_ q) (fun _ q => q) fun _ _ q => q
   rcases hc with z | z
   · rw [z]; exact nit b u e
   · exact nit c _ z
theorem Inv.tok (I : Inv X pins σ H s) (t : Nat) : Inv X pins σ H { s with toks := t } := I.un (h' := s.heap) (t' := t) Un.refl I.hok
theorem Inv.kept {t' : Nat} (I : Inv X pins σ H s) (k : ∀ b u, s.heap.get? b = some u → h'.get? b = some u) : Inv X pins σ H { s with heap := h', toks := t' } := I.un (Un.kept k) (I.hok.kept k)
theorem Inv.laid {a : Addr} {o : HO} {t' : Nat} (I : Inv X pins σ H s) (k : ∀ b u, s.heap.get? b = some u → h'.get? b = some u) (hp : s.heap.objs.size ≤ a) (new : aM X.prog X.w (upd H a o) h' a o) :
 Inv X pins σ (upd H a o) { s with heap := h', toks := t' } := I.un (Un.laid k hp (I.hok.fresh hp)) (I.hok.laid k hp new)
theorem Inv.write {x e : Addr} {o : HO} {t' : Nat} (I : Inv X pins σ H s) (mu : Mut (H x)) (he : e = x ∨ H e = some (.own x)) (k : ∀ b u, b ≠ e → s.heap.get? b = some u → h'.get? b = some u) (heo : ∃ u, h'.get? e = some u)
 (new : aM X.prog X.w (upd H x o) h' x o) : Inv X pins σ (upd H x o) { s with heap := h', toks := t' } := I.un (Un.write mu he k heo) (I.hok.write mu he k heo new)
theorem Inv.pins_of {pins' : List (Addr × Obj)} (I : Inv X pins σ H s) (h : ∀ p ∈ pins', s.heap.get? p.1 = some p.2 ∧ H p.1 = none ∧ p.1 ≠ X.env.locals ∧ p.1 ∉ X.fs ∧ ∀ v, p.2.data ≠ .cell v) : Inv X pins' σ H s :=
 ⟨I.ok, I.os, I.bare, I.base, I.loc, I.cell, I.free, I.freeC, fun p hp => (List.mem_append.mp hp).elim (fun z => I.pin p (List.mem_append_left _ z)) (h p), I.hok, I.len⟩
theorem ck {N : List Str} (hN : N.Nodup) {i j : Nat} {x : Str} (a : N[i]? = some x) (b : N[j]? = some x) : i = j := by
 obtain ⟨h1, e1⟩ := List.getElem?_eq_some_iff.mp a
 obtain ⟨h2, e2⟩ := List.getElem?_eq_some_iff.mp b
 exact (List.getElem_inj hN).mp (e1.trans e2.symm)
theorem dR {M : Model} {A : Around} {E : Value → Shared → Prop} {i : Nat} {x : Str} {v : V} {u : Value} {Q : Unit → Shared → Prop} (I : Inv X pins σ H s) (hN : X.N.Nodup) (hi : X.N[i]? = some x) (hx : Loc X.env.scope x) (r : aw v u)
   (h : ∀ s', Inv X pins (σ.set i (some v)) H s' → (∃ a, Heap.SameBut a s.heap s'.heap ∧ (a = X.env.locals ∨ X.env.cells.lookup x = some a)) → Q () s') (hf : X.fn x = true ∨ X.env.scope.names.lookup x = some .local := by first | exact .inl rfl | exact .inr rfl | assumption) : wpAny M A (storeName X.env x u) Q E s := by
 obtain ⟨m, hn, hl⟩ := id I.loc
 have hcls : (X.env.scope.kind == .class || (X.env.scope.kind == .module && X.env.locals != X.env.globals)) = false := by rw [I.ok.kind]; rfl
 have hiσ : i < σ.length := by rw [I.len]; exact (List.getElem?_eq_some_iff.mp hi).1
 have cne := I.cne
 have tracked : ∀ {a : Addr} {h' : Heap}, (∃ o, s.heap.get? a = some o ∧ H a = none) → Heap.SameBut a s.heap h' → HOk X.prog X.w H h' := fun {a h'} ha hs b ob e => by
   obtain ⟨_, _, hfree⟩ := ha
   refine (I.hok b ob e).stay (fun c w' hc q => (hs.2 c ?_).trans q) (fun _ q => q) fun _ _ q => q
   rintro rfl
   rcases hc with rfl | hc
   · rw [hfree] at e; cases e
   · rw [hfree] at hc; cases hc
 rcases hx with hk | hk
 · refine wpAny_storeName_local hk hn (fun h' hn' hs => ?_) hcls
   obtain ⟨oL, _, _, hoL, _⟩ := id hn
   refine h _ ⟨I.ok, I.os, I.bare, ⟨fun b o e n hb hx => ?_, fun b o e n hb hx => ?_, I.base.free, fun b o e hx => ?_, I.base.tups, I.base.frzs, I.base.tbls⟩, ⟨_, hn', fun j y v' e1 e2 e3 => ?_⟩, fun y c e => ?_, I.free, I.freeC, fun p hp => ?_, tracked ⟨oL, hoL, I.free⟩ hs, by simpa using I.len⟩ ⟨_, hs, .inl rfl⟩
   · exact (hs.2 b (Nat.ne_of_lt (Nat.lt_of_lt_of_le (Heap.lt_size e) I.ok.above))).trans (I.base.keep b o e n hb hx)
   · obtain ⟨sl, e1⟩ := I.base.slot b o e n hb hx
     exact ⟨sl, (hs.2 b (Nat.ne_of_lt (Nat.lt_of_lt_of_le (Heap.lt_size e) I.ok.above))).trans e1⟩
   · obtain ⟨o', e1⟩ := I.base.there b o e hx
     exact ⟨o', (hs.2 b (Nat.ne_of_lt (Nat.lt_of_lt_of_le (Heap.lt_size e) I.ok.above))).trans e1⟩
   · by_cases hj : j = i
     · subst hj
       rw [hi] at e1; cases e1
       rw [List.getElem?_set_self hiσ] at e2
       cases e2
       exact ⟨u, r, .inl ⟨hk, by simp⟩⟩
     · rw [List.getElem?_set_ne (Ne.symm hj)] at e2
       obtain ⟨u', r', q⟩ := hl j y v' e1 e2 e3
       refine ⟨u', r', ?_⟩
       rcases q with ⟨k, e⟩ | ⟨k, c, e, z⟩
       · refine .inl ⟨k, ?_⟩
         have : y ≠ x := fun e => hj (ck hN e1 (e ▸ hi))
         simp [this, e]
       · exact .inr ⟨k, c, e, z.sameBut hs (cne y c e)⟩
   · obtain ⟨w', z⟩ := I.cell y c e
     exact ⟨w', z.sameBut hs (cne y c e)⟩
   · obtain ⟨e, n, ne, nf, d⟩ := I.pin p hp
     exact ⟨(hs.2 p.1 ne).trans e, n, ne, nf, d⟩
 · have hfn : X.fn x = true := by
     rcases hf with z | z
     · exact z
     · rw [z] at hk; cases hk
   obtain ⟨c, hc⟩ := I.ok.has x (.inl hk)
   obtain ⟨w', z⟩ := I.cell x c hc
   refine wpAny_storeName_cell I.ok.kind hk hc z (fun h' hc' hs => ?_)
   obtain ⟨oc, hoc, hocd⟩ := id z
   refine h { s with heap := h' } ⟨I.ok, I.os, I.bare, ⟨fun b o e n hb hx => ?_, fun b o e n hb hx => ?_, I.base.free, fun b o e hx => ?_, I.base.tups, I.base.frzs, I.base.tbls⟩, ⟨m, hn.sameBut hs (Ne.symm (cne x c hc)), fun j y v' e1 e2 e3 => ?_⟩, fun y c' e => ?_, I.free, I.freeC, fun p hp => ?_, tracked ⟨oc, hoc, I.freeC x c hc⟩ hs, by simpa using I.len⟩ ⟨c, hs, .inr hc⟩
   · exact (hs.2 b (Nat.ne_of_lt (Nat.lt_of_lt_of_le (Heap.lt_size e) (I.ok.cab x c hfn hc)))).trans (I.base.keep b o e n hb hx)
   · obtain ⟨sl, e1⟩ := I.base.slot b o e n hb hx
     exact ⟨sl, (hs.2 b (Nat.ne_of_lt (Nat.lt_of_lt_of_le (Heap.lt_size e) (I.ok.cab x c hfn hc)))).trans e1⟩
   · obtain ⟨o', e1⟩ := I.base.there b o e hx
     exact ⟨o', (hs.2 b (Nat.ne_of_lt (Nat.lt_of_lt_of_le (Heap.lt_size e) (I.ok.cab x c hfn hc)))).trans e1⟩
   · by_cases hj : j = i
     · subst hj
       rw [hi] at e1; cases e1
       rw [List.getElem?_set_self hiσ] at e2
       cases e2
       exact ⟨u, r, .inr ⟨.inl hk, c, hc, hc'⟩⟩
     · rw [List.getElem?_set_ne (Ne.symm hj)] at e2
       obtain ⟨u', r', q⟩ := hl j y v' e1 e2 e3
       refine ⟨u', r', ?_⟩
       rcases q with q | ⟨k, c', e, z'⟩
       · exact .inl q
       · refine .inr ⟨k, c', e, z'.sameBut hs ?_⟩
         rintro rfl
         exact hj (ck hN e1 (I.ok.inj _ _ _ e hc ▸ hi))
   · by_cases hcc : c' = c
     · subst hcc; exact ⟨_, hc'⟩
     · obtain ⟨w2, z2⟩ := I.cell y c' e
       exact ⟨w2, z2.sameBut hs hcc⟩
   · obtain ⟨e, n, ne, nf, d⟩ := I.pin p hp
     refine ⟨(hs.2 p.1 ?_).trans e, n, ne, nf, d⟩
     intro q
     rw [q, hoc] at e
     have q' : oc = p.2 := Option.some.inj e
     exact d w' (by rw [← q']; exact hocd)
theorem bQ {M : Model} {A : Around} {E : Value → Shared → Prop} {i : Nat} {x : Str} {v : V} {u : Value} {Q : Unit → Shared → Prop} (I : Inv X pins σ H s) (hN : X.N.Nodup) (hi : X.N[i]? = some x) (hx : Loc X.env.scope x) (r : aw v u)
  (h : ∀ s', Inv X pins (σ.set i (some v)) H s' → Q () s') (hf : X.fn x = true ∨ X.env.scope.names.lookup x = some .local := by first | exact .inl rfl | exact .inr rfl | assumption) : wpAny M A (storeName X.env x u) Q E s :=
 dR I hN hi hx r (fun s' I' _ => h s' I') hf
theorem Inv.call' {s' : Shared} {ch : List Addr} (I : Inv X pins σ H s) (ho : s'.os = s.os) (u : Un (frs X.stack) ch H H' s.heap s'.heap) (hok : HOk X.prog X.w H' s'.heap) (hg : AllBare s'.gens)
  (hch : ∀ b ∈ ch, (b ∈ X.ex ∨ X.s₀.heap.objs.size ≤ b) ∧ b ≠ X.env.locals ∧ (∀ x c, X.env.cells.lookup x = some c → c ≠ b) ∧ ∀ p ∈ X.pn ++ pins, p.1 ≠ b) : Inv X pins σ H' s' := by
 obtain ⟨h', g', d', t', o'⟩ := s'
 have e : o' = s.os := ho
 subst e
 exact I.call (g' := g') (t' := t') (d' := d') u hok hg hch
end
abbrev XK := Value → Option Addr → Hp → Prop
abbrev St := List (Option V)
abbrev VK := V → Hp → Prop
abbrev TE := St → Hp → VK → Prop
abbrev TT := St → Hp → (Bool → Hp → Prop) → Prop
abbrev TA := St → Hp → (List V → Hp → Prop) → Prop
structure bI where
 nx : St → Hp → Prop
 rt : VK
 bk : St → Hp → Prop := fun _ _ => False
 ct : St → Hp → Prop := fun _ _ => False
abbrev TS := bI → St → Hp → Prop
def EP (X : Cx) (pins : List (Addr × Obj)) (σ : St) (Q : VK) (u : Value) (s' : Shared) : Prop := ∃ v H', Inv X pins σ H' s' ∧ aw v u ∧ Q v H'
def TP (X : Cx) (pins : List (Addr × Obj)) (σ : St) (Q : Bool → Hp → Prop) (b : Bool) (s' : Shared) : Prop := ∃ H', Inv X pins σ H' s' ∧ Q b H'
def AP (X : Cx) (pins : List (Addr × Obj)) (σ : St) (Q : List V → Hp → Prop) (us : List Value) (s' : Shared) : Prop := ∃ vs H', Inv X pins σ H' s' ∧ au vs us ∧ Q vs H'
def SP (X : Cx) (pins : List (Addr × Obj)) (D : bI) (f : Flow) (s' : Shared) : Prop :=
 match f with
 | .next => ∃ σ' H', Inv X pins σ' H' s' ∧ D.nx σ' H'
 | .brk => ∃ σ' H', Inv X pins σ' H' s' ∧ D.bk σ' H'
 | .cont => ∃ σ' H', Inv X pins σ' H' s' ∧ D.ct σ' H'
 | .ret u => ∃ v σ' H', Inv X pins σ' H' s' ∧ aw v u ∧ D.rt v H'
def PE (X : Cx) (e : Expr) (t : TE) : Prop :=
 ∀ (pins : List (Addr × Obj)) (s : Shared) (σ : St) (H : Hp) (Q : VK), Inv X pins σ H s → t σ H Q → wpAny (model X.prog X.w) X.A (eval e X.env) (EP X pins σ Q) X.xe s
def PT (X : Cx) (e : Expr) (t : TT) : Prop :=
 ∀ (pins : List (Addr × Obj)) (s : Shared) (σ : St) (H : Hp) (Q : Bool → Hp → Prop), Inv X pins σ H s → t σ H Q → wpAny (model X.prog X.w) X.A (isTrue e X.env (eval e X.env)) (TP X pins σ Q) X.xe s
def PW (X : Cx) (e : Expr) (t : TT) : Prop :=
 ∀ (whole : Sem Value) (pins : List (Addr × Obj)) (s : Shared) (σ : St) (H : Hp) (Q : Bool → Hp → Prop), Inv X pins σ H s → t σ H Q → wpAny (model X.prog X.w) X.A (isTrue e X.env whole) (TP X pins σ Q) X.xe s
theorem PW.pt {X : Cx} {e : Expr} {t : TT} (h : PW X e t) : PT X e t := h _
def PA (X : Cx) (es : List Expr) (t : TA) : Prop :=
 ∀ (pos : Pos) (pins : List (Addr × Obj)) (s : Shared) (σ : St) (H : Hp) (Q : List V → Hp → Prop), Inv X pins σ H s → t σ H Q → wpAny (model X.prog X.w) X.A (spliced (backTo pos (starEach es X.env))) (AP X pins σ Q) X.xe s
def PS (X : Cx) (st : Stmt) (t : TS) : Prop :=
 ∀ (pins : List (Addr × Obj)) (s : Shared) (σ : St) (H : Hp) (D : bI), Inv X pins σ H s → t D σ H → wpAny (model X.prog X.w) X.A (exec st X.env) (SP X pins D) X.xe s
def PSs (X : Cx) (st : List Stmt) (t : TS) : Prop :=
 ∀ (pins : List (Addr × Obj)) (s : Shared) (σ : St) (H : Hp) (D : bI), Inv X pins σ H s → t D σ H → wpAny (model X.prog X.w) X.A (execs st X.env) (SP X pins D) X.xe s
theorem thn {α : Type} {t : Sem α} {Q Q' : α → Shared → Prop} {M : Model} {A : Around} {E : Value → Shared → Prop} {s : Shared} (h : wpAny M A t Q E s) (hQ : ∀ a s, Q a s → Q' a s) : wpAny M A t Q' E s := wpAny_mono h hQ fun _ _ x => x
end L2
namespace L2
open PySem PySem.Spec PyProof.Rows
section
variable {X : Cx}
def mE (i : Nat) : TE := fun σ H Q => ∃ v, σ[i]? = some (some v) ∧ Q v H
def tC (v : V) : TE := fun _ H Q => Q v H
theorem kt {i : Nat} {x : Str} {pos : Pos} (hN : X.N[i]? = some x) (hv : Vis X.env.scope x) (hd : (x == ("__debug__" : Str)) = false := by decide) (hcd : (x == ("__classdict__" : Str)) = false := by decide) : PE X (.Name x pos) (mE i) := by
 intro pins s σ H Q I h
 obtain ⟨v, e, h⟩ := h
 obtain ⟨m, hn, hl⟩ := I.loc
 obtain ⟨u, r, l⟩ := hl i x v hN e hv
 have fin : EP X pins σ Q u s := ⟨v, H, I, r, h⟩
 rcases l with ⟨hk, hm⟩ | ⟨hk, c, hc, hcell⟩
 · exact wpAny_Name (wpAny_loadName_local I.ok.kind hk hn hm fin) hd
 · rcases hk with hk | hk
   · exact wpAny_Name (wpAny_loadName_cell I.ok.kind hk hc hcell fin) hd
   · exact wpAny_Name (wpAny_loadName_free I.ok.kind hk hc hcell fin hcd) hd
theorem kB {i j pos} : PE X (.Constant (.int i) j pos) (tC (.int i)) := fun _ _ _ H _ I h => wpAny_Constant_int ⟨.int i, H, I.tok _, ⟨_, rfl⟩, h⟩
theorem lp {b j pos} : PE X (.Constant (.bool b) j pos) (tC (.bl b)) := fun _ _ _ H _ I h => Constant_bool ⟨.bl b, H, I, rfl, h⟩
theorem kS {x j pos} : PE X (.Constant (.str x) j pos) (tC (.str x)) := fun _ _ _ H _ I h => Calls.Constant_str ⟨.str x, H, I.tok _, ⟨_, rfl⟩, h⟩
def Gl (X : Cx) (x : Str) : Prop := X.env.kindOf x = some .globalImplicit
theorem cc {E : Value → Shared → Prop} {pins : List (Addr × Obj)} {s : Shared} {σ : St} {H : Hp} {x : Str} {u : Value} {pos : Pos} {Q : Value → Shared → Prop} (I : Inv X pins σ H s) (hg : Gl X x) (hm : X.mg x = some u) (h : Q u s)
  (hd : (x == ("__debug__" : Str)) = false := by decide) : wpAny (model X.prog X.w) X.A (eval (.Name x pos) X.env) Q E s :=
 Calls.Name_function_global I.ok.kind hg (Calls.loadGlobal_global (by rw [I.ok.glob]; exact I.mod.glob.keeps I.bk) hm h) hd
theorem cI {E : Value → Shared → Prop} {pins : List (Addr × Obj)} {s : Shared} {σ : St} {H : Hp} {x : Str} {u : Value} {pos : Pos} {Q : Value → Shared → Prop} (I : Inv X pins σ H s) (hg : Gl X x) (hm : X.mg x = none) (hv : bootBuiltins x = some u) (h : Q u s)
  (hn : x ≠ "__name__" := by decide) (hd : (x == ("__debug__" : Str)) = false := by decide) : wpAny (model X.prog X.w) X.A (eval (.Name x pos) X.env) Q E s := by
 obtain ⟨mb, h1, h2⟩ := I.mod.blt
 exact Calls.Name_function_global I.ok.kind hg (Calls.loadGlobal_builtin (by rw [I.ok.glob]; exact I.mod.glob.keeps I.bk) hm (by rw [I.ok.blt]; exact h1.keeps I.bk) ((h2 x hn).trans hv) h) hd
theorem ji {x : Str} {v : V} {u : Value} {pos : Pos} (hg : Gl X x) (hm : X.mg x = some u) (r : aw v u) (hd : (x == ("__debug__" : Str)) = false := by decide) : PE X (.Name x pos) (tC v) :=
 fun _ _ _ H _ I h => cc I hg hm ⟨v, H, I, r, h⟩ hd
theorem jM {x : Str} {v : V} {u : Value} {pos : Pos} (hg : Gl X x) (hm : X.mg x = none) (hv : bootBuiltins x = some u) (r : aw v u) (hn : x ≠ "__name__" := by decide) (hd : (x == ("__debug__" : Str)) = false := by decide) : PE X (.Name x pos) (tC v) :=
 fun _ _ _ H _ I h => cI I hg hm hv ⟨v, H, I, r, h⟩ hn hd
variable {a b : Expr} {ta tb : TE} {pos : Pos}
variable {tA tB' : TT} {bd : List Expr}
def dH (t : TT) : TT := fun σ H Q => t σ H fun c H1 => Q (!c) H1
theorem kT (ha : PT X a tA) : PW X (.BoolOp .Or [a] pos) tA := by
 intro wh pins s σ H Q I h
 refine isTrue_or (thn (ha pins s σ H Q I h) fun c s1 e => ?_)
 cases c with
 | false => exact isTrue_or_nil e
 | true => exact e
theorem jP (ha : PT X a tA) : PT X (.UnaryOp .Not a pos) (dH tA) := by
 intro pins s σ H Q I h
 exact isTrue_not (ha pins s σ H (fun c H1 => Q (!c) H1) I h)
theorem kf {op} {t : TE} (h : PE X a t) : PE X (.BoolOp op [a] pos) t := fun pins s σ H Q I hw => BoolOp_one (h pins s σ H Q I hw)
end
end L2
namespace L2
open PySem PySem.Spec PyProof.Rows
def SqL (K : W.Frag) (H : Hp) (a : Addr) (xs : List V) : Prop :=
 Rd H a (.lst xs) ∨
  ∃ (o : Obj) (its : Array Value) (n : Nat), K.lookup a = some o ∧ o.cls = .type "list" ∧ o.dict = none ∧ o.data = .seq its n ∧ its.size ≤ sizeLine ∧ au xs its.toList
def SqT (K : W.Frag) (H : Hp) (a : Addr) (xs : List V) : Prop :=
 Rd H a (.tup xs) ∨
  ∃ (o : Obj) (its : Array Value) (n : Nat), K.lookup a = some o ∧ o.cls = .type "tuple" ∧ o.data = .seq its n ∧ its.size ≤ sizeLine ∧ au xs its.toList
def mi : Value → Option V
 | .none => some .non
 | .bool b => some (.bl b)
 | .int i _ => some (.int i)
 | .str x _ => some (.str x)
 | .bytes b _ => some (.byt b)
 | .float b _ => some (.flt b)
 | .ref a => some (.ref a)
 | .type n => some (.ty n)
 | _ => none
theorem aw.abs {x : V} {u : Value} (r : aw x u) : mi u = some x := by
 cases x with
 | non => cases r; rfl
 | bl _ => cases r; rfl
 | int _ => obtain ⟨t, rfl⟩ := r; rfl
 | str _ => obtain ⟨t, rfl⟩ := r; rfl
 | byt _ => obtain ⟨t, rfl⟩ := r; rfl
 | flt _ => obtain ⟨t, rfl⟩ := r; rfl
 | ref _ => cases r; rfl
 | ty _ => cases r; rfl
theorem aw.inj {x y : V} {u : Value} (r : aw x u) (q : aw y u) : x = y := Option.some.inj (r.abs.symm.trans q.abs)
theorem au.inj : ∀ {xs ys : List V} {us : List Value}, au xs us → au ys us → xs = ys
 | _, _, _, .nil, .nil => rfl
 | _, _, _, .cons r t, .cons r' t' => by rw [r.inj r', au.inj t t']
section
variable {X : Cx} {pins : List (Addr × Obj)} {σ : St} {H : Hp} {s : Shared} {a : Addr} {xs ys : List V}
theorem SqL.of {K : W.Frag} (h : H a = some (.lst xs)) : SqL K H a xs := .inl (.inl h)
theorem Inv.list (I : Inv X pins σ H s) (h : SqL X.K H a xs) : ∃ its : List Value, au xs its ∧ PlainL s.heap a its.toArray ∧ xs.length ≤ sizeLine := by
 rcases h with h | ⟨o, its, n, hk, hc, hd, hs, hz, r⟩
 · obtain ⟨z, its, n, r, e⟩ := h.ok I.hok
   exact ⟨its, r, ⟨_, n, e, rfl, rfl, rfl⟩, z⟩
 · refine ⟨its.toList, r, ⟨o, n, I.kIn a o hk, hc, hd, by simpa using hs⟩, ?_⟩
   have e := r.length
   simp only [Array.length_toList] at e
   omega
theorem Inv.tuple (I : Inv X pins σ H s) (h : SqT X.K H a xs) : ∃ its : List Value, au xs its ∧ IsTup s.heap a its.toArray ∧ xs.length ≤ sizeLine := by
 rcases h with h | ⟨o, its, n, hk, hc, hs, hz, r⟩
 · obtain ⟨z, its, r, p⟩ := h.ok I.hok
   exact ⟨its, r, p, z⟩
 · refine ⟨its.toList, r, ⟨o, I.kIn a o hk, hc, n, by simpa using hs⟩, ?_⟩
   have e := r.length
   simp only [Array.length_toList] at e
   omega
theorem Inv.list_inj (I : Inv X pins σ H s) (h : SqL X.K H a xs) (h' : SqL X.K H a ys) : xs = ys := by
 obtain ⟨its, r, ⟨o, n, e, _, _, d⟩, _⟩ := I.list h
 obtain ⟨its', r', ⟨o', n', e', _, _, d'⟩, _⟩ := I.list h'
 rw [e] at e'; cases e'
 rw [d] at d'
 injection d' with d1 _
 have : its = its' := by simpa using congrArg Array.toList d1
 subst this
 exact r.inj r'
theorem Inv.tuple_inj (I : Inv X pins σ H s) (h : SqT X.K H a xs) (h' : SqT X.K H a ys) : xs = ys := by
 obtain ⟨its, r, ⟨o, e, _, n, d⟩, _⟩ := I.tuple h
 obtain ⟨its', r', ⟨o', e', _, n', d'⟩, _⟩ := I.tuple h'
 rw [e] at e'; cases e'
 rw [d] at d'
 injection d' with d1 _
 have : its = its' := by simpa using congrArg Array.toList d1
 subst this
 exact r.inj r'
end
abbrev Cx.wish (X : Cx) (E : Value → Shared → Prop) : Cx := { X with xe := E }
abbrev Cx.nox (X : Cx) : Cx := X.wish fun _ _ => False
theorem Cx.Ok.wish {X : Cx} (ok : X.Ok) (E : Value → Shared → Prop) : (X.wish E).Ok :=
 ⟨ok.mod, ok.kind, ok.glob, ok.blt, ok.above, ok.inj, ok.has, ok.cab, ok.hd, ok.frames, ok.stk, ok.exf, ok.bs, ok.bsz, ok.noex, ok.exfs, ok.funs, ok.frf⟩
theorem Cx.Ok.unwish {X : Cx} {E : Value → Shared → Prop} (ok : (X.wish E).Ok) : X.Ok :=
 ⟨ok.mod, ok.kind, ok.glob, ok.blt, ok.above, ok.inj, ok.has, ok.cab, ok.hd, ok.frames, ok.stk, ok.exf, ok.bs, ok.bsz, ok.noex, ok.exfs, ok.funs, ok.frf⟩
section
variable {X : Cx} {pins : List (Addr × Obj)} {σ : St} {H : Hp} {s : Shared} {E : Value → Shared → Prop}
theorem Inv.wish (I : Inv X pins σ H s) (E : Value → Shared → Prop) : Inv (X.wish E) pins σ H s := ⟨I.ok.wish E, I.os, I.bare, I.base, I.loc, I.cell, I.free, I.freeC, I.pin, I.hok, I.len⟩
theorem Inv.unwish (I : Inv (X.wish E) pins σ H s) : Inv X pins σ H s := ⟨I.ok.unwish, I.os, I.bare, I.base, I.loc, I.cell, I.free, I.freeC, I.pin, I.hok, I.len⟩
theorem SP.unwish {D : bI} {f : Flow} {s' : Shared} (h : SP (X.wish E) pins D f s') : SP X pins D f s' := by
 cases f with
 | next => obtain ⟨σ', H', I, q⟩ := h; exact ⟨σ', H', I.unwish, q⟩
 | brk => obtain ⟨σ', H', I, q⟩ := h; exact ⟨σ', H', I.unwish, q⟩
 | cont => obtain ⟨σ', H', I, q⟩ := h; exact ⟨σ', H', I.unwish, q⟩
 | ret u => obtain ⟨v, σ', H', I, r, q⟩ := h; exact ⟨v, σ', H', I.unwish, r, q⟩
theorem PSs.nox {st : List Stmt} {t : TS} (h : PSs X.nox st t) : PSs X st t := fun pins s σ H D I hw =>
 wpAny_mono (h pins s σ H D (I.wish _) hw) (fun _ _ q => q.unwish) fun _ _ z => False.elim z
end
section
variable {X : Cx} {st : Stmt} {bd : List Stmt} {t u : TS} {e : Expr} {te : TE} {pos : Pos}
def aK : TS := fun D σ H => D.nx σ H
def aH (t u : TS) : TS := fun D σ H => t { D with nx := u D } σ H
theorem jr : PSs X [] aK := fun _ _ σ H _ I h => wpAny_execs_nil ⟨σ, H, I, h⟩
theorem iv (h1 : PS X st t) (h2 : PSs X bd u) : PSs X (st :: bd) (aH t u) := by
  intro pins s σ H D I h
  refine wpAny_execs_cons (thn (h1 pins s σ H { D with nx := u D } I h) fun f s1 q => ?_)
  cases f with
  | next =>
    obtain ⟨σ', H', I', q⟩ := q
    exact h2 pins s1 σ' H' D I' q
  | ret v => exact q
  | brk => exact q
  | cont => exact q
theorem jE (h1 : PS X st t) : PSs X [st] t := by
 intro pins s σ H D I h
 refine wpAny_execs_cons (thn (h1 pins s σ H D I h) fun f s1 q => ?_)
 cases f with
 | next => exact wpAny_execs_nil q
 | ret v => exact q
 | brk => exact q
 | cont => exact q
theorem Inv.quiet {pins : List (Addr × Obj)} {σ : St} {H : Hp} {s : Shared} (I : Inv X pins σ H s) : interactive X.env = false := by simp [interactive, I.ok.kind]
def bM (te : TE) : TS := fun D σ H => te σ H fun _ H1 => D.nx σ H1
theorem iY (he : PE X e te) (hs : swapsWith e none pos.line X.env = pure false := by rfl) : PS X (.Expr e pos) (bM te) := by
 intro pins s σ H D I h
 exact wpAny_Expr_any (thn (he pins s σ H _ I h) fun v s1 ⟨x, H1, I1, r1, q1⟩ => ⟨σ, H1, I1, q1⟩) I.quiet hs
def bE (te : TE) : TS := fun D σ H => te σ H D.rt
theorem kE (he : PE X e te) : PS X (.Return (some e) pos) (bE te) := by
 intro pins s σ H D I h
 exact wpAny_Return_some (thn (he pins s σ H _ I h) fun v s1 ⟨x, H1, I1, r1, q1⟩ => ⟨x, σ, H1, I1, r1, q1⟩)
end
abbrev TG := V → St → Hp → (St → Hp → Prop) → Prop
def PG (X : Cx) (target : Expr) (t : TG) : Prop :=
 ∀ (pins : List (Addr × Obj)) (s : Shared) (σ : St) (H : Hp) (v : V) (u : Value) (Q : St → Hp → Prop), Inv X pins σ H s → aw v u → t v σ H Q →
  wpAny (model X.prog X.w) X.A (assign target X.env u) (fun _ s' => ∃ σ' H', Inv X pins σ' H' s' ∧ Q σ' H') X.xe s
section
variable {X : Cx} {pos : Pos}
def bj (i : Nat) : TG := fun v σ H Q => Q (σ.set i (some v)) H
theorem jC {i : Nat} {x : Str} (hN : X.N.Nodup) (hi : X.N[i]? = some x) (hx : Loc X.env.scope x) (hf : X.fn x = true ∨ X.env.scope.names.lookup x = some .local := by first | exact .inl rfl | exact .inr rfl | assumption) : PG X (.Name x pos) (bj i) := by
 intro pins s σ H v u Q I r h
 exact wpAny_assign_Name (bQ I hN hi hx r (fun s' I' => ⟨_, H, I', h⟩) hf)
def bP (te : TE) (g : TG) : TS := fun D σ H => te σ H fun x H1 => g x σ H1 D.nx
theorem lc {i : Nat} {x : Str} {e : Expr} {te : TE} {pos' : Pos} (hN : X.N.Nodup) (hi : X.N[i]? = some x) (hx : Loc X.env.scope x) (he : PE X e te) (hs : swapsWith e (some (.Name x pos')) pos.line X.env = pure false := by rfl) (hf : X.fn x = true ∨ X.env.scope.names.lookup x = some .local := by first | exact .inl rfl | exact .inr rfl | assumption) :
  PS X (.Assign [.Name x pos'] e pos) (bP te (bj i)) := by
 intro pins s σ H D I h
 refine wpAny_Assign_Name (thn (he pins s σ H _ I h) fun v s1 ⟨y, H1, I1, r1, q1⟩ => ?_) hs
 exact bQ I1 hN hi hx r1 (fun s2 I2 => ⟨_, H1, I2, q1⟩) hf
end
section
variable {X : Cx} {pos : Pos}
end
structure It where
 go : Nat → Hp → Prop
 yld : Nat → Hp → V → Hp → Prop
 stop : Nat → Hp → Prop
def bN (X : Cx) (pins : List (Addr × Obj)) (H : Hp) (b : Addr) : Prop :=
 H b = none ∧ b ≠ X.env.locals ∧ b ∉ X.fs ∧ (b ∈ X.ex ∨ X.s₀.heap.objs.size ≤ b) ∧ (∀ x c, X.env.cells.lookup x = some c → c ≠ b) ∧ ∀ p ∈ X.pn ++ pins, p.1 ≠ b
theorem Inv.fpOk {X : Cx} {pins : List (Addr × Obj)} {σ : St} {H H' : Hp} {s : Shared} {b : Addr} (I : Inv X pins σ H s) (hb : s.heap.objs.size ≤ b) (hn : H' b = none) : bN X pins H' b := by
 refine ⟨hn, Nat.ne_of_gt (Nat.lt_of_lt_of_le I.lt hb), I.nofs hb, .inr (Nat.le_trans I.sz hb), fun x c e z => ?_, fun p hp z => ?_⟩
 · obtain ⟨v, q⟩ := I.cell x c e
   exact absurd (Nat.lt_of_lt_of_le q.lt (by rw [z]; exact hb)) (Nat.lt_irrefl _)
 · exact absurd (Nat.lt_of_lt_of_le (Heap.lt_size (I.pin p hp).1) (by rw [z]; exact hb)) (Nat.lt_irrefl _)
structure eT (P : Program) (w : World) (K : W.Frag) (tg : Expr) (J : It) (fp : List Addr) (it : Addr) (tn : Nat → Heap → Prop) : Prop where
 mem : it ∈ fp
 obj : ∀ i h, tn i h → ∀ b ∈ fp, ∃ o, h.get? b = some o ∧ ∀ v, o.data ≠ .cell v
 keep : ∀ i h h', tn i h → (∀ b ∈ fp, ∀ o, h.get? b = some o → h'.get? b = some o) → tn i h'
 item : ∀ (X : Cx), X.prog = P → X.w = w → X.K = K → X.calm = true → ∀ (i : Nat) (pins : List (Addr × Obj)) (s : Shared) (σ : St) (H : Hp) (E : Value → Shared → Prop), Inv X pins σ H s → (∀ b ∈ fp, bN X pins H b) → tn i s.heap → J.go i H →
  wpAny (model P w) X.A (pyNext (.ref it)) (fun r s1 => ∃ u, r = some u ∧
   wpAny (model P w) X.A (letOwnedTupleGo tg (.ref it) u) (fun _ s2 => ∃ x H', Inv X pins σ H' s2 ∧ aw x u ∧ J.yld i H x H' ∧ tn (i + 1) s2.heap ∧ ∀ b ∈ fp, H' b = none) E s1) E s
 done : ∀ (X : Cx), X.prog = P → X.w = w → X.K = K → X.calm = true → ∀ (i : Nat) (pins : List (Addr × Obj)) (s : Shared) (σ : St) (H : Hp) (E : Value → Shared → Prop), Inv X pins σ H s → (∀ b ∈ fp, bN X pins H b) → tn i s.heap → J.stop i H →
  wpAny (model P w) X.A (pyNext (.ref it)) (fun r s1 => r = none ∧ Inv X pins σ H s1) E s
 self : ∀ (A : Around) (i : Nat) (s : Shared) (Q : Value → Shared → Prop) (E : Value → Shared → Prop), tn i s.heap → Q (.ref it) s → wpAny (model P w) A (pyIter (.ref it)) Q E s
abbrev TI := St → Hp → (It → Hp → Prop) → Prop
def PIE (X : Cx) (pins : List (Addr × Obj)) (σ : St) (tg : Expr) (R : It → Hp → Prop) (itv : Value) (s2 : Shared) : Prop :=
 ∃ (it : Addr) (fp : List Addr) (tn : Nat → Heap → Prop) (J : It) (H' : Hp), itv = .ref it ∧ Inv X pins σ H' s2 ∧ eT X.prog X.w X.K tg J fp it tn ∧ tn 0 s2.heap ∧ (∀ b ∈ fp, bN X pins H' b) ∧ R J H'
def PI (X : Cx) (tg iter : Expr) (wi : TI) : Prop :=
 ∀ (pins : List (Addr × Obj)) (s : Shared) (σ : St) (H : Hp) (R : It → Hp → Prop), Inv X pins σ H s → wi σ H R →
  wpAny (model X.prog X.w) X.A (eval iter X.env) (fun v s1 => wpAny (model X.prog X.w) X.A (pyIter v) (PIE X pins σ tg R) X.xe s1) X.xe s
theorem dy {M : Model} {A : Around} {E : Value → Shared → Prop} {s : Shared} {tg : Expr} {it : Addr} {u : Value} {o : Obj} {n : String} {vs : Array Value} {Q : Unit → Shared → Prop} (ho : s.heap.get? it = some o) (hc : o.cls = .type n) (hd : o.data = .fields vs)
    (hn : ["enumerate", "zip", "dict_itemiterator", "dict_reverseitemiterator", "odict_iterator", "itertools.zip_longest", "itertools.pairwise"].contains n = false) (hQ : Q () s) : wpAny M A (letOwnedTupleGo tg (.ref it) u) Q E s := by
  unfold letOwnedTupleGo
  cases tg <;> first
    | exact wpAny_pure hQ
    | (cases u <;> first
        | exact wpAny_pure hQ
        | (refine wpAny_bind (wpAny_load ho ?_)
           rw [hc, hd]
           show wpAny M A (if (["enumerate", "zip", "dict_itemiterator", "dict_reverseitemiterator", "odict_iterator", "itertools.zip_longest", "itertools.pairwise"].contains n && vs[0]? == some (rawInt _)) = true then _ else _) Q E s
           rw [if_neg (by intro h; rw [hn, Bool.false_and] at h; cases h)]
           exact wpAny_pure hQ))
def Itl (K : W.Frag) (a : Addr) : It :=
 ⟨fun i H => ∃ xs x, SqL K H a xs ∧ xs[i]? = some x, fun i H x H' => H' = H ∧ ∀ xs, SqL K H a xs → xs[i]? = some x, fun i H => ∃ xs, SqL K H a xs ∧ xs.length ≤ i⟩
def Itt (K : W.Frag) (a : Addr) : It :=
 ⟨fun i H => ∃ xs x, SqT K H a xs ∧ xs[i]? = some x, fun i H x H' => H' = H ∧ ∀ xs, SqT K H a xs → xs[i]? = some x, fun i H => ∃ xs, SqT K H a xs ∧ xs.length ≤ i⟩
def Itr (lo : Int) (n : Nat) : It := ⟨fun i _ => i < n, fun i H x H' => H' = H ∧ x = .int (lo + i), fun i _ => n ≤ i⟩
theorem gK {P : Program} {w : World} {K : W.Frag} {tg : Expr} (a it : Addr) : eT P w K tg (Itl K a) [it] it (fun i h => h.IsListIter it a i) where
 mem := by simp
 obj := fun i h st b hb => by
  have e : b = it := by simpa using hb
  subst e
  obtain ⟨o, e, c, d⟩ := st
  exact ⟨o, e, fun v z => by rw [d] at z; cases z⟩
 keep := fun i h h' st k => st.at fun o e => k it (by simp) o e
 item := by
  intro X hP hw hK hc i pins s σ H E I hf st hg
  subst hP hw hK
  obtain ⟨xs, x, hq, hx⟩ := hg
  obtain ⟨its, rv, p, hz⟩ := I.list hq
  obtain ⟨u, hu, ru⟩ := rv.get hx
  obtain ⟨f0, f1, f2, f3, f4, f5⟩ := hf it (by simp)
  refine wpAny_pyNext_list_item st p.isList (x := u) (by simpa using hu) fun h' st' sb => ?_
  have I1 : Inv X pins σ H { s with heap := h' } := I.turned (t' := s.toks) (fun b o hb e => (sb.2 b hb).trans e) f0 f1 f3 f4 f5
  obtain ⟨o, e, c, d⟩ := id st'
  exact ⟨u, rfl, dy (s := { s with heap := h' }) e c d (by decide) ⟨x, H, I1, ru, ⟨rfl, fun ys hy => by rw [I.list_inj hy hq]; exact hx⟩, st', fun b hb => (hf b hb).1⟩⟩
 done := by
  intro X hP hw hK hc i pins s σ H E I hf st hg
  subst hP hw hK
  obtain ⟨xs, hq, hx⟩ := hg
  obtain ⟨its, rv, p, hz⟩ := I.list hq
  obtain ⟨f0, f1, f2, f3, f4, f5⟩ := hf it (by simp)
  have hl := rv.length
  exact wpAny_pyNext_list_end (I.ok.hd hc) st p.isList (by simp; omega) fun h' eb => ⟨rfl, I.turned (t' := s.toks) (fun b o hb e => eb b o hb e) f0 f1 f3 f4 f5⟩
 self := fun _ _ _ _ _ st h => wpAny_pyIter_listiter st h
theorem fY {P : Program} {w : World} {K : W.Frag} {tg : Expr} (a it : Addr) : eT P w K tg (Itt K a) [it] it (fun i h => h.IsTupleIter it a i) where
 mem := by simp
 obj := fun i h st b hb => by
  have e : b = it := by simpa using hb
  subst e
  obtain ⟨o, e, c, d⟩ := st
  exact ⟨o, e, fun v z => by rw [d] at z; cases z⟩
 keep := fun i h h' st k => st.at fun o e => k it (by simp) o e
 item := by
  intro X hP hw hK hc i pins s σ H E I hf st hg
  subst hP hw hK
  obtain ⟨xs, x, hq, hx⟩ := hg
  obtain ⟨its, rv, p, hz⟩ := I.tuple hq
  obtain ⟨u, hu, ru⟩ := rv.get hx
  obtain ⟨f0, f1, f2, f3, f4, f5⟩ := hf it (by simp)
  refine wpAny_pyNext_tuple_item st (show s.heap.IsTuple a its.toArray from p) (x := u) (by simpa using hu) fun h' st' sb => ?_
  have I1 : Inv X pins σ H { s with heap := h' } := I.turned (t' := s.toks) (fun b o hb e => (sb.2 b hb).trans e) f0 f1 f3 f4 f5
  obtain ⟨o, e, c, d⟩ := id st'
  exact ⟨u, rfl, dy (s := { s with heap := h' }) e c d (by decide) ⟨x, H, I1, ru, ⟨rfl, fun ys hy => by rw [I.tuple_inj hy hq]; exact hx⟩, st', fun b hb => (hf b hb).1⟩⟩
 done := by
  intro X hP hw hK hc i pins s σ H E I hf st hg
  subst hP hw hK
  obtain ⟨xs, hq, hx⟩ := hg
  obtain ⟨its, rv, p, hz⟩ := I.tuple hq
  obtain ⟨f0, f1, f2, f3, f4, f5⟩ := hf it (by simp)
  have hl := rv.length
  exact wpAny_pyNext_tuple_end (I.ok.hd hc) st (show s.heap.IsTuple a its.toArray from p) (by simp; omega) fun h' eb => ⟨rfl, I.turned (t' := s.toks) (fun b o hb e => eb b o hb e) f0 f1 f3 f4 f5⟩
 self := fun _ _ _ _ _ st h => wpAny_pyIter_tupleiter st h
theorem fE {P : Program} {w : World} {K : W.Frag} {tg : Expr} (it : Addr) (lo : Int) (n : Nat) : eT P w K tg (Itr lo n) [it] it (fun i h => IsRangeIter h it (lo + (i : Nat) * 1) ((n : Int) - (i : Nat)) 1) where
 mem := by simp
 obj := fun i h st b hb => by
  have e : b = it := by simpa using hb
  subst e
  exact ⟨_, st, fun v z => by
   have z' : Data.fields _ = Data.cell v := z
   cases z'⟩
 keep := fun i h h' st k => k it (by simp) _ st
 item := by
  intro X hP hw hK hc i pins s σ H E I hf st hg
  subst hP hw hK
  obtain ⟨f0, f1, f2, f3, f4, f5⟩ := hf it (by simp)
  have W := Walks.range (prog := X.prog) (w := X.w) (I.ok.hd hc) it lo 1 n
  refine W.item i s _ _ hg st fun v h' tk hv st' kk => ?_
  obtain ⟨t, rfl⟩ := hv
  have I1 : Inv X pins σ H { s with heap := h', toks := tk } := I.turned (fun b o hb e => kk b o (by simpa using hb) e) f0 f1 f3 f4 f5
  refine ⟨_, rfl, dy (s := { s with heap := h', toks := tk }) (n := "range_iterator") st' rfl rfl (by decide) ⟨.int (lo + i), H, I1, ⟨t, ?_⟩, ⟨rfl, rfl⟩, st', fun b hb => (hf b hb).1⟩⟩
  rw [Int.mul_one]
 done := by
  intro X hP hw hK hc i pins s σ H E I hf st hg
  subst hP hw hK
  obtain ⟨f0, f1, f2, f3, f4, f5⟩ := hf it (by simp)
  exact wpAny_pyNext_range_end (I.ok.hd hc) st (by have : n ≤ i := hg; omega) fun h' eb => ⟨rfl, I.turned (t' := s.toks) (fun b o hb e => eb b o hb e) f0 f1 f3 f4 f5⟩
 self := fun _ _ _ _ _ st h => wpAny_pyIter_rangeiter st h
end L2
namespace L2
open PySem PySem.Spec PyProof.Rows
section
variable {X : Cx} {tg : Expr}
theorem ik {pins : List (Addr × Obj)} {σ : St} {H : Hp} {s : Shared} {R : It → Hp → Prop} {E : Value → Shared → Prop} {lo hi : Int} {t u v : Tok} {tk : Nat} (I : Inv X pins σ H s) (h1 : -(2 ^ 62) ≤ lo) (h2 : lo < 2 ^ 62) (h3 : -(2 ^ 62) ≤ hi) (h4 : hi < 2 ^ 62)
   (q : R (Itr lo (hi - lo).toNat) H) : wpAny (model X.prog X.w) X.A (pyIter (.ref s.heap.objs.size)) (PIE X pins σ tg R) E { s with heap := s.heap.push { cls := .type "range", data := .fields #[.int lo t, .int hi u, .int 1 v] }, toks := tk } := by
 refine wpAny_pyIter_range (IsRange.new ..) (small_one h1 h2 h3 h4) ?_
 have I1 : Inv X pins σ H { s with heap := s.heap.push { cls := .type "range", data := .fields #[.int lo t, .int hi u, .int 1 v] }, toks := tk } := I.kept fun b o e => Heap.get?_push_of_some _ e
 refine ⟨(s.heap.push { cls := .type "range", data := .fields #[.int lo t, .int hi u, .int 1 v] }).objs.size, [(s.heap.push { cls := .type "range", data := .fields #[.int lo t, .int hi u, .int 1 v] }).objs.size], _, _, H, rfl,
   I1.kept (t' := tk) fun b o e => Heap.get?_push_of_some _ e, fE _ lo (hi - lo).toNat, ?_, fun b hb => ?_, q⟩
 · have e1 : lo + ((0 : Nat) : Int) * 1 = lo := by simp
   have e2 : (((hi - lo).toNat : Nat) : Int) - ((0 : Nat) : Int) = Builtin.Range.rangeSize lo hi 1 := by rw [rangeSize_one]; split <;> omega
   show IsRangeIter _ _ (lo + ((0 : Nat) : Int) * 1) ((((hi - lo).toNat : Nat) : Int) - ((0 : Nat) : Int)) 1
   rw [e1, e2]
   exact Heap.get?_push_size _ rfl
 · have e : b = (s.heap.push { cls := .type "range", data := .fields #[.int lo t, .int hi u, .int 1 v] }).objs.size := by simpa using hb
   subst e
   exact I1.fpOk (Nat.le_refl _) (I1.hok.fresh (Nat.le_refl _))
def fW (ta : TA) : TI := fun σ H R => ta σ H fun vs H1 => ∃ j : Int, vs = [.int j] ∧ -(2 ^ 62) ≤ j ∧ j < 2 ^ 62 ∧ R (Itr 0 j.toNat) H1
theorem gI {a : Expr} {ta : TA} {p pos : Pos} (hg : Gl X "range") (hm : X.mg "range" = none) (ha : PA X [a] ta) (hs : starEach [a] X.env = [(false, eval a X.env)] := by rfl) : PI X tg (.Call (.Name "range" p) [a] [] pos) (fW ta) := by
  intro pins s σ H R I h
  refine Call_ (cI I hg hm boot_range (PyProof.Rows.callWith_type1 (thn (ha pos pins s σ H _ I h) fun us s1 ⟨vs, H1, I1, r1, q1⟩ => ?_) hs rfl))
  obtain ⟨j, e, q1, q2, q⟩ := q1
  subst e
  cases r1 with
  | cons r rr =>
    cases rr
    obtain ⟨t, rfl⟩ := r
    exact call_range_1 (ik I1 (by omega) (by omega) q1 q2 (by simpa using q))
def gd (wi : TI) (g : TG) (tb : TS) : TS := fun D σ H => wi σ H fun J H1 => ∃ W : Nat → Nat → St → Hp → Prop, (∃ m, W 0 m σ H1) ∧ ∀ i m σ H, W i m σ H →
 (J.stop i H ∧ D.nx σ H) ∨ (J.go i H ∧ ∃ N : St → Hp → Prop, (∀ σ' H', N σ' H' → ∃ m', m' < m ∧ W (i + 1) m' σ' H') ∧ ∀ x H', J.yld i H x H' → g x σ H' fun σ2 H2 => tb { D with nx := N, ct := N, bk := D.nx } σ2 H2)
def cL (fp : List Addr) (h : Heap) : List (Addr × Obj) := fp.filterMap fun b => (h.get? b).map fun o => (b, o)
theorem bL {fp : List Addr} {h : Heap} {b : Addr} {o : Obj} (hb : b ∈ fp) (e : h.get? b = some o) : (b, o) ∈ cL fp h := List.mem_filterMap.mpr ⟨b, hb, by rw [e]; rfl⟩
theorem gJ {fp : List Addr} {h : Heap} {p : Addr × Obj} (hp : p ∈ cL fp h) : p.1 ∈ fp ∧ h.get? p.1 = some p.2 := by
  obtain ⟨b, hb, e⟩ := List.mem_filterMap.mp hp
  cases q : h.get? b with
  | none => rw [q] at e; cases e
  | some o =>
    rw [q] at e
    have e' : (b, o) = p := Option.some.inj e
    subst e'
    exact ⟨hb, q⟩
theorem Inv.pinned {pins : List (Addr × Obj)} {σ : St} {H : Hp} {s : Shared} {fp : List Addr} (I : Inv X pins σ H s) (hf : ∀ b ∈ fp, bN X pins H b) (ho : ∀ b ∈ fp, ∃ o, s.heap.get? b = some o ∧ ∀ v, o.data ≠ .cell v) : Inv X (pins ++ cL fp s.heap) σ H s :=
 I.pins_of fun p hp => (List.mem_append.mp hp).elim (fun z => I.pin p (List.mem_append_right _ z)) fun z => by
  obtain ⟨hb, e⟩ := gJ z
  obtain ⟨f0, f1, f2, _⟩ := hf p.1 hb
  obtain ⟨o, e', d⟩ := ho p.1 hb
  rw [e] at e'; cases e'
  exact ⟨e, f0, f1, f2, d⟩
theorem Inv.unpinned {pins pl : List (Addr × Obj)} {σ : St} {H : Hp} {s : Shared} (I : Inv X (pins ++ pl) σ H s) : Inv X pins σ H s := I.pins_of fun p hp => I.pin p (List.mem_append_right _ (List.mem_append_left _ hp))
theorem km {iter : Expr} {body : List Stmt} {wi : TI} {g : TG} {tb : TS} {pos : Pos} (hp : PassesOwn (model X.prog X.w) X.A X.env X.xe) (hc : X.calm = true) (hi : PI X tg iter wi) (hg : PG X tg g) (hb : PSs X body tb)
   (hs : ∀ x, foldedSetIterable iter X.env x = pure x := by intro _; rfl) : PS X (.For tg iter body [] pos) (gd wi g tb) := by
 intro pins s σ H D I h
 refine wpAny_For (thn (hi pins s σ H _ I h) fun v s1 h1 => thn h1 fun itv s2 h2 => ?_) hs
 obtain ⟨it, fp, tn, J, H2, e, I2, T, st2, f2, W, ⟨m0, w0⟩, turn⟩ := h2
 subst e
 have stat : ∀ {H' : Hp}, (∀ b ∈ fp, H' b = none) → ∀ b ∈ fp, bN X pins H' b := fun hn b hb => ⟨hn b hb, (f2 b hb).2⟩
 refine codeAny_forLoop_any (fun n s' => ∃ i σ' H', Inv X pins σ' H' s' ∧ tn i s'.heap ∧ (∀ b ∈ fp, H' b = none) ∧ W i n σ' H') ?_ m0 ⟨0, σ, H2, I2, st2, fun b hb => (f2 b hb).1, w0⟩
 rintro n s3 ⟨i, σ3, H3, I3, st3, fr3, w3⟩
 rcases turn i n σ3 H3 w3 with ⟨stop, qn⟩ | ⟨go, N, hN, step⟩
 · refine wpAny_passesOwn hp (thn (T.done X rfl rfl rfl hc i pins s3 σ3 H3 X.xe I3 (stat fr3) st3 stop) fun r s4 ⟨hr, I4⟩ => ?_)
   subst hr
   exact wpAny_execs_nil ⟨σ3, H3, I4, qn⟩
 · refine wpAny_passesOwn hp (thn (T.item X rfl rfl rfl hc i pins s3 σ3 H3 X.xe I3 (stat fr3) st3 go) fun r s4 ⟨u, hr, h4⟩ => ?_)
   subst hr
   refine wpAny_passesOwn hp (thn h4 fun _ s5 ⟨x, H5, I5, r5, y5, st5, fr5⟩ => ?_)
   have I5' := I5.pinned (stat fr5) (T.obj _ _ st5)
   refine wpAny_passesOwn hp (thn (hg _ s5 σ3 H5 x u _ I5' r5 (step x H5 y5)) fun _ s6 ⟨σ6, H6, I6, q6⟩ => ?_)
   refine wpAny_passesOwn hp (thn (hb _ s6 σ6 H6 _ I6 q6) fun f s7 q7 => ?_)
   have again : ∀ {σ7 : St} {H7 : Hp}, Inv X (pins ++ cL fp s5.heap) σ7 H7 s7 → N σ7 H7 → ∃ m, m < n ∧ ∃ i σ' H', Inv X pins σ' H' s7 ∧ tn i s7.heap ∧ (∀ b ∈ fp, H' b = none) ∧ W i m σ' H' := fun {σ7 H7} I7 n7 => by
    obtain ⟨m', hm, w7⟩ := hN σ7 H7 n7
    refine ⟨m', hm, i + 1, σ7, H7, I7.unpinned, T.keep _ _ _ st5 fun b hb o e => (I7.pin (b, o) (List.mem_append_right _ (List.mem_append_right _ (bL hb e)))).1, fun b hb => ?_, w7⟩
    obtain ⟨o, e, d⟩ := T.obj _ _ st5 b hb
    exact (I7.pin (b, o) (List.mem_append_right _ (List.mem_append_right _ (bL hb e)))).2.1
   cases f with
   | next => obtain ⟨σ7, H7, I7, n7⟩ := q7; exact again I7 n7
   | cont => obtain ⟨σ7, H7, I7, n7⟩ := q7; exact again I7 n7
   | brk => obtain ⟨σ7, H7, I7, q7⟩ := q7; exact ⟨σ7, H7, I7.unpinned, q7⟩
   | ret v => obtain ⟨x7, σ7, H7, I7, r7, q7⟩ := q7; exact ⟨x7, σ7, H7, I7.unpinned, r7, q7⟩
end
theorem ia {K : W.Frag} {a : Addr} {xs : List V} {g : TG} {tb : TS} {D : bI} {σ : St} {H : Hp} (Pv : Nat → St → Hp → Prop) (h0 : Pv 0 σ H) (hl : ∀ i σ H, i ≤ xs.length → Pv i σ H → SqL K H a xs)
   (hs : ∀ i x σ H, xs[i]? = some x → Pv i σ H → g x σ H fun σ2 H2 => tb { D with nx := Pv (i + 1), ct := Pv (i + 1), bk := D.nx } σ2 H2) (hd : ∀ σ H, Pv xs.length σ H → D.nx σ H) :
   ∃ W : Nat → Nat → St → Hp → Prop, (∃ m, W 0 m σ H) ∧ ∀ i m σ H, W i m σ H →
    ((Itl K a).stop i H ∧ D.nx σ H) ∨ ((Itl K a).go i H ∧ ∃ N : St → Hp → Prop, (∀ σ' H', N σ' H' → ∃ m', m' < m ∧ W (i + 1) m' σ' H') ∧ ∀ x H', (Itl K a).yld i H x H' → g x σ H' fun σ2 H2 => tb { D with nx := N, ct := N, bk := D.nx } σ2 H2) := by
 refine ⟨fun i m σ H => m = xs.length - i ∧ i ≤ xs.length ∧ Pv i σ H, ⟨xs.length, by simp, Nat.zero_le _, h0⟩, ?_⟩
 rintro i m σ H ⟨rfl, hi, p⟩
 have q := hl i σ H hi p
 by_cases hlt : i < xs.length
 · refine .inr ⟨⟨xs, xs[i], q, by simp [hlt]⟩, Pv (i + 1), fun σ' H' p' => ⟨xs.length - (i + 1), by omega, rfl, hlt, p'⟩, fun x H' y => ?_⟩
   obtain ⟨e, y⟩ := y
   subst e
   exact hs i x σ _ (y xs q) p
 · have e : i = xs.length := by omega
   subst e
   exact .inl ⟨⟨xs, q, Nat.le_refl _⟩, hd σ H p⟩
theorem gD {lo : Int} {n : Nat} {g : TG} {tb : TS} {D : bI} {σ : St} {H : Hp} (Pv : Nat → St → Hp → Prop) (h0 : Pv 0 σ H)
   (hs : ∀ i σ H, i < n → Pv i σ H → g (.int (lo + i)) σ H fun σ2 H2 => tb { D with nx := Pv (i + 1), ct := Pv (i + 1), bk := D.nx } σ2 H2) (hd : ∀ σ H, Pv n σ H → D.nx σ H) :
   ∃ W : Nat → Nat → St → Hp → Prop, (∃ m, W 0 m σ H) ∧ ∀ i m σ H, W i m σ H →
    ((Itr lo n).stop i H ∧ D.nx σ H) ∨ ((Itr lo n).go i H ∧ ∃ N : St → Hp → Prop, (∀ σ' H', N σ' H' → ∃ m', m' < m ∧ W (i + 1) m' σ' H') ∧ ∀ x H', (Itr lo n).yld i H x H' → g x σ H' fun σ2 H2 => tb { D with nx := N, ct := N, bk := D.nx } σ2 H2) := by
 refine ⟨fun i m σ H => m = n - i ∧ i ≤ n ∧ Pv i σ H, ⟨n, by simp, Nat.zero_le _, h0⟩, ?_⟩
 rintro i m σ H ⟨rfl, hi, p⟩
 by_cases hlt : i < n
 · refine .inr ⟨hlt, Pv (i + 1), fun σ' H' p' => ⟨n - (i + 1), by omega, rfl, hlt, p'⟩, fun x H' y => ?_⟩
   obtain ⟨e, y⟩ := y
   subst e y
   exact hs i σ _ hlt p
 · have e : i = n := by omega
   subst e
   exact .inl ⟨Nat.le_refl _, hd σ H p⟩
end L2
namespace L2
open PySem PySem.Spec PyProof.Rows
abbrev R2 := V → V → Hp → VK → Prop
def OpR (X : Cx) (f : Value → Value → Sem Value) (r : R2) : Prop :=
 ∀ (pins : List (Addr × Obj)) (s : Shared) (σ : St) (H : Hp) (x y : V) (v u : Value) (Q : VK), Inv X pins σ H s → aw x v → aw y u → r x y H Q →
  wpAny (model X.prog X.w) X.A (f v u) (EP X pins σ Q) X.xe s
def bK (X : Cx) (f : Value) (r : List V → Hp → VK → Prop) : Prop :=
 ∀ (pins : List (Addr × Obj)) (s : Shared) (σ : St) (H : Hp) (xs : List V) (us : List Value) (Q : VK), Inv X pins σ H s → au xs us → r xs H Q →
  wpAny (model X.prog X.w) X.A (call f us) (EP X pins σ Q) X.xe s
def mv (X : Cx) (r : V → Hp → (Bool → Hp → Prop) → Prop) : Prop :=
 ∀ (pins : List (Addr × Obj)) (s : Shared) (σ : St) (H : Hp) (x : V) (v : Value) (Q : Bool → Hp → Prop), Inv X pins σ H s → aw x v → r x H Q →
  wpAny (model X.prog X.w) X.A (truthy v) (TP X pins σ Q) X.xe s
def tOp (r : R2) (ta tb : TE) : TE := fun σ H Q => ta σ H fun x H1 => tb σ H1 fun y H2 => r x y H2 Q
def rI (C : Int → Int → Prop) (g : Int → Int → V) : R2 := fun x y H Q => ∃ i j, x = .int i ∧ y = .int j ∧ C i j ∧ Q (g i j) H
def rI0 (g : Int → Int → V) : R2 := fun x y H Q => ∃ i j, x = .int i ∧ y = .int j ∧ Q (g i j) H
section
variable {X : Cx} {a b c : Expr} {ta tb tc : TE} {pos : Pos}
theorem ib (ha : PE X a ta) (hb : PE X b tb) {pins : List (Addr × Obj)} {s : Shared} {σ : St} {H : Hp} {R : V → V → Hp → Prop} (I : Inv X pins σ H s)
  (h : ta σ H fun x H1 => tb σ H1 fun y H2 => R x y H2) {Q : Value → Shared → Prop} {f : Value → Value → Sem Value}
  (hf : ∀ v u s2 x y H2, Inv X pins σ H2 s2 → aw x v → aw y u → R x y H2 → wpAny (model X.prog X.w) X.A (f v u) Q X.xe s2) :
  wpAny (model X.prog X.w) X.A (eval a X.env) (fun v s₁ => wpAny (model X.prog X.w) X.A (eval b X.env) (fun u s₂ => wpAny (model X.prog X.w) X.A (f v u) Q X.xe s₂) X.xe s₁) X.xe s := by
 refine thn (ha pins s σ H _ I h) fun v s1 ⟨x, H1, I1, r1, q1⟩ => ?_
 refine thn (hb pins s1 σ H1 _ I1 q1) fun u s2 ⟨y, H2, I2, r2, q2⟩ => ?_
 exact hf v u s2 x y H2 I2 r1 r2 q2
theorem lJ {op : Operator} {r : R2} (ho : OpR X (binaryOp op) r) (ha : PE X a ta) (hb : PE X b tb) : PE X (.BinOp a op b pos) (tOp r ta tb) := by
 intro pins s σ H Q I h
 exact wpAny_BinOp (ib ha hb I h fun v u s2 x y H2 I2 rx ry q => ho pins s2 σ H2 x y v u Q I2 rx ry q)
theorem opI {f : Value → Value → Sem Value} {C : Int → Int → Prop} {g : Int → Int → Int}
  (rule : ∀ (i j : Int) (t u : Tok) (s : Shared) (Q : Value → Shared → Prop) (E : Value → Shared → Prop), C i j → Q (.int (g i j) s.toks) { s with toks := s.toks + 1 } → wpAny (model X.prog X.w) X.A (f (.int i t) (.int j u)) Q E s) :
  OpR X f (rI C fun i j => .int (g i j)) := by
 intro pins s σ H x y v u Q I rx ry h
 obtain ⟨i, j, rfl, rfl, hc, q⟩ := h
 obtain ⟨t, rfl⟩ := rx
 obtain ⟨t', rfl⟩ := ry
 exact rule i j t t' s _ _ hc ⟨.int (g i j), H, I.tok _, ⟨_, rfl⟩, q⟩
theorem mJ {f : Value → Value → Sem Value} {g : Int → Int → Int}
  (rule : ∀ (i j : Int) (t u : Tok) (s : Shared) (Q : Value → Shared → Prop) (E : Value → Shared → Prop), Q (.int (g i j) s.toks) { s with toks := s.toks + 1 } → wpAny (model X.prog X.w) X.A (f (.int i t) (.int j u)) Q E s) :
  OpR X f (rI0 fun i j => .int (g i j)) := by
 intro pins s σ H x y v u Q I rx ry h
 obtain ⟨i, j, rfl, rfl, q⟩ := h
 obtain ⟨t, rfl⟩ := rx
 obtain ⟨t', rfl⟩ := ry
 exact rule i j t t' s _ _ ⟨.int (g i j), H, I.tok _, ⟨_, rfl⟩, q⟩
theorem mt {f : Value → Value → Sem Value} {g : Int → Int → Bool}
  (rule : ∀ (i j : Int) (t u : Tok) (s : Shared) (Q : Value → Shared → Prop) (E : Value → Shared → Prop), Q (.bool (g i j)) s → wpAny (model X.prog X.w) X.A (f (.int i t) (.int j u)) Q E s) :
  OpR X f (rI0 fun i j => .bl (g i j)) := by
 intro pins s σ H x y v u Q I rx ry h
 obtain ⟨i, j, rfl, rfl, q⟩ := h
 obtain ⟨t, rfl⟩ := rx
 obtain ⟨t', rfl⟩ := ry
 exact rule i j t t' s _ _ ⟨.bl (g i j), H, I, rfl, q⟩
def mF (i j : Int) : Prop := 0 ≤ j ∧ j ≤ 1000000 ∧ i.natAbs < 2 ^ 64
theorem kI : OpR X (binaryOp .Add) (rI0 fun i j => .int (i + j)) := mJ fun _ _ _ _ _ _ _ q => add_int q
theorem kQ : OpR X (binaryOp .Mod) (rI (fun _ j => 0 < j) fun i j => .int (i % j)) := opI fun i j _ _ _ _ _ hc q => by
 have h1 : (0 : Int) < j := hc
 exact mod_int' (by omega) (by rw [Int.fmod_eq_emod_of_nonneg i (by omega)]; exact q)
theorem kj : OpR X (binaryOp .Pow) (rI mF fun i j => .int (i ^ j.toNat)) := opI fun _ _ _ _ _ _ _ hc q => pow_int_small hc.1 hc.2.1 hc.2.2 q
end
def la : V → V → Bool
 | .non, .non => true | .non, .int _ => true | .int _, .non => true | .non, .bl _ => true | .bl _, .non => true | .non, .str _ => true | .str _, .non => true
 | .int _, .int _ => true | .bl _, .bl _ => true | .str _, .str _ => true | .byt _, .byt _ => true
 | .int _, .str _ => true | .str _, .int _ => true | .bl _, .str _ => true | .str _, .bl _ => true
 | _, _ => false
def rEq : R2 := fun x y H Q => la x y = true ∧ Q (.bl (decide (x = y))) H
def rNe : R2 := fun x y H Q => la x y = true ∧ Q (.bl (!decide (x = y))) H
theorem fq {i j : Int} : decide (V.int i = V.int j) = (i == j) := by
 rw [Bool.eq_iff_iff]
 simp
theorem gz {i j : Bool} : decide (V.bl i = V.bl j) = (i == j) := by
 rw [Bool.eq_iff_iff]
 simp
theorem fx {i j : Str} : decide (V.str i = V.str j) = (i == j) := by
 rw [Bool.eq_iff_iff]
 simp
theorem fv {i j : Array UInt8} : decide (V.byt i = V.byt j) = (i.toList == j.toList) := by
 rw [Bool.eq_iff_iff]
 cases i
 cases j
 simp
section
variable {X : Cx} {a b c : Expr} {ta tb tc : TE} {pos : Pos}
theorem az {pins : List (Addr × Obj)} {σ : St} {H : Hp} {s : Shared} {Q : VK} {k k' : Bool} (I : Inv X pins σ H s) (q : Q (.bl k) H) (e : k = k') : EP X pins σ Q (.bool k') s := by
 subst e
 exact ⟨.bl k, H, I, rfl, q⟩
theorem lD : OpR X (compareOp .Eq) rEq := by
  intro pins s σ H x y v u Q I rx ry h
  obtain ⟨hs, q⟩ := h
  cases x with
  | non =>
    cases rx
    cases y with
    | non => cases ry; exact PySem.EqNone.eq_none_none (az I q (by simp))
    | bl j => cases ry; exact PySem.EqNone.eq_none_bool (az I q (by simp))
    | int j => obtain ⟨t', rfl⟩ := ry; exact PySem.EqNone.eq_none_int (az I q (by simp))
    | str j => obtain ⟨t', rfl⟩ := ry; exact PySem.EqNone.eq_none_str (az I q (by simp))
    | _ => exact absurd (show false = true from hs) Bool.false_ne_true
  | bl i =>
    cases rx
    cases y with
    | non => cases ry; exact PySem.EqNone.eq_bool_none (az I q (by simp))
    | bl j => cases ry; exact eq_bool (az I q gz)
    | str j => obtain ⟨t', rfl⟩ := ry; exact PySem.EqMixed.eq_bool_str (az I q (by simp))
    | _ => exact absurd (show false = true from hs) Bool.false_ne_true
  | int i =>
    obtain ⟨t, rfl⟩ := rx
    cases y with
    | non => cases ry; exact PySem.EqNone.eq_int_none (az I q (by simp))
    | int j => obtain ⟨t', rfl⟩ := ry; exact eq_int (az I q fq)
    | str j => obtain ⟨t', rfl⟩ := ry; exact PySem.EqMixed.eq_int_str (az I q (by simp))
    | _ => exact absurd (show false = true from hs) Bool.false_ne_true
  | str i =>
    obtain ⟨t, rfl⟩ := rx
    cases y with
    | non => cases ry; exact PySem.EqNone.eq_str_none (az I q (by simp))
    | bl j => cases ry; exact PySem.EqMixed.eq_str_bool (az I q (by simp))
    | int j => obtain ⟨t', rfl⟩ := ry; exact PySem.EqMixed.eq_str_int (az I q (by simp))
    | str j => obtain ⟨t', rfl⟩ := ry; exact eq_str (az I q fx)
    | _ => exact absurd (show false = true from hs) Bool.false_ne_true
  | byt i =>
    obtain ⟨t, rfl⟩ := rx
    cases y with
    | byt j => obtain ⟨t', rfl⟩ := ry; exact W.eq_bytes (az I q fv)
    | _ => exact absurd (show false = true from hs) Bool.false_ne_true
  | _ => cases y <;> exact absurd (show false = true from hs) Bool.false_ne_true
theorem lA : OpR X (compareOp .NotEq) rNe := by
  intro pins s σ H x y v u Q I rx ry h
  obtain ⟨hs, q⟩ := h
  cases x with
  | non =>
    cases rx
    cases y with
    | non => cases ry; exact PySem.EqNone.ne_none_none (az I q (by simp))
    | bl j => cases ry; exact PySem.EqNone.ne_none_bool (az I q (by simp))
    | int j => obtain ⟨t', rfl⟩ := ry; exact PySem.EqNone.ne_none_int (az I q (by simp))
    | str j => obtain ⟨t', rfl⟩ := ry; exact PySem.EqNone.ne_none_str (az I q (by simp))
    | _ => exact absurd (show false = true from hs) Bool.false_ne_true
  | bl i =>
    cases rx
    cases y with
    | non => cases ry; exact PySem.EqNone.ne_bool_none (az I q (by simp))
    | bl j => cases ry; exact ne_bool (az I q (congrArg not gz))
    | str j => obtain ⟨t', rfl⟩ := ry; exact PySem.EqMixed.ne_bool_str (az I q (by simp))
    | _ => exact absurd (show false = true from hs) Bool.false_ne_true
  | int i =>
    obtain ⟨t, rfl⟩ := rx
    cases y with
    | non => cases ry; exact PySem.EqNone.ne_int_none (az I q (by simp))
    | int j => obtain ⟨t', rfl⟩ := ry; exact ne_int (az I q (congrArg not fq))
    | str j => obtain ⟨t', rfl⟩ := ry; exact PySem.EqMixed.ne_int_str (az I q (by simp))
    | _ => exact absurd (show false = true from hs) Bool.false_ne_true
  | str i =>
    obtain ⟨t, rfl⟩ := rx
    cases y with
    | non => cases ry; exact PySem.EqNone.ne_str_none (az I q (by simp))
    | bl j => cases ry; exact PySem.EqMixed.ne_str_bool (az I q (by simp))
    | int j => obtain ⟨t', rfl⟩ := ry; exact PySem.EqMixed.ne_str_int (az I q (by simp))
    | str j => obtain ⟨t', rfl⟩ := ry; exact ne_str (az I q (congrArg not fx))
    | _ => exact absurd (show false = true from hs) Bool.false_ne_true
  | byt i =>
    obtain ⟨t, rfl⟩ := rx
    cases y with
    | byt j => obtain ⟨t', rfl⟩ := ry; exact W.ne_bytes (az I q (congrArg not fv))
    | _ => exact absurd (show false = true from hs) Bool.false_ne_true
  | _ => cases y <;> exact absurd (show false = true from hs) Bool.false_ne_true
theorem lI : OpR X (compareOp .Lt) (rI0 fun i j => .bl (decide (i < j))) := mt fun _ _ _ _ _ _ _ q => lt_int q
theorem OpR.or {f : Value → Value → Sem Value} {r r' : R2} (h : OpR X f r) (h' : OpR X f r') : OpR X f (fun x y H Q => r x y H Q ∨ r' x y H Q) := by
 intro pins s σ H x y v u Q I rx ry q
 rcases q with q | q
 · exact h pins s σ H x y v u Q I rx ry q
 · exact h' pins s σ H x y v u Q I rx ry q
theorem dE (b : Expr) {op : CmpOp} (h : op ≠ .In := by decide) (h2 : op ≠ .NotIn := by decide) : behindInMarks op b = false := by
 have e1 : (op == CmpOp.In) = false := by cases op <;> first | rfl | exact absurd rfl h
 have e2 : (op == CmpOp.NotIn) = false := by cases op <;> first | rfl | exact absurd rfl h2
 cases b <;> simp [behindInMarks, e1, e2]
theorem jm {op : CmpOp} {r : R2} (ho : OpR X (compareOp op) r) (ha : PE X a ta) (hb : PE X b tb) (hm : behindInMarks op b = false) : PE X (.Compare a [op] [b] pos) (tOp r ta tb) := by
 intro pins s σ H Q I h
 exact wpAny_Compare1 (ib ha hb I h fun v u s2 x y H2 I2 rx ry q => ho pins s2 σ H2 x y v u Q I2 rx ry q) hm
def kc (K : W.Frag) (x : V) (H : Hp) (k : Bool) : Prop :=
 match x with
 | .non => k = false
 | .bl b => k = b
 | .int i => k = (i != 0)
 | .str y => y.length ≤ sizeLine ∧ k = ((y.length : Int) != 0)
 | .byt y => y.size ≤ sizeLine ∧ k = ((y.size : Int) != 0)
 | .ref p => (∃ xs, SqL K H p xs ∧ k = !xs.isEmpty) ∨ (∃ xs, SqT K H p xs ∧ k = !xs.isEmpty) ∨ ∃ kvs, H p = some (.dK kvs) ∧ k = !kvs.isEmpty
 | _ => False
theorem gl {κ : Type} {kvs : List (κ × V)} {vs : List (κ × Value)} (r : KV kvs vs) : (!vs.isEmpty) = !kvs.isEmpty := by
 cases r <;> rfl
theorem dw {xs : List V} {its : List Value} (r : au xs its) : (!its.toArray.isEmpty) = !xs.isEmpty := by
 cases r <;> simp
theorem dm : (sizeLine : Nat) < 2 ^ 63 := by rw [sizeLine_eq]; decide
theorem kx : mv X (fun x H Q => ∃ k, kc X.K x H k ∧ Q k H) := by
  intro pins s σ H x v Q I rx h
  obtain ⟨k, e, q⟩ := h
  have hl := dm
  have hs : sizeLine = 16777216 := sizeLine_eq
  cases x with
  | non =>
    cases rx
    have e' : k = false := e
    subst e'
    exact truthy_none ⟨H, I, q⟩
  | bl b =>
    cases rx
    have e' : k = b := e
    subst e'
    exact wpAny_truthy_bool ⟨H, I, q⟩
  | int i =>
    obtain ⟨t, rfl⟩ := rx
    have e' : k = (i != 0) := e
    subst e'
    exact PySem.P.truthy_int ⟨H, I, q⟩
  | str y =>
    obtain ⟨t, rfl⟩ := rx
    obtain ⟨hy, e'⟩ : y.length ≤ sizeLine ∧ k = ((y.length : Int) != 0) := e
    subst e'
    exact PySem.P.truthy_str (by omega) ⟨H, I.tok _, q⟩
  | byt y =>
    obtain ⟨t, rfl⟩ := rx
    obtain ⟨hy, e'⟩ : y.size ≤ sizeLine ∧ k = ((y.size : Int) != 0) := e
    subst e'
    exact W.truthy_bytes (by omega) ⟨H, I.tok _, q⟩
  | ref p =>
    cases rx
    have e' : (∃ xs, SqL X.K H p xs ∧ k = !xs.isEmpty) ∨ (∃ xs, SqT X.K H p xs ∧ k = !xs.isEmpty) ∨ ∃ kvs, H p = some (.dK kvs) ∧ k = !kvs.isEmpty := e
    rcases e' with ⟨xs, hx, e'⟩ | ⟨xs, hx, e'⟩ | ⟨kvs, hx, e'⟩
    · subst e'
      obtain ⟨its, r, pl, hz⟩ := I.list hx
      have hlen := r.length
      exact wpAny_truthy_list pl.isList (by simp only [List.size_toArray]; omega) ⟨H, I.tok _, by rw [dw r]; exact q⟩
    · subst e'
      obtain ⟨its, r, pl, hz⟩ := I.tuple hx
      have hlen := r.length
      exact truthy_tuple pl (by simp only [List.size_toArray]; omega) ⟨H, I.tok _, by rw [dw r]; exact q⟩
    · subst e'
      obtain ⟨hz, hS, vs, r, m⟩ : kvs.length ≤ sizeLine ∧ (p == sysModules) = false ∧ ∃ vs, KV kvs vs ∧ s.heap.DictOf (bn X.prog X.w) p vs := I.hok p _ hx
      have hlen : kvs.length = vs.length := Paired.length r
      exact wpAny_truthy_dict hS m (by omega) ⟨H, I.tok _, by rw [gl r]; exact q⟩
  | _ => exact (show False from e).elim
theorem gq : OpR X (binaryOp .Add) (fun x y H Q => ∃ i j, x = .str i ∧ y = .str j ∧ i.length + j.length ≤ sizeLine ∧ Q (.str (i ++ j)) H) := by
 intro pins s σ H x y v u Q I rx ry h
 obtain ⟨i, j, rfl, rfl, hz, q⟩ := h
 obtain ⟨t, rfl⟩ := rx
 obtain ⟨t', rfl⟩ := ry
 exact add_str (fun t' tk => ⟨.str (i ++ j), H, I.tok _, ⟨_, rfl⟩, q⟩) hz
theorem lh {x : V} {us : List Value} (r : au [x] us) : ∃ u, us = [u] ∧ aw x u := by
 cases r with
 | cons r1 r2 => cases r2; exact ⟨_, rfl, r1⟩
theorem li {x y : V} {us : List Value} (r : au [x, y] us) : ∃ u w', us = [u, w'] ∧ aw x u ∧ aw y w' := by
  cases r with
  | cons r1 r2 =>
    cases r2 with
    | cons r3 r4 => cases r4; exact ⟨_, _, rfl, r1, r3⟩
theorem eH : bK X (.type "str") (fun xs H Q => ∃ i, xs = [.int i] ∧ i.natAbs.log2 < 1920 ∧ Q (.str (toString i)) H) := by
 intro pins s σ H xs us Q I r h
 obtain ⟨i, rfl, hz, q⟩ := h
 obtain ⟨u, rfl, t, rfl⟩ := lh r
 exact PySem.P.str_of_int hz ⟨.str _, H, I.tok _, ⟨_, rfl⟩, q⟩
end
end L2
namespace L2
open PySem PySem.Spec PyProof.Rows
theorem gB {h : Heap} {dx : Addr} {mA : Str → Option Value} (n : h.Ns1 dx mA) : ∃ od, h.get? dx = some od ∧ ∀ name, W.lookIn name od = some (mA name) := by
 obtain ⟨o, es, ep, ho, hd, hk, _, hm⟩ := n
 refine ⟨o, ho, fun name => ?_⟩
 have e := hm name
 unfold nsFind findBy at e
 rw [← Array.find?_toList] at e
 unfold W.lookIn
 rw [hd]
 dsimp only
 split
 · rename_i y q
   rw [q] at e
   exact congrArg some e
 · rename_i q
   rw [q] at e
   have a : es.toList.any (·.refKey) = false := by
    rw [List.any_eq_false]
    intro y hy
    obtain ⟨z, t, hkey⟩ := hk y (Array.mem_toList_iff.mp hy)
    simp [DictEntry.refKey, hkey]
   have a' : ¬ es.toList.any (·.refKey) = true := by rw [a]; exact Bool.false_ne_true
   rw [if_neg a']
   exact congrArg some e
section
variable {prog : Program} {w : World} {A : Around} {E : Value → Shared → Prop} {s : Shared} {K : W.Frag} {x dx C f : Addr} {mA : Str → Option Value} {name : Str} {v : Value}
end
def bx (f : Str) (v : V) : List (Str × V) → List (Str × V)
 | [] => [(f, v)]
 | (g, x) :: r => if g = f then (g, v) :: r else (g, x) :: bx f v r
theorem cX (f g : Str) (v : V) : ∀ fs : List (Str × V), (bx f v fs).lookup g = if g = f then some v else fs.lookup g
  | [] => by
    show List.lookup g [(f, v)] = _
    by_cases h : g = f
    · have hb : (g == f) = true := beq_iff_eq.mpr h
      simp only [List.lookup, hb, if_pos h]
    · have hb : (g == f) = false := beq_eq_false_iff_ne.mpr h
      simp only [List.lookup, hb, if_neg h]
  | (k, x) :: r => by
    have ih := cX f g v r
    rw [show bx f v ((k, x) :: r) = (if k = f then (k, v) :: r else (k, x) :: bx f v r) from rfl]
    by_cases hk : k = f
    · rw [if_pos hk]
      by_cases h : g = k
      · have hb : (g == k) = true := beq_iff_eq.mpr h
        simp only [List.lookup, hb, if_pos (h.trans hk)]
      · have hb : (g == k) = false := beq_eq_false_iff_ne.mpr h
        simp only [List.lookup, hb, if_neg (fun e : g = f => h (e.trans hk.symm))]
    · rw [if_neg hk]
      by_cases h : g = k
      · have hb : (g == k) = true := beq_iff_eq.mpr h
        simp only [List.lookup, hb, if_neg (fun e : g = f => hk (h.symm.trans e))]
      · have hb : (g == k) = false := beq_eq_false_iff_ne.mpr h
        simp only [List.lookup, hb]
        exact ih
theorem bC.some_of {v : V} {o : Option Value} (r : bC (some v) o) : ∃ u, o = some u ∧ aw v u := by
 cases o with
 | none => exact (show False from r).elim
 | some u => exact ⟨u, rfl, r⟩
theorem gP {v : V} {u : Value} (r : aw v u) : W.handedIn u = true := by
 cases v with
 | non => cases (show u = Value.none from r); rfl
 | bl b => cases (show u = Value.bool b from r); rfl
 | int i => obtain ⟨t, e⟩ := (show ∃ t, u = Value.int i t from r); cases e; rfl
 | str x => obtain ⟨t, e⟩ := (show ∃ t, u = Value.str x t from r); cases e; rfl
 | byt b => obtain ⟨t, e⟩ := (show ∃ t, u = Value.bytes b t from r); cases e; rfl
 | flt b => obtain ⟨t, e⟩ := (show ∃ t, u = Value.float b t from r); cases e; rfl
 | ref a => cases (show u = Value.ref a from r); rfl
 | ty n => cases (show u = Value.type n from r); rfl
section
variable {P : Program} {w : World} {H H' : Hp} {h h' : Heap} {a C dx : Addr} {fs fs' : List (Str × V)}
end
section
variable {X : Cx} {pins : List (Addr × Obj)} {σ : St} {H : Hp} {s : Shared} {a C dx : Addr} {fs : List (Str × V)} {f : Str} {v : V} {A : Around} {E : Value → Shared → Prop}
theorem ja {prog : Program} {w : World} {env : Env} {e : Expr} {f : Str} {pos : Pos} {s : Shared} {Q : Value → Shared → Prop} (hb : attributeBase e f env (eval e env) = eval e env)
  (h : wpAny (model prog w) A (eval e env) (fun o s₁ => wpAny (model prog w) A (getAttr o f true) Q E s₁) E s) : wpAny (model prog w) A (eval (.Attribute e f pos) env) Q E s :=
 Attribute_any_ h (by rw [arm_eval_Attribute, hb])
end
section
variable {X : Cx} {o e value : Expr} {f : Str} {pos pos' tpos : Pos} {ta tv : TE}
end
section
variable {X : Cx} {pins : List (Addr × Obj)} {σ : St} {H : Hp} {s : Shared} {A : Around} {E : Value → Shared → Prop} {Q : Value → Shared → Prop} {c : Value} {b : Bool}
end
end L2
namespace L2
open PySem PySem.Spec PyProof.Rows
structure aE (k : Nat) (A : Around) : Prop where
 hd : A.handled = none
 dp : A.depth + 3 * k + 5 < recursionLimit
 un : A.units + 16 * k + 200 < cLine
theorem aE.mono {j k : Nat} {A : Around} (r : aE k A) (h : j ≤ k) : aE j A := ⟨r.hd, by have := r.dp; omega, by have := r.un; omega⟩
theorem aE.deeper {k : Nat} {A : Around} (r : aE (k + 1) A) (env : Env) : aE k (A.deeper env) :=
 ⟨r.hd, by have := r.dp; show A.depth + 1 + 3 * k + 5 < _; omega, by have := r.un; show A.units + 3 + 16 * k + 200 < _; omega⟩
theorem fG {A : Around} {C : Addr} {us : List Value} {kw : List (Str × Value)} : (A.under (.builtin "type.__call__" ⟨.ref C :: us, kw⟩)).depth = A.depth + 1 := by
 first | rfl | simp [Around.under, Code.weight, Code.isCreation, Code.isGuard, Code.isCaller, Code.frames, Code.isFrame, guardIds]
theorem gb {A : Around} {C : Addr} {us : List Value} {kw : List (Str × Value)} : (A.under (.builtin "type.__call__" ⟨.ref C :: us, kw⟩)).units = A.units + 1 := by
 first | rfl | simp [Around.under, Code.cUnits, Code.frames, Code.isFrame]
theorem aE.make {k : Nat} {A : Around} (r : aE (k + 1) A) (C : Addr) (us : List Value) (kw : List (Str × Value)) : aE k (A.under (.builtin "type.__call__" ⟨.ref C :: us, kw⟩)) :=
 ⟨r.hd, by have := r.dp; rw [fG]; omega, by have := r.un; rw [gb]; omega⟩
theorem aE.depth {k : Nat} {A : Around} (r : aE k A) : A.depth < recursionLimit := by have := r.dp; omega
def ax : TA := fun _ H Q => Q [] H
def ae (ta : TE) (tr : TA) : TA := fun σ H Q => ta σ H fun x H1 => tr σ H1 fun xs H2 => Q (x :: xs) H2
section
variable {X : Cx} {e : Expr} {es : List Expr} {te : TE} {t : TA} {pos : Pos}
theorem kd : PA X [] ax := fun _ _ _ _ H Q I h => Calls.spliced_nil ⟨[], H, I, .nil, h⟩
theorem jp (ha : PE X e te) (hr : PA X es t) (hs : starEach (e :: es) X.env = (false, eval e X.env) :: starEach es X.env := by rfl) : PA X (e :: es) (ae te t) := by
 intro pos pins s σ H Q I h
 rw [hs]
 show wpAny _ _ (spliced ((false, eval e X.env) :: backTo pos (starEach es X.env))) _ _ s
 refine Calls.spliced_cons (thn (ha pins s σ H _ I h) fun u s1 ⟨x, H1, I1, r1, q1⟩ => ?_)
 exact thn (hr pos pins s1 σ H1 _ I1 q1) fun us s2 ⟨xs, H2, I2, r2, q2⟩ => ⟨x :: xs, H2, I2, .cons r1 r2, q2⟩
def cn (t : TA) : TE := fun σ H Q => t σ H fun xs H1 => xs.length ≤ sizeLine ∧ ∀ p, H1 p = none → Q (.ref p) (upd H1 p (.lst xs))
theorem kG (h : PA X es t) : PE X (.List es pos) (cn t) := by
 intro pins s σ H Q I hq
 refine wpAny_List_spliced (thn (h pos pins s σ H _ I hq) fun us s1 ⟨xs, H1, I1, r, z, q⟩ => ⟨by rw [← r.length]; exact z, ?_⟩)
 have hf : H1 s1.heap.objs.size = none := I1.hok.fresh (Nat.le_refl _)
 refine ⟨.ref s1.heap.objs.size, upd H1 s1.heap.objs.size (.lst xs), I1.laid (t' := s1.toks) (fun b u e => Heap.get?_push_of_some _ e) (Nat.le_refl _) ?_, rfl, q _ hf⟩
 exact ⟨z, us, 0, r, Heap.get?_push_size _ rfl⟩
end
abbrev Sp := List V → Hp → VK → XK → Prop
abbrev CXT := List Env → Hp → Shared → XK → Value → Shared → Prop
structure cB (P : Program) (w : World) (K : W.Frag) (mg : Str → Option Value) (base : Heap) (A : Around) (outer : List Env) (s : Shared) (H : Hp) : Prop where
 frames : A.frames = some outer
 mod : Mod K mg base
 bs : ∀ b o, base.get? b = some o → s.heap.get? b = some o ∧ H b = none
 bsz : base.objs.size ≤ s.heap.objs.size
 funs : s.heap.FunFrames base outer
 frf : ∀ b ∈ frs outer, H b = none
 hok : HOk P w H s.heap
 bare : AllBare s.gens
def CE (outer : List Env) (P : Program) (w : World) (H : Hp) (s : Shared) (Q : VK) (u : Value) (s' : Shared) : Prop :=
 ∃ v H', s'.os = s.os ∧ AllBare s'.gens ∧ Un (frs outer) [] H H' s.heap s'.heap ∧ HOk P w H' s'.heap ∧ aw v u ∧ Q v H'
def CR (CX : CXT) (outer : List Env) (P : Program) (w : World) (H : Hp) (s : Shared) (Q : VK) (E : XK) (r : Result) (s' : Shared) : Prop :=
 match r with
 | .ok (.ret u) => CE outer P w H s Q u s'
 | .ok _ => False
 | .error e => CX outer H s E e s'
structure bh (P : Program) (w : World) (K : W.Frag) (mg : Str → Option Value) (base : Heap) (CX : CXT) (k : Nat) (f : Addr) (fd : FuncData) (ps : List Str) (sp : Sp) : Prop where
 len : ∀ vs H Q E, sp vs H Q E → vs.length = ps.length
 run : ∀ (A : Around) (outer : List Env) (s : Shared) (H : Hp) (args : Args) (us : List Value) (vs : List V) (Q : VK) (E : XK), aE k A → cB P w K mg base A outer s H → BindsTo s fd args (ps.zip us) → au vs us → sp vs H Q E →
  codeAny (model P w) A (.call (.ref f) args) (CR CX outer P w H s Q E) s
theorem cB.make {P : Program} {w : World} {K : W.Frag} {mg : Str → Option Value} {base : Heap} {A : Around} {outer : List Env} {s : Shared} {H : Hp} (e : cB P w K mg base A outer s H) (C : Addr) (us : List Value) (kw : List (Str × Value)) :
 cB P w K mg base (A.under (.builtin "type.__call__" ⟨.ref C :: us, kw⟩)) outer s H := ⟨by first | exact e.frames | (simpa [Around.under, Code.envs, Code.isFrame, pushEnvs] using e.frames), e.mod, e.bs, e.bsz, e.funs, e.frf, e.hok, e.bare⟩
section
variable {X : Cx} {pins : List (Addr × Obj)} {σ : St} {H : Hp} {s s' : Shared}
theorem Inv.env0 (I : Inv X pins σ H s) : cB X.prog X.w X.K X.mg X.base X.A X.stack s H :=
 ⟨I.ok.frames, I.ok.mod, I.bs, Nat.le_trans I.ok.bsz I.sz, I.stack, I.stkFree, I.hok, I.bare⟩
theorem Inv.after {Q : VK} {u : Value} (I : Inv X pins σ H s) (h : CE X.stack X.prog X.w H s Q u s') : EP X pins σ Q u s' := by
 obtain ⟨v, H', os, bare, un, hok, r, q⟩ := h
 obtain ⟨hh, g, d, t, os'⟩ := s'
 obtain rfl : os' = s.os := os
 exact ⟨v, H', I.call (h' := hh) (g' := g) (d' := d) (t' := t) (ch := []) un hok bare (fun b z => absurd z (by simp)), r, q⟩
end
def bv (K : W.Frag) (fd : FuncData) (ps : List Str) (ds : List Value) : Prop :=
 ∀ (s : Shared) (us : List Value), K.In s.heap → (us ++ ds).length = ps.length → BindsTo s fd ⟨us, []⟩ (ps.zip (us ++ ds))
theorem bv.all {K : W.Frag} {fd : FuncData} {ps : List Str} (h : ∀ us : List Value, us.length = ps.length → bindArgs fd ⟨us, []⟩ = pure (ps.zip us)) : bv K fd ps [] := fun s us _ hl => by
 rw [List.append_nil] at hl ⊢
 exact .of_eq (h us hl)
section
variable {X : Cx} {CX : CXT} {k : Nat} {f C : Addr} {fd : FuncData} {ps : List Str} {sp : Sp} {dvs : List V} {ds : List Value} {E : XK} {x m : Str} {p pos apos : Pos} {e o : Expr} {es : List Expr} {ta : TE} {t : TA}
end
section
variable {X : Cx} {CX : CXT} {k : Nat} {f C : Addr} {fd : FuncData} {ps ks : List Str} {sp : Sp} {E : XK} {x m : Str} {p pos apos kpos : Pos} {e o : Expr} {es : List Expr} {kws : List Keyword} {te ta : TE} {t tk : TA} {nm : Option Str}
variable {g : List Value → List Value → List Value} {gV : List V → List V → List V}
end
structure aJ (N P : List Str) (sc : Scope) : Prop where
 kind : sc.kind = .function
 co : sc.isCoroutine = false
 gen : sc.isGenerator = false
 nd : N.Nodup
 pre : N.take P.length = P
 par : ∀ x ∈ P, sc.names.lookup x = some .local ∨ sc.names.lookup x = some .cell
 nofree : ∀ y ∈ sc.names, y.2 ≠ .free
theorem dW {kindOf : Str → Option NameKind} {x : Str} : ∀ {binds : List (Str × Value)} {m : Str → Option Value}, (∀ v, (x, v) ∉ binds) → bindL kindOf binds m x = m x
  | [], _, _ => rfl
  | (n, v) :: r, m, h => by
    unfold bindL
    rw [dW fun w hw => h w (List.mem_cons_of_mem _ hw)]
    split
    · have : x ≠ n := by rintro rfl; exact h v List.mem_cons_self
      simp [this]
    · rfl
theorem eh {kindOf : Str → Option NameKind} {x : Str} : ∀ {binds : List (Str × Value)} {m : Str → Option Value}, (∀ v, (x, v) ∉ binds) → bindC kindOf binds m x = m x
  | [], _, _ => rfl
  | (n, v) :: r, m, h => by
    unfold bindC
    rw [eh fun w hw => h w (List.mem_cons_of_mem _ hw)]
    split
    · rfl
    · have : x ≠ n := by rintro rfl; exact h v List.mem_cons_self
      simp [this]
theorem ee {kindOf : Str → Option NameKind} {x : Str} {v : Value} : ∀ {P : List Str} {vs : List Value} {i : Nat} {m : Str → Option Value}, P.Nodup → P[i]? = some x → vs[i]? = some v → kindOf x = some .local →
    bindL kindOf (P.zip vs) m x = some v
  | [], _, _, _, _, h, _, _ => by simp at h
  | _ :: _, [], _, _, _, _, h, _ => by simp at h
  | p :: P, w :: vs, 0, m, nd, h1, h2, hk => by
    simp at h1 h2; subst h1; subst h2
    show bindL kindOf ((p, w) :: P.zip vs) m p = _
    unfold bindL
    rw [dW fun v hv => (List.nodup_cons.mp nd).1 (List.of_mem_zip hv).1, if_pos hk]
    simp
  | p :: P, w :: vs, i + 1, m, nd, h1, h2, hk => by
    show bindL kindOf ((p, w) :: P.zip vs) m x = _
    unfold bindL
    exact ee (i := i) (List.nodup_cons.mp nd).2 (by simpa using h1) (by simpa using h2) hk
theorem ef {kindOf : Str → Option NameKind} {x : Str} {v : Value} : ∀ {P : List Str} {vs : List Value} {i : Nat} {m : Str → Option Value}, P.Nodup → P[i]? = some x → vs[i]? = some v → kindOf x ≠ some .local →
    bindC kindOf (P.zip vs) m x = some v
  | [], _, _, _, _, h, _, _ => by simp at h
  | _ :: _, [], _, _, _, _, h, _ => by simp at h
  | p :: P, w :: vs, 0, m, nd, h1, h2, hk => by
    simp at h1 h2; subst h1; subst h2
    show bindC kindOf ((p, w) :: P.zip vs) m p = _
    unfold bindC
    rw [eh fun v hv => (List.nodup_cons.mp nd).1 (List.of_mem_zip hv).1, if_neg hk]
    simp
  | p :: P, w :: vs, i + 1, m, nd, h1, h2, hk => by
    show bindC kindOf ((p, w) :: P.zip vs) m x = _
    unfold bindC
    exact ef (i := i) (List.nodup_cons.mp nd).2 (by simpa using h1) (by simpa using h2) hk
def aZ (N : List Str) (vs : List V) : St := vs.map some ++ List.replicate (N.length - vs.length) none
def bg (CX : CXT) (P : Program) (w : World) (K : W.Frag) (mg : Str → Option Value) (base : Heap) (N : List Str) (qual : Str) (scope : Scope) (f : Addr) (cd : Value) (A : Around) (outer : List Env) (s : Shared) (H : Hp) (E : XK) : Cx where
 prog := P
 w := w
 K := K
 mg := mg
 base := base
 A := A.deeper (envOfC qual scope s.heap.objs.size f cd)
 N := N
 s₀ := s
 H₀ := H
 env := envOfC qual scope s.heap.objs.size f cd
 outer := outer
 stack := envOfC qual scope s.heap.objs.size f cd :: outer
 ex := []
 calm := true
 fn := fun _ => true
 pn := []
 xe := fun e s' => wpAny (model P w) (A.deeper (envOfC qual scope s.heap.objs.size f cd)) (leaving (envOfC qual scope s.heap.objs.size f cd) e) (fun _ s'' => CX outer H s E e s'') (fun e' s'' => CX outer H s E e' s'') s'
theorem eK {sc : Scope} {n : Nat} {x : Str} (h : sc.names.lookup x = some .cell) : ∃ c, (cellsFrom n sc.names []).lookup x = some c := by
 have q := W.cellsFrom_some sc.names n [] (.inl h)
 exact Option.isSome_iff_exists.mp q
theorem ei {CX : CXT} {P : Program} {w : World} {K : W.Frag} {mg : Str → Option Value} {base : Heap} {N ps : List Str} {qual : Str} {scope : Scope} {f : Addr} {cd : Value} {A : Around} {outer : List Env} {s s1 : Shared} {H : Hp} {E : XK} {us : List Value} {vs : List V}
   (S : aJ N ps scope) (hd : A.handled = none) (e0 : cB P w K mg base A outer s H) (hl : vs.length = ps.length) (r : au vs us)
   (x : InCallC s s.heap.objs.size (bindL (envOfC qual scope s.heap.objs.size f cd).kindOf (ps.zip us) fun _ => none) (cellsFrom (s.heap.objs.size + 1) scope.names []) (bindC (envOfC qual scope s.heap.objs.size f cd).kindOf (ps.zip us) fun _ => none) s1) :
   Inv (bg CX P w K mg base N qual scope f cd A outer s H E) [] (aZ N vs) H s1 := by
 have hpl : ps.length ≤ N.length := by have := congrArg List.length S.pre; rw [List.length_take] at this; omega
 obtain ⟨h1, tk, rfl, hk⟩ := x.done
 have noA : ∀ b : Addr, b ∉ (bg CX P w K mg base N qual scope f cd A outer s H E).ex := fun b z => absurd (show b ∈ ([] : List Addr) from z) (by simp)
 refine ⟨⟨e0.mod, S.kind, rfl, rfl, Nat.le_refl _, fun y z c h1 h2 => ?_, fun y hy => ?_, fun y c _ h => ?_, fun _ => hd, Around.frames_deeper e0.frames, .inr ⟨rfl, rfl⟩, fun b z => absurd z (noA b), e0.bs, e0.bsz, fun b _ _ => noA b, fun b z => absurd z (noA b), e0.funs, e0.frf⟩,
   rfl, e0.bare, Un.kept hk, ⟨_, x.toInCall.ns, fun i y v h1 h2 h3 => ?_⟩, fun y c h => ⟨_, x.cell y c h⟩, e0.hok.fresh (Nat.le_refl _), fun y c h => ?_, fun p hp => absurd (show p ∈ ([] : List (Addr × Obj)) from hp) (by simp), e0.hok.kept hk, ?_⟩
 · exact name_of_addr x.apart (PySem.mem_of_lookup h1) (PySem.mem_of_lookup h2)
 · have hy : scope.names.lookup y = some .cell ∨ scope.names.lookup y = some .free := hy
   rcases hy with hy | hy
   · exact eK hy
   · exact absurd rfl (S.nofree _ (PySem.mem_of_lookup hy))
 · exact Nat.le_of_lt (x.above y c (PySem.mem_of_lookup h))
 · have hi : i < vs.length := by
     unfold aZ at h2
     by_cases hi : i < vs.length
     · exact hi
     · rw [List.getElem?_append_right (by simpa using hi)] at h2
       rw [List.getElem?_replicate] at h2
       split at h2 <;> cases h2
   have ha : vs[i]? = some v := by
     unfold aZ at h2
     rw [List.getElem?_append_left (by simpa using hi), List.getElem?_map] at h2
     cases e : vs[i]? with
     | none => rw [e] at h2; cases h2
     | some a => rw [e] at h2; cases h2; rfl
   obtain ⟨u, hu, rv⟩ := r.get ha
   have hp : ps[i]? = some y := by
     rw [← S.pre, List.getElem?_take_of_lt (by omega)]; exact h1
   have ndP : ps.Nodup := by rw [← S.pre]; exact S.nd.sublist (List.take_sublist _ _)
   refine ⟨u, rv, ?_⟩
   rcases S.par y (List.mem_of_getElem? hp) with k | k
   · exact .inl ⟨k, ee ndP hp hu k⟩
   · obtain ⟨c, e⟩ := eK (n := s.heap.objs.size + 1) k
     refine .inr ⟨.inl k, c, e, ?_⟩
     have q := x.cell y c e
     rw [ef ndP hp hu (by show scope.names.lookup y ≠ _; rw [k]; decide)] at q
     exact q
 · exact e0.hok.fresh (Nat.le_of_lt (x.above y c (PySem.mem_of_lookup h)))
 · unfold aZ
   show _ = N.length
   rw [List.length_append, List.length_map, List.length_replicate]
   omega
theorem iO {CX : CXT} {P : Program} {w : World} {K : W.Frag} {mg : Str → Option Value} {base : Heap} {k : Nat} {f : Addr} {name qual : Str} {params : Arguments} {body : List Stmt} {scope : Scope} {dV kV doc pm cdv ct oc : Value} {an od : Option Addr}
    {osl : Array (Option Value)} {N ps : List Str} {sp : Sp} (lk : K.lookup f = some ⟨oc, od, .func (W.fnOf name qual params body scope dV kV doc pm an cdv ct), osl⟩) (hcd : W.codeIn K cdv qual = true) (S : aJ N ps scope)
    (len : ∀ vs H Q E, sp vs H Q E → vs.length = ps.length)
    (hbody : ∀ (A : Around) (outer : List Env) (s : Shared) (H : Hp) (vs : List V) (Q : VK) (E : XK), aE k (A.deeper (envOfC qual scope s.heap.objs.size f cdv)) → sp vs H Q E →
      ∃ t, PSs (bg CX P w K mg base N qual scope f cdv A outer s H E) body t ∧ t { nx := fun _ H' => Q .non H', rt := Q } (aZ N vs) H) :
    bh P w K mg base CX (k + 1) f (W.fnOf name qual params body scope dV kV doc pm an cdv ct) ps sp := by
  refine ⟨len, fun A outer s H args us vs Q E hr e0 hb r hsp => ?_⟩
  have hl := len _ _ _ _ hsp
  have KX : K.In s.heap := e0.mod.kin.keeps fun b o e => (e0.bs b o e).1
  have lim : s.heap.NoLimit := e0.mod.nolimit.keeps fun b o e => (e0.bs b o e).1
  have hkind : ∀ y ∈ ps.zip us, scope.names.lookup y.1 = some .local ∨ (scope.names.lookup y.1 = some .cell ∧ ((cellsFrom (s.heap.objs.size + 1) scope.names []).lookup y.1).isSome = true) := fun ⟨n, v⟩ hy => by
    rcases S.par n (List.of_mem_zip hy).1 with q | q
    · exact .inl q
    · exact .inr ⟨q, W.cellsFrom_some _ _ _ (.inl q)⟩
  refine codeAny_call_function hr.depth (KX _ _ lk) rfl S.co S.gen rfl (W.codeRec_of KX hcd) (hb _ _ _ _ ?_)
  refine wpAny_newFunctionEnv_cells S.kind hkind fun env he s1 x => ?_
  subst he
  refine ⟨lim.keeps x.toInCall.keep, codeAny_func ?_⟩
  obtain ⟨t, ht, hq⟩ := hbody A outer s H vs Q E (hr.deeper _) hsp
  have I : Inv (bg CX P w K mg base N qual scope f cdv A outer s H E) [] (aZ N vs) H s1 := ei S hr.hd e0 hl r x
  refine wpAny_mono (ht [] s1 (aZ N vs) H _ I hq) (fun fl s' hs => ?_) fun e s' hs => hs
  have fin : ∀ {σ' : St} {H' : Hp} {v : V} {u : Value}, Inv (bg CX P w K mg base N qual scope f cdv A outer s H E) [] σ' H' s' → aw v u → Q v H' → CE outer P w H s Q u s' :=
    fun {σ' H' v u} J rv q => ⟨v, H', J.os, J.bare, J.base, J.hok, rv, q⟩
  cases fl with
  | ret u =>
    obtain ⟨v, σ', H', J, rv, q⟩ := hs
    exact fin J rv q
  | next =>
    obtain ⟨σ', H', J, q⟩ := hs
    exact fin (v := V.non) (u := Value.none) J rfl q
  | brk =>
    obtain ⟨_, _, _, q⟩ := hs
    exact False.elim q
  | cont =>
    obtain ⟨_, _, _, q⟩ := hs
    exact False.elim q
end L2
namespace L2
open PySem PySem.Spec PyProof.Rows
section
variable {X : Cx} {x : Str} {p pos : Pos} {e : Expr} {es : List Expr} {t : TA} {id T : String} {r : List V → Hp → VK → Prop}
def tCB (r : List V → Hp → VK → Prop) (t : TA) : TE := fun σ H Q => t σ H fun vs H1 => r vs H1 Q
theorem ir (hc : bK X (.builtin id) r) (hg : Gl X x) (hm : X.mg x = none) (hv : bootBuiltins x = some (.builtin id)) (ha : PA X (e :: es) t) (hn : x ≠ "__name__" := by decide) (hdb : (x == ("__debug__" : Str)) = false := by decide)
  (he : starEach (e :: es) X.env = (false, eval e X.env) :: starEach es X.env := by rfl) (hpl : (backTo pos (starEach es X.env)).any (·.1) = false := by rfl) : PE X (.Call (.Name x p) (e :: es) [] pos) (tCB r t) := by
 intro pins s σ H Q I h
 refine wpAny_Call_Name_kw (cI I hg hm hv ?_ hn hdb)
 exact PyProof.Rows.callWith_builtin1 (thn (ha pos pins s σ H _ I h) fun us s1 ⟨vs, H1, I1, r1, q1⟩ => hc pins s1 σ H1 vs us Q I1 r1 q1) he hpl
theorem gO (hc : bK X (.type T) r) (hg : Gl X x) (hm : X.mg x = none) (hv : bootBuiltins x = some (.type T)) (ha : PA X (e :: es) t) (hn : x ≠ "__name__" := by decide) (hdb : (x == ("__debug__" : Str)) = false := by decide)
  (he : starEach (e :: es) X.env = (false, eval e X.env) :: starEach es X.env := by rfl) (hpl : (backTo pos (starEach es X.env)).any (·.1) = false := by rfl) : PE X (.Call (.Name x p) (e :: es) [] pos) (tCB r t) := by
 intro pins s σ H Q I h
 refine wpAny_Call_Name_kw (cI I hg hm hv ?_ hn hdb)
 exact PyProof.Rows.callWith_type1 (thn (ha pos pins s σ H _ I h) fun us s1 ⟨vs, H1, I1, r1, q1⟩ => hc pins s1 σ H1 vs us Q I1 r1 q1) he hpl
end
end L2
namespace HT
open PySem PyProof.Rows
section
open PySem.SeqAt
open PySem.AutoSeq1 (wpAny_loadPart')
open PySem.MeetsSeq PySem.MeetsSeq2 PySem.MeetsSeq3
end
section
variable {prog : Program} {w : World} {A : Around} {E : Value → Shared → Prop} {s : Shared}
theorem jG {t b : Addr} {vs ws : List Value} {Q : Value → Shared → Prop} (ht : IsTup s.heap t vs.toArray) (hb : IsTup s.heap b ws.toArray) (hv : vs ≠ [])
   (h1 : ws = [] → Q (.ref t) s) (h2 : ws ≠ [] → Q (.ref s.heap.objs.size) { s with heap := s.heap.push { cls := .type "tuple", data := .seq (vs ++ ws).toArray } })
   (hsz : vs.length + ws.length ≤ sizeLine) : wpAny (model prog w) A (binaryOp .Add (.ref t) (.ref b)) Q E s := by
 obtain ⟨⟨cls, dd, data, sl⟩, ho, hc, n, hd⟩ := id ht
 obtain ⟨⟨cls2, dd2, data2, sl2⟩, ho2, hc2, n2, hd2⟩ := id hb
 simp only at hc hd hc2 hd2
 subst hc hd hc2 hd2
 have e : vs.toArray ++ ws.toArray = (vs ++ ws).toArray := by simp
 by_cases hw : ws = []
 · exact concat_meets ⟨_, ho, rfl⟩ ⟨_, ho2, rfl⟩ noFill_tuple_add seq_tuple_add PySem.F.slot_tuple_add PySem.F.entry_tuple_add (PySem.F.args_tuple_add_2 _ _)
    (tuple_addW1 t b vs.toArray ws.toArray n n2 dd dd2 sl sl2 (by simpa using hv) (by simp [hw])) ⟨ho, ho2, h1 hw⟩
 · refine concat_meets ⟨_, ho, rfl⟩ ⟨_, ho2, rfl⟩ noFill_tuple_add seq_tuple_add PySem.F.slot_tuple_add PySem.F.entry_tuple_add (PySem.F.args_tuple_add_2 _ _)
    (tuple_addW2 t b vs.toArray ws.toArray n n2 dd dd2 sl sl2 (by simpa using hv) (by simpa using hw) (by rw [List.size_toArray, List.size_toArray]; exact hsz)) ⟨ho, ho2, ?_⟩
   rw [e]
   exact h2 hw
def sIx (n d : Nat) : Option Int → Nat
 | none => d
 | some v => if v < 0 then (v + (n : Int)).toNat else min v.toNat n
theorem kq (n d : Nat) (hd : d ≤ n) (o : Option Int) : sIx n d o ≤ n := by
  cases o with
  | none => exact hd
  | some v =>
    show (if v < 0 then (v + (n : Int)).toNat else min v.toNat n) ≤ n
    by_cases hv : v < 0
    · rw [if_pos hv]; omega
    · rw [if_neg hv]; exact Nat.min_le_right _ _
theorem fu (v : Int) (n d : Nat) : (if v < 0 then max (v + (n : Int)) 0 else min v (n : Int)) = ((sIx n d (some v) : Nat) : Int) := by
 show (if v < 0 then max (v + (n : Int)) 0 else min v (n : Int)) = (((if v < 0 then (v + (n : Int)).toNat else min v.toNat n) : Nat) : Int)
 by_cases hv : v < 0
 · simp only [if_pos hv]; omega
 · simp only [if_neg hv]; omega
theorem gg (lo hi : Option Int) (n : Nat) : Builtin.Slice.sliceAdjust lo hi 1 (n : Int) = (((sIx n 0 lo : Nat) : Int), ((sIx n n hi : Nat) : Int)) := by
 have h1 : ¬ ((1 : Int) < 0) := by omega
 unfold Builtin.Slice.sliceAdjust
 simp only [h1, if_false]
 refine Prod.ext ?_ ?_
 · cases lo with
   | none => rfl
   | some v => exact fu v n 0
 · cases hi with
   | none => rfl
   | some v => exact fu v n n
theorem fP (i j : Nat) : Builtin.Slice.slicePlaces (i : Int) (j : Int) 1 = j - i := by
 unfold Builtin.Slice.slicePlaces
 have h1 : (1 : Int) > 0 := by omega
 simp only [h1, if_true, Int.ediv_one]
 split <;> omega
theorem dj {v : Value} {o : Option Int} {Q : Option Int → Shared → Prop} (p : IsPart v o) (h : Q o s) : wpAny (model prog w) A (Builtin.Slice.slicePartIndex v) Q E s := by
 cases p with
 | none => exact slicePart_none h
 | int i t => exact slicePart_int h
theorem bS {sl : Addr} {vl vu : Value} {lo hi : Option Int} {n : Nat} {Q : Int × Int × Nat → Shared → Prop} (hs : s.heap.IsSliceOf sl vl vu .none) (pl : IsPart vl lo) (pu : IsPart vu hi)
  (h : Q (((sIx n 0 lo : Nat) : Int), 1, sIx n n hi - sIx n 0 lo) s) : wpAny (model prog w) A (Builtin.Slice.sliceApplied (.ref sl) (pure (n : Int))) Q E s := by
 obtain ⟨os, hos, hcs, hds⟩ := id hs
 unfold Builtin.Slice.sliceApplied Builtin.Slice.sliceFields
 refine wpAny_bind (wpAny_bind (wpAny_field hos hds (x := vl) rfl (wpAny_bind (wpAny_field hos hds (x := vu) rfl (wpAny_bind (wpAny_field hos hds (x := .none) rfl (wpAny_pure ?_)))))))
 refine wpAny_bind (slicePart_none ?_)
 show wpAny _ _ (if ((1 : Int) == 0) = true then _ else _) _ _ s
 rw [if_neg (by decide)]
 refine wpAny_bind (dj pl (wpAny_bind (dj pu (wpAny_bind (wpAny_pure ?_)))))
 show wpAny _ _ (match Builtin.Slice.sliceAdjust lo hi 1 (n : Int) with | (lo, hi) => pure (lo, (1 : Int), Builtin.Slice.slicePlaces lo hi 1)) _ _ s
 rw [gg lo hi n]
 show wpAny _ _ (pure (((sIx n 0 lo : Nat) : Int), (1 : Int), Builtin.Slice.slicePlaces ((sIx n 0 lo : Nat) : Int) ((sIx n n hi : Nat) : Int) 1)) _ _ s
 rw [fP]
 exact wpAny_pure h
theorem iy (xs : Array Value) (i k : Nat) : ((List.range k).filterMap fun (m : Nat) => xs[((i : Int) + (m : Int) * 1).toNat]?).toArray = ((xs.toList.drop i).take k).toArray := by
 have e : (fun (m : Nat) => xs[((i : Int) + (m : Int) * 1).toNat]?) = fun m => xs[i + m]? := by
  funext m
  have : ((i : Int) + (m : Int) * 1).toNat = i + m := by omega
  rw [this]
 rw [e]
 have := pick_run xs i k
 rw [List.filterMap_map] at this
 have e2 : ((fun x => xs[x]?) ∘ fun x => i + x) = fun m => xs[i + m]? := rfl
 rw [e2] at this
 rw [this]
theorem cU {t sl : Addr} {items : Array Value} {vl vu : Value} {lo hi : Option Int} {Q : Value → Shared → Prop} (ht : IsTup s.heap t items) (hs : s.heap.IsSliceOf sl vl vu .none) (pl : IsPart vl lo) (pu : IsPart vu hi)
  (hw : ¬ (sIx items.size 0 lo = 0 ∧ sIx items.size items.size hi = items.size))
  (h : Q (.ref s.heap.objs.size) { s with heap := s.heap.push { cls := .type "tuple", data := .seq ((items.toList.drop (sIx items.size 0 lo)).take (sIx items.size items.size hi - sIx items.size 0 lo)).toArray } })
  (hsz : items.size ≤ sizeLine) : wpAny (model prog w) A (getItem (.ref t) (.ref sl)) Q E s := by
 have htake : sizeOk (.seq ((items.toList.drop (sIx items.size 0 lo)).take (sIx items.size items.size hi - sIx items.size 0 lo)).toArray) := by
  show ((items.toList.drop (sIx items.size 0 lo)).take (sIx items.size items.size hi - sIx items.size 0 lo)).toArray.size ≤ sizeLine
  rw [List.size_toArray, List.length_take, List.length_drop, Array.length_toList]
  omega
 have hj : sIx items.size items.size hi ≤ items.size := kq _ _ (Nat.le_refl _) hi
 obtain ⟨os, hos, hcs, hds⟩ := id hs
 have hTs : s.TypeIs (.ref sl) "slice" := ⟨os, hos, hcs⟩
 unfold getItem
 try with_reducible refine wpAny_holding ?_
 first | refine wpAny_bind (wpAny_pure ?_) | skip
 refine wpAny_bind (wpAny_sequenceKey ht.typeIs (by decide) ?_)
 refine wpAny_bind (wpAny_callSpecial?_slot (name := Str.ofString "__getitem__") ht.typeIs PyProof.Rows.slot_tuple_getitem
  (wpAny_call_entry PyProof.Rows.slot_tuple_getitem ht.typeIs entry_tuple_getitem ?_ (args_tuple_getitem _ _)))
 show wpAny _ _ (Builtin.Tuple.tupleItemsOf (.ref t) >>= _) _ _ s
 refine wpAny_bind (tupleItemsOf_ ht ?_)
 refine wpAny_bind (wpAny_typeOf hTs ?_)
 rw [if_pos (by decide)]
 refine wpAny_bind (bS hs pl pu ?_)
 have hno : ¬ ((((sIx items.size 0 lo : Nat) : Int) == 0 && (1 : Int) == 1 && (sIx items.size items.size hi - sIx items.size 0 lo) == items.size) = true) := by
  intro q
  rw [Bool.and_eq_true, Bool.and_eq_true] at q
  have q1 : ((sIx items.size 0 lo : Nat) : Int) = 0 := eq_of_beq q.1.1
  have q2 : sIx items.size items.size hi - sIx items.size 0 lo = items.size := eq_of_beq q.2
  exact hw ⟨by omega, by omega⟩
 show wpAny _ _ (if (((sIx items.size 0 lo : Nat) : Int) == 0 && (1 : Int) == 1 && (sIx items.size items.size hi - sIx items.size 0 lo) == items.size) = true then _ else _) _ _ s
 rw [if_neg hno, iy]
 first
  | exact wpAny_bind (m := Builtin.Tuple.tupleExact _) (wpAny_newObj_type (wpAny_pure ⟨_, rfl, wpAny_pure h⟩) htake)
  | exact wpAny_bind (m := Builtin.Tuple.tupleExact _) (wpAny_newObj_type (wpAny_bind (wpAny_pure (wpAny_pure ⟨_, rfl, wpAny_pure h⟩))) htake)
  | exact wpAny_bind (wpAny_bind (m := Builtin.Tuple.tupleExact _) (wpAny_newObj_type (wpAny_pure (wpAny_pure ⟨_, rfl, wpAny_pure h⟩)) htake))
  | exact wpAny_bind (wpAny_bind (m := Builtin.Tuple.tupleExact _) (wpAny_newObj_type (wpAny_pure ⟨_, rfl, wpAny_pure h⟩) htake))
end
end HT
namespace L2
open PySem PySem.Spec PyProof.Rows
abbrev TO := St → Hp → (Option Int → Hp → Prop) → Prop
def PO (X : Cx) (e : Option Expr) (t : TO) : Prop :=
 ∀ (pins : List (Addr × Obj)) (s : Shared) (σ : St) (H : Hp) (Q : Option Int → Hp → Prop), Inv X pins σ H s → t σ H Q →
  wpAny (model X.prog X.w) X.A (evalPart e X.env) (fun u s' => ∃ o H', Inv X pins σ H' s' ∧ IsPart u o ∧ Q o H') X.xe s
def dG : TO := fun _ H Q => Q none H
def gp (t : TE) : TO := fun σ H Q => t σ H fun x H1 => ∃ i, x = .int i ∧ Q (some i) H1
section
variable {X : Cx} {e : Expr} {te : TE} {lo hi : Option Expr} {tl th : TO} {pos p2 : Pos}
theorem jc : PO X none dG := by
 intro pins s σ H Q I h
 rw [evalPart_none]
 exact wpAny_pure ⟨none, H, I, .none, h⟩
theorem jt (h : PE X e te) : PO X (some e) (gp te) := by
 intro pins s σ H Q I hw
 rw [evalPart_some]
 refine thn (h pins s σ H _ I hw) fun u s1 ⟨x, H1, I1, r1, q1⟩ => ?_
 obtain ⟨i, rfl, q⟩ := q1
 obtain ⟨t, rfl⟩ := r1
 exact ⟨some i, H1, I1, .int i t, q⟩
def SlR (X : Cx) (r : V → Option Int → Option Int → Hp → VK → Prop) : Prop :=
 ∀ (pins : List (Addr × Obj)) (s : Shared) (σ : St) (H : Hp) (x : V) (v vl vu : Value) (lo hi : Option Int) (sl : Addr) (Q : VK), Inv X pins σ H s → aw x v → s.heap.IsSliceOf sl vl vu .none → IsPart vl lo → IsPart vu hi → r x lo hi H Q →
  ∃ T id, typeLookup (.type T) "__getitem__" = pure (some (.builtin id)) ∧ s.TypeIs v T ∧ wpAny (model X.prog X.w) X.A (getItem v (.ref sl)) (EP X pins σ Q) X.xe s
theorem SlR.or {r r' : V → Option Int → Option Int → Hp → VK → Prop} (h : SlR X r) (h' : SlR X r') : SlR X (fun x lo hi H Q => r x lo hi H Q ∨ r' x lo hi H Q) := by
 intro pins s σ H x v vl vu lo hi sl Q I rx hs pl pu q
 rcases q with q | q
 · exact h pins s σ H x v vl vu lo hi sl Q I rx hs pl pu q
 · exact h' pins s σ H x v vl vu lo hi sl Q I rx hs pl pu q
def tSl (r : V → Option Int → Option Int → Hp → VK → Prop) (te : TE) (tl th : TO) : TE := fun σ H Q => te σ H fun x H1 => tl σ H1 fun l H2 => th σ H2 fun u H3 => r x l u H3 Q
theorem iB {r : V → Option Int → Option Int → Hp → VK → Prop} (hr : SlR X r) (he : PE X e te) (hl : PO X lo tl) (hu : PO X hi th) : PE X (.Subscript e (.Slice lo hi none p2) pos) (tSl r te tl th) := by
 intro pins s σ H Q I h
 refine Subscript_ (thn (he pins s σ H _ I h) fun v s1 ⟨x, H1, I1, r1, q1⟩ => ?_)
 refine wpAny_Slice (thn (hl pins s1 σ H1 _ I1 q1) fun vl s2 ⟨l, H2, I2, pl, q2⟩ => thn (hu pins s2 σ H2 _ I2 q2) fun vu s3 ⟨u, H3, I3, pu, q3⟩ => ?_)
 rw [evalPart_none]
 refine wpAny_pure ?_
 have I4 : Inv X pins σ H3 { s3 with heap := s3.heap.push { cls := .type "slice", data := .fields #[vl, vu, .none] } } := I3.kept (t' := s3.toks) fun b ob q => Heap.get?_push_of_some _ q
 obtain ⟨T, id, hT, ht, hg⟩ := hr pins { s3 with heap := s3.heap.push { cls := .type "slice", data := .fields #[vl, vu, .none] } } σ H3 x v vl vu l u s3.heap.objs.size Q I4 r1 (Heap.IsSliceOf.new ..) pl pu q3
 show wpAny (model X.prog X.w) X.A (subscriptTail e (.Slice lo hi none p2) v (.ref s3.heap.objs.size)) (EP X pins σ Q) X.xe { s3 with heap := s3.heap.push { cls := .type "slice", data := .fields #[vl, vu, .none] } }
 exact tail_any (ops := [.ref s3.heap.objs.size, v]) ht hT hg (by with_unfolding_all rfl)
def bT (xs : List V) (lo hi : Option Int) : List V := (xs.drop (HT.sIx xs.length 0 lo)).take (HT.sIx xs.length xs.length hi - HT.sIx xs.length 0 lo)
theorem cV (xs : List V) (lo hi : Option Int) : (bT xs lo hi).length ≤ xs.length := by
 unfold bT
 rw [List.length_take, List.length_drop]
 omega
def lU (K : W.Frag) : V → Option Int → Option Int → Hp → VK → Prop := fun x lo hi H Q => ∃ a xs, x = .ref a ∧ SqT K H a xs ∧
 ¬ (HT.sIx xs.length 0 lo = 0 ∧ HT.sIx xs.length xs.length hi = xs.length) ∧ ∀ p, H p = none → Q (.ref p) (upd H p (.tup (bT xs lo hi)))
theorem ki : SlR X (lU X.K) := by
 intro pins s σ H x v vl vu lo hi sl Q I rx hs pl pu h
 obtain ⟨a, xs, rfl, hx, hw, q⟩ := h
 cases rx
 obtain ⟨its, r, ht, hz⟩ := I.tuple hx
 have hlen : its.toArray.size = xs.length := by rw [List.size_toArray]; exact r.length.symm
 refine ⟨"tuple", _, PyProof.Rows.slot_tuple_getitem.lookup, ht.typeIs, ?_⟩
 refine HT.cU ht hs pl pu (by rw [hlen]; exact hw) ?_ (by rw [hlen]; exact hz)
 rw [hlen]
 refine ⟨.ref s.heap.objs.size, _, I.laid (t' := s.toks) (o := .tup (bT xs lo hi)) (fun b ob q => Heap.get?_push_of_some _ q) (Nat.le_refl _) ?_, rfl, q _ (I.hok.fresh (Nat.le_refl _))⟩
 exact ⟨Nat.le_trans (cV xs lo hi) hz, _, (r.drop (HT.sIx xs.length 0 lo)).take (HT.sIx xs.length xs.length hi - HT.sIx xs.length 0 lo), IsTup.new _ _⟩
def lB (K : W.Frag) : R2 := fun x y H Q => ∃ a b xs ys, x = .ref a ∧ y = .ref b ∧ SqT K H a xs ∧ SqT K H b ys ∧ xs ≠ [] ∧ xs.length + ys.length ≤ sizeLine ∧
 (ys = [] → Q (.ref a) H) ∧ (ys ≠ [] → ∀ p, H p = none → Q (.ref p) (upd H p (.tup (xs ++ ys))))
theorem au.nil_iff {xs : List V} {us : List Value} (r : au xs us) : us = [] ↔ xs = [] := by
 cases r with
 | nil => simp
 | cons _ _ => simp
theorem jI : OpR X (binaryOp .Add) (lB X.K) := by
 intro pins s σ H x y v u Q I rx ry h
 obtain ⟨a, b, xs, ys, rfl, rfl, ha, hb, hx, hz, q1, q2⟩ := h
 cases rx
 cases ry
 obtain ⟨its, r1, p1, _⟩ := I.tuple ha
 obtain ⟨its2, r2, p2, _⟩ := I.tuple hb
 refine HT.jG p1 p2 (fun z => hx (r1.nil_iff.mp z)) (fun z => ⟨.ref a, H, I, rfl, q1 (r2.nil_iff.mp z)⟩) (fun z => ?_) (by rw [← r1.length, ← r2.length]; exact hz)
 refine ⟨.ref s.heap.objs.size, _, I.laid (t' := s.toks) (o := .tup (xs ++ ys)) (fun b ob q => Heap.get?_push_of_some _ q) (Nat.le_refl _) ?_, rfl, q2 (fun w => z (r2.nil_iff.mpr w)) _ (I.hok.fresh (Nat.le_refl _))⟩
 exact ⟨by rw [List.length_append]; exact hz, _, r1.append r2, IsTup.new _ _⟩
end
end L2
namespace L2
open PySem PySem.Spec PyProof.Rows
def ixN (n : Nat) (i : Int) : Option Nat := if 0 ≤ i then (if i < n then some i.toNat else none) else if -(n : Int) ≤ i then some (i + n).toNat else none
def atI {α : Type} (xs : List α) (i : Int) : Option α := (ixN xs.length i).bind fun j => xs[j]?
theorem jj {n : Nat} {i : Int} {j : Nat} (h : ixN n i = some j) : seqIndex? i n = some j ∧ j < n ∧ -(n : Int) ≤ i ∧ i < n := by
 unfold ixN at h
 by_cases h0 : 0 ≤ i
 · rw [if_pos h0] at h
   by_cases h1 : i < n
   · rw [if_pos h1] at h
     have e : i.toNat = j := Option.some.inj h
     exact ⟨by rw [seqIndex_of h0 h1, e], by omega, by omega, h1⟩
   · rw [if_neg h1] at h; cases h
 · rw [if_neg h0] at h
   by_cases h1 : -(n : Int) ≤ i
   · rw [if_pos h1] at h
     have e : (i + n).toNat = j := Option.some.inj h
     exact ⟨by rw [seqIndex_neg (by omega) h1, e], by omega, h1, by omega⟩
   · rw [if_neg h1] at h; cases h
theorem dN {α : Type} {xs : List α} {i : Int} {v : α} (h : atI xs i = some v) : ∃ j, seqIndex? i xs.length = some j ∧ xs[j]? = some v ∧ j < xs.length ∧ -(xs.length : Int) ≤ i ∧ i < xs.length := by
  unfold atI at h
  cases e : ixN xs.length i with
  | none => rw [e] at h; cases h
  | some j =>
    rw [e] at h
    obtain ⟨h1, h2, h3, h4⟩ := jj e
    exact ⟨j, h1, h, h2, h3, h4⟩
def fz (b : Expr) : Prop := ∀ o i, subscripted b false o i = operate [o, i] (getItem o i)
def IxR (X : Cx) (r : R2) : Prop :=
 ∀ (value slice : Expr) (pins : List (Addr × Obj)) (s : Shared) (σ : St) (H : Hp) (x y : V) (v u : Value) (Q : VK), Inv X pins σ H s → aw x v → aw y u → r x y H Q →
  subscripted slice false v u = operate [v, u] (getItem v u) → wpAny (model X.prog X.w) X.A (subscriptTail value slice v u) (EP X pins σ Q) X.xe s
section
variable {X : Cx} {a b : Expr} {ta tb : TE} {pos : Pos}
theorem IxR.or {r r' : R2} (h : IxR X r) (h' : IxR X r') : IxR X (fun x y H Q => r x y H Q ∨ r' x y H Q) := by
 intro value slice pins s σ H x y v u Q I rx ry q hs
 rcases q with q | q
 · exact h value slice pins s σ H x y v u Q I rx ry q hs
 · exact h' value slice pins s σ H x y v u Q I rx ry q hs
theorem ly {r : R2} (hr : IxR X r) (ha : PE X a ta) (hb : PE X b tb) (hs : fz b) : PE X (.Subscript a b pos) (tOp r ta tb) := by
 intro pins s σ H Q I h
 exact Subscript_ (ib ha hb I h fun v u s2 x y H2 I2 rx ry q => hr a b pins s2 σ H2 x y v u Q I2 rx ry q (hs _ _))
def kN (K : W.Frag) : R2 := fun x y H Q => ∃ p xs i v, x = .ref p ∧ y = .int i ∧ SqL K H p xs ∧ atI xs i = some v ∧ Q v H
def kn (K : W.Frag) : R2 := fun x y H Q => ∃ p xs i v, x = .ref p ∧ y = .int i ∧ SqT K H p xs ∧ atI xs i = some v ∧ Q v H
def jT : R2 := fun x y H Q => ∃ z i c, x = .str z ∧ y = .int i ∧ z.length ≤ sizeLine ∧ atI z.cps.toList i = some c ∧ Q (.str ⟨#[c]⟩) H
theorem jl : IxR X (kN X.K) := by
 intro value slice pins s σ H x y v u Q I rx ry h hs
 obtain ⟨p, xs, i, z, rfl, rfl, hq, he, q⟩ := h
 cases rx
 obtain ⟨t, rfl⟩ := ry
 obtain ⟨its, r, pl, hz⟩ := I.list hq
 obtain ⟨j, h1, h2, h3, h4, h5⟩ := dN he
 obtain ⟨w, ew, rw'⟩ := r.get h2
 have hl := r.length
 have hn := dm
 have fin : EP X pins σ Q w s := ⟨z, H, I, rw', q⟩
 by_cases h0 : 0 ≤ i
 · have hj : i.toNat = j := by
    rw [seqIndex_of h0 h5] at h1
    exact Option.some.inj h1
   exact item_listR pl.isList h0 (by omega) (by rw [hj]; simpa using ew) fin hs
 · have hj : (i + (its.toArray.size : Int)).toNat = j := by
    rw [seqIndex_neg (by omega) h4] at h1
    rw [List.size_toArray, ← hl]
    exact Option.some.inj h1
   exact subscriptTail_builtinR (x := w) pl.isList.typeIs slot_list_getitem.lookup
    (wpAny_getItem_list_neg (Q := fun r s' => r = w ∧ EP X pins σ Q r s') pl.isList (by omega) (by rw [List.size_toArray] <;> omega) (by omega) (by rw [hj]; simpa using ew) ⟨rfl, fin⟩) hs
theorem kD : IxR X (kn X.K) := by
 intro value slice pins s σ H x y v u Q I rx ry h hs
 obtain ⟨p, xs, i, z, rfl, rfl, hq, he, q⟩ := h
 cases rx
 obtain ⟨t, rfl⟩ := ry
 obtain ⟨its, r, pl, hz⟩ := I.tuple hq
 obtain ⟨j, h1, h2, h3, h4, h5⟩ := dN he
 obtain ⟨w, ew, rw'⟩ := r.get h2
 have hl := r.length
 have hn := dm
 have fin : EP X pins σ Q w s := ⟨z, H, I, rw', q⟩
 exact subscriptTail_builtinR (x := w) pl.typeIs slot_tuple_getitem.lookup
  (getItem_tuple (j := j) (Q := fun r s' => r = w ∧ EP X pins σ Q r s') pl (by omega) (by omega) (by rw [List.size_toArray, ← hl]; exact h1) (by simpa using ew) ⟨rfl, fin⟩) hs
theorem ko : IxR X jT := by
 intro value slice pins s σ H x y v u Q I rx ry h hs
 obtain ⟨z, i, c, rfl, rfl, hz, he, q⟩ := h
 obtain ⟨t, rfl⟩ := rx
 obtain ⟨t', rfl⟩ := ry
 obtain ⟨j, h1, h2, h3, h4, h5⟩ := dN he
 have hl : z.cps.toList.length = z.length := by simp [Str.length]
 rw [hl] at h1 h4 h5
 have hn := dm
 exact tail_any (typeIs_str s z t) slot_str_getitem.lookup (getItem_str (c := c) (by
  have e1 : decide (i < -(2 ^ 63 : Int)) = false := decide_eq_false (by omega)
  have e2 : decide (i ≥ 2 ^ 63) = false := decide_eq_false (by omega)
  rw [e1, e2, Bool.or_false]) (by rw [h1]; simpa using h2) ⟨.str ⟨#[c]⟩, H, I.tok _, ⟨_, rfl⟩, q⟩) hs
def rIx (K : W.Frag) : R2 := fun x y H Q => kN K x y H Q ∨ kn K x y H Q ∨ jT x y H Q
theorem jX : IxR X (rIx X.K) := jl.or (kD.or ko)
theorem eJ (lo hi : Option Int) (n : Nat) : (sliceBounds lo hi none n).1 = ((HT.sIx n 0 lo : Nat) : Int) ∧ (sliceBounds lo hi none n).2.1 = ((HT.sIx n n hi : Nat) : Int) ∧ (sliceBounds lo hi none n).2.2 = 1 := by
  refine ⟨?_, ?_, rfl⟩
  · cases lo with
    | none => simp [sliceBounds, HT.sIx]
    | some i =>
      simp only [sliceBounds, HT.sIx, Option.getD_none, show (1 : Int) > 0 by decide, if_true]
      by_cases h : i < 0
      · simp only [h, if_true] <;> omega
      · simp only [h, if_false] <;> omega
  · cases hi with
    | none => simp [sliceBounds, HT.sIx]
    | some i =>
      simp only [sliceBounds, HT.sIx, Option.getD_none, show (1 : Int) > 0 by decide, if_true]
      by_cases h : i < 0
      · simp only [h, if_true] <;> omega
      · simp only [h, if_false] <;> omega
theorem en (its : List Value) (lo hi : Option Int) : slicePick its.toArray lo hi none = ((its.drop (HT.sIx its.length 0 lo)).take (HT.sIx its.length its.length hi - HT.sIx its.length 0 lo)).toArray := by
 obtain ⟨h1, h2, h3⟩ := eJ lo hi its.toArray.size
 unfold slicePick
 rw [h1, h2, h3]
 simp only [sliceRange_one, pick_run, List.size_toArray] <;> rfl
def jY (K : W.Frag) : V → Option Int → Option Int → Hp → VK → Prop := fun x lo hi H Q => ∃ a xs, x = .ref a ∧ SqL K H a xs ∧ ∀ p, H p = none → Q (.ref p) (upd H p (.lst (bT xs lo hi)))
theorem iW : SlR X (jY X.K) := by
 intro pins s σ H x v vl vu lo hi sl Q I rx hs pl pu h
 obtain ⟨a, xs, rfl, hx, q⟩ := h
 cases rx
 obtain ⟨its, r, ht, hz⟩ := I.list hx
 have hlen := r.length
 refine ⟨"list", _, slot_list_getitem.lookup, ht.isList.typeIs, ?_⟩
 refine wpAny_getItem_list_slice ht.isList hs pl pu .none (by simp) ?_ (by rw [List.size_toArray] <;> omega)
 rw [en, ← hlen]
 refine ⟨.ref s.heap.objs.size, _, I.laid (t' := s.toks) (o := .lst (bT xs lo hi)) (fun b ob q => Heap.get?_push_of_some _ q) (Nat.le_refl _) ?_, rfl, q _ (I.hok.fresh (Nat.le_refl _))⟩
 exact ⟨Nat.le_trans (cV xs lo hi) hz, _, 0, (r.drop (HT.sIx xs.length 0 lo)).take (HT.sIx xs.length xs.length hi - HT.sIx xs.length 0 lo), Heap.get?_push_size _ rfl⟩
variable {o e : Expr} {es : List Expr} {to : TE} {t : TA} {name : Str} {apos cpos : Pos} {T id : String} {r : V → List V → Hp → VK → Prop}
end
end L2
namespace L2
open PySem PySem.Spec PyProof.Rows
def MtM (X : Cx) (id : String) (r : V → List V → Hp → VK → Prop) : Prop :=
 ∀ (pins : List (Addr × Obj)) (s : Shared) (σ : St) (H : Hp) (x : V) (xs : List V) (v : Value) (us : List Value) (Q : VK), Inv X pins σ H s → aw x v → au xs us → r x xs H Q →
  wpAny (model X.prog X.w) X.A (call (.builtin id) (v :: us)) (EP X pins σ Q) X.xe s
theorem au.one : ∀ {x : V} {us : List Value}, au [x] us → ∃ u, us = [u] ∧ aw x u
 | _, _, .cons r .nil => ⟨_, rfl, r⟩
section
variable {X : Cx} {pins : List (Addr × Obj)} {σ : St} {H : Hp} {s : Shared} {l b : Addr} {xs ys zs : List V}
theorem Inv.lset {its its' : List Value} {n : Nat} {f : Array Value → Array Value} {t' : Nat} (I : Inv X pins σ H s) (hH : H l = some (.lst xs))
  (e : s.heap.get? l = some { cls := .type "list", data := .seq its.toArray n }) (hf : f its.toArray = its'.toArray) (hv : au ys its') (hz : ys.length ≤ sizeLine) :
  Inv X pins σ (upd H l (.lst ys)) { s with heap := s.heap.update l (Obj.mapSeq f), toks := t' } := by
 have q := PySem.IsL.update e f
 rw [hf] at q
 refine I.write (x := l) (e := l) (by rw [hH]; exact trivial) (.inl rfl) (fun b' u hb hu => (Heap.get?_update_other s.heap (Obj.mapSeq f) (Ne.symm hb)).trans hu) ⟨_, q⟩ ?_
 exact ⟨hz, its', _, hv, q⟩
theorem Inv.lnew {its : List Value} {t' : Nat} (I : Inv X pins σ H s) (hv : au ys its) (hz : ys.length ≤ sizeLine) :
  Inv X pins σ (upd H s.heap.objs.size (.lst ys)) { s with heap := s.heap.push { cls := .type "list", data := .seq its.toArray }, toks := t' } :=
 I.laid (fun _ _ q => Heap.get?_push_of_some _ q) (Nat.le_refl _) ⟨hz, its, 0, hv, Heap.get?_push_size _ rfl⟩
theorem Inv.fresh (I : Inv X pins σ H s) : H s.heap.objs.size = none := I.hok.fresh (Nat.le_refl _)
theorem Inv.lstM (I : Inv X pins σ H s) (hH : H l = some (.lst xs)) : xs.length ≤ sizeLine ∧ ∃ (its : List Value) (n : Nat), au xs its ∧ xs.length = its.length ∧ s.heap.get? l = some { cls := .type "list", data := .seq its.toArray n } := by
 obtain ⟨z, its, n, r, e⟩ := I.hok l _ hH
 exact ⟨z, its, n, r, r.length, e⟩
end
section
variable {X : Cx}
def jn : V → List V → Hp → VK → Prop := fun x vs H Q => ∃ l xs y, x = .ref l ∧ vs = [y] ∧ H l = some (.lst xs) ∧ xs.length < sizeLine ∧ Q .non (upd H l (.lst (xs ++ [y])))
theorem gv : MtM X "list.append" jn := by
 intro pins s σ H x vs v us Q I rx rv h
 obtain ⟨l, xs, y, rfl, rfl, hH, hz, q⟩ := h
 cases rx
 obtain ⟨u, rfl, ru⟩ := rv.one
 obtain ⟨z, its, n, r, hl, e⟩ := I.lstM hH
 refine call_meets F.slot_list_append ⟨_, e, rfl⟩ F.entry_list_append (F.args_list_append_2 _ _) (PySem.list_append l its.toArray n u (by rw [List.size_toArray]; omega)) ⟨e, ?_⟩
 refine ⟨.non, _, I.lset (its' := its ++ [u]) hH e (by simp) (r.append (.cons ru .nil)) ?_, rfl, q⟩
 rw [List.length_append, List.length_singleton]
 omega
def jU : R2 := fun x y H Q => ∃ l b xs zs, x = .ref l ∧ y = .ref b ∧ H l = some (.lst xs) ∧ H b = some (.lst zs) ∧ xs.length + zs.length ≤ sizeLine ∧ ∀ p, H p = none → Q (.ref p) (upd H p (.lst (xs ++ zs)))
theorem jO : OpR X (binaryOp .Add) jU := by
 intro pins s σ H x y v u Q I rx ry h
 obtain ⟨l, b, xs, zs, rfl, rfl, hH, hB, hz, q⟩ := h
 cases rx
 cases ry
 obtain ⟨z, its, n, r, hl, e⟩ := I.lstM hH
 obtain ⟨z2, its2, n2, r2, hl2, e2⟩ := I.lstM hB
 refine PySem.P.add_list e e2 ?_ (by rw [List.size_toArray, List.size_toArray]; omega)
 have ea : its.toArray ++ its2.toArray = (its ++ its2).toArray := by simp
 rw [ea]
 exact ⟨.ref _, _, I.lnew (t' := s.toks) (r.append r2) (by rw [List.length_append]; omega), rfl, q _ I.fresh⟩
end
section
variable {prog : Program} {w : World} {A : Around} {E : Value → Shared → Prop} {s : Shared}
set_option maxRecDepth 100000 in
end
section
variable {X : Cx}
end
end L2
namespace L2
open PySem PySem.Spec PyProof.Rows
section
variable {κ : Type} [DecidableEq κ]
def cr (kvs : List (κ × V)) (k : κ) : Option V := (kvs.find? fun kv => decide (kv.1 = k)).map (·.2)
theorem eS {p : κ × V} {r : List (κ × V)} {k : κ} (e : p.1 = k) : cr (p :: r) k = some p.2 := by simp [cr, List.find?_cons, e]
theorem eN {p : κ × V} {r : List (κ × V)} {k : κ} (e : ¬ p.1 = k) : cr (p :: r) k = cr r k := by simp [cr, List.find?_cons, e]
theorem KV.val {kvs : List (κ × V)} {vs : List (κ × Value)} (r : KV kvs vs) (k : κ) : bC (cr kvs k) (valueAt vs k) := by
  unfold KV at r
  induction r with
  | nil => exact True.intro
  | @cons p q ps qs h t ih =>
    obtain ⟨h1, h2⟩ := h
    by_cases e : p.1 = k
    · have e' : q.1 = k := h1.symm.trans e
      have b : valueAt (q :: qs) k = some q.2 := by simp [valueAt, List.find?_cons, e']
      rw [eS e, b]; exact h2
    · have e' : ¬ q.1 = k := fun z => e (h1.trans z)
      have b : valueAt (q :: qs) k = valueAt qs k := by simp [valueAt, List.find?_cons, e']
      rw [eN e, b]; exact ih
end
theorem iH {P : Program} {w : World} {k : Key} {u : Value} (r : aw (kV k) u) : (bn P w).is k u = true := by
 cases k with
 | inl i => obtain ⟨t, e⟩ := (show ∃ t, u = Value.int i t from r); subst e; exact fo P w i t
 | inr x => obtain ⟨t, e⟩ := (show ∃ t, u = Value.str x t from r); subst e; exact fe P w x t
theorem dZ {P : Program} {w : World} : ∀ {ks : List Key} {us : List Value}, au (ks.map kV) us → ItemsAre (bn P w) ks us
  | [], _, r => by rw [List.map_nil] at r; cases r; exact .nil
  | k :: ks, _, r => by
    rw [List.map_cons] at r
    cases r with
    | cons h t => exact .cons (iH h) (dZ t)
abbrev KT (H : Hp) : List (List Key × V) → List (List Key × Addr × Value) → Prop := Paired fun p q => p.1 = q.1 ∧ H q.2.1 = some (.tup (p.1.map kV)) ∧ aw p.2 q.2.2
theorem KT.val {H : Hp} {kvs : List (List Key × V)} {xs : List (List Key × Addr × Value)} (r : KT H kvs xs) (k : List Key) : bC (cr kvs k) ((atKey xs k).map (·.2)) := by
  induction r with
  | nil => exact True.intro
  | @cons p q ps qs h t ih =>
    obtain ⟨h1, _, h2⟩ := h
    by_cases e : p.1 = k
    · have e' : q.1 = k := h1.symm.trans e
      have b : atKey (q :: qs) k = some q.2 := by simp [atKey, List.find?_cons, e']
      rw [eS e, b]; exact h2
    · have e' : ¬ q.1 = k := fun z => e (h1.trans z)
      have b : atKey (q :: qs) k = atKey qs k := by simp [atKey, List.find?_cons, e']
      rw [eN e, b]; exact ih
section
variable {P : Program} {w : World} {H : Hp} {h : Heap} {a : Addr}
theorem iI {u : HO} (ok : HOk P w H h) (e : Rd H a u) : aM P w H h a u := e.ok ok
theorem iP {kvs : List (Key × V)} (ok : HOk P w H h) (e : Rd H a (.dK kvs)) : kvs.length ≤ sizeLine ∧ (a == sysModules) = false ∧ ∃ vs, KV kvs vs ∧ h.DictOf (bn P w) a vs :=
 show aM P w H h a (.dK kvs) from iI ok e
theorem gM {ks : List Key} (ok : HOk P w H h) (e : H a = some (.tup (ks.map kV))) : (tupleKind (bn P w)).is h ks a := by
 obtain ⟨_, its, r, o, h1, h2, n, h3⟩ := (show aM P w H h a (.tup (ks.map kV)) from ok a _ e)
 exact ⟨o, its.toArray, n, h1, h2, h3, by simpa using dZ r⟩
theorem iR {kvs : List (List Key × V)} (ok : HOk P w H h) (e : Rd H a (.dT kvs)) : kvs.length ≤ sizeLine ∧ (a == sysModules) = false ∧
    ∃ xs, KT H kvs xs ∧ h.DictOfH (tupleKind (bn P w)) a xs := by
  obtain ⟨z, y, xs, r, o, es, ep, h1, h2, h3, h4, h5⟩ := (show aM P w H h a (.dT kvs) from iI ok e)
  refine ⟨z, y, xs, r, o, es, ep, h1, h2, h3, h4, fun x hx => ?_, h5⟩
  have all : ∀ {l : List (List Key × V)} {m : List (List Key × Addr × Value)}, KT H l m → ∀ x ∈ m, (tupleKind (bn P w)).is h x.1 x.2.1 := by
    intro l m q
    induction q with
    | nil => intro x hx; exact nomatch hx
    | @cons p q ps qs hq t ih =>
      intro x hx
      rcases List.mem_cons.mp hx with e | hx
      · subst e
        exact gM ok (by rw [← hq.1]; exact hq.2.1)
      · exact ih x hx
  exact all r x hx
end
def gU (H : Hp) (a : Addr) (y : V) (r : Option V) : Prop :=
 (∃ kvs k, Rd H a (.dK kvs) ∧ y = kV k ∧ r = cr kvs k) ∨ ∃ kvs k b, Rd H a (.dT kvs) ∧ y = .ref b ∧ H b = some (.tup (k.map kV)) ∧ r = cr kvs k
section
variable {X : Cx} {pins : List (Addr × Obj)} {σ : St} {H : Hp} {s : Shared} {a : Addr} {y v : V} {u r : Value} {o : Option V} {A : Around} {E : Value → Shared → Prop}
theorem gR {Q : Value → Shared → Prop} (hu : A.units + 1 < cLine) (I : Inv X pins σ H s) (g : gU H a y (some v)) (ry : aw y u) (h : ∀ w' s', Inv X pins σ H s' → aw v w' → Q w' s') :
   wpAny (model X.prog X.w) A (getItem (.ref a) u) Q E s := by
 rcases g with ⟨kvs, k, e, ey, l⟩ | ⟨kvs, k, b, e, ey, eb, l⟩
 · subst ey
   obtain ⟨z, hd, vs, rel, dd⟩ := iP I.hok e
   obtain ⟨w', hw, rw'⟩ := bC.some_of (v := v) (o := valueAt vs k) (by rw [l]; exact rel.val k)
   exact wpAny_getItem_of (iH ry) dd.mapOf hw (h w' _ (I.tok _) rw')
 · subst ey
   cases (show u = Value.ref b from ry)
   obtain ⟨z, hd, xs, rel, dd⟩ := iR I.hok e
   obtain ⟨w', hw, rw'⟩ := bC.some_of (v := v) (o := (atKey xs k).map (·.2)) (by rw [l]; exact rel.val k)
   obtain ⟨p, hp, hp2⟩ := Option.map_eq_some_iff.mp hw
   refine wpAny_getItem_heap (tupleKind_room_in1 hu) (gM I.hok eb) dd hp ?_
   rw [hp2]
   exact h w' _ (I.tok _) rw'
end
section
variable {X : Cx} {pins : List (Addr × Obj)} {σ : St} {H : Hp} {s : Shared} {a : Addr} {kvs : List (Key × V)} {k : Key} {u : Value} {A : Around} {E : Value → Shared → Prop}
end
theorem fm {X : Cx} {pins : List (Addr × Obj)} {σ : St} {H : Hp} {s : Shared} {a : Addr} {y : V} {o : Option V} (I : Inv X pins σ H s) (g : gU H a y o) : s.TypeIs (.ref a) "dict" := by
 rcases g with ⟨kvs, k, e, _, _⟩ | ⟨kvs, k, b, e, _, _, _⟩
 · obtain ⟨_, _, vs, _, dd⟩ := iP I.hok e
   exact dd.typeIs
 · obtain ⟨_, _, xs, _, dd⟩ := iR I.hok e
   exact dd.typeIs
section
variable {X : Cx} {o i e value : Expr} {pos pos' tpos : Pos} {td ty tv : TE}
end
section
variable {X : Cx} {pos : Pos}
end
section
variable {X : Cx} {pins : List (Addr × Obj)} {σ : St} {H : Hp} {s : Shared} {a : Addr} {y d : V} {u r : Value} {o : Option V} {A : Around} {E : Value → Shared → Prop}
end
section
variable {X : Cx} {o e f : Expr} {apos cpos : Pos} {td ty tx : TE}
end
section
variable {X : Cx} {pins : List (Addr × Obj)} {σ : St} {H : Hp} {s : Shared} {a : Addr} {kvs : List (Key × V)} {A : Around} {E : Value → Shared → Prop}
end
section
variable {X : Cx} {pins : List (Addr × Obj)} {σ : St} {H : Hp} {s : Shared} {a : Addr} {y : V} {u : Value} {A : Around} {E : Value → Shared → Prop}
end
end L2
namespace Att
open PySem PySem.W PySem.Calls PyProof.Rows
theorem ints_of_wellAll {P : Params} {h : Heap} : ∀ (ns : List Int) (vs : List Value), WellAll P h vs (ns.map WData.int) → IntsAre vs ns := by
  intro ns
  induction ns with
  | nil =>
    intro vs w
    rw [List.map_nil] at w
    cases w
    exact .nil
  | cons n ns ih =>
    intro vs w
    rw [List.map_cons] at w
    cases w with
    | cons a b =>
      cases a
      exact .cons _ _ (ih _ b)
theorem script_of {l : OpenLaw} {n : Nat} (hn : l.most = some n) {P : Params} {h : Heap} {args : List WData} {vals : List Value}
    (hpre : l.row.toRowW.claim.pre args = true) (hwl : WellAll P h vals args) :
    ∃ a vs ns, vals = [Value.ref a] ∧ args = [WData.list (ns.map WData.int)] ∧ h.get? a = some { cls := .type "list", data := .seq vs.toArray } ∧ IntsAre vs ns ∧ ns.length ≤ n := by
  have hsh : WShape.hasAll [] args [.list .int] = true := (pre_splitW hpre).1
  have hc : l.pre.holds [] { args := args } = true := (pre_splitW hpre).2
  obtain ⟨d, r, rfl, h1, h2⟩ := hasAllW_cons hsh
  obtain rfl := hasAllW_nil h2
  obtain ⟨xs, rfl, h3⟩ := hasW_list h1
  obtain ⟨ns, rfl⟩ := items_int h3
  have hlen : ns.length ≤ n := by
    unfold OpenLaw.pre at hc
    have h4 : (WTm.not (.lt (.lit (.int (n : Int))) (.len (.arg 0)))).holds [] { args := [.list (ns.map .int)] } = true := by
      have h4 := (holds_andW hc).1
      rw [hn] at h4
      exact h4
    have h5 := condW_of h4 (w_not (w_lt w_lit (w_len_list (w_arg rfl))))
    rw [List.length_map] at h5
    refine Nat.le_of_not_lt fun q => ?_
    have q' : (n : Int) < ((ns.length : Nat) : Int) := by omega
    first
      | (rw [decide_eq_true q'] at h5; exact absurd h5 (by decide))
      | (simp at h5; omega)
  cases hwl with
  | cons w1 w2 =>
    cases w2
    cases w1 with
    | list ho hall => exact ⟨_, _, ns, rfl, rfl, ho, ints_of_wellAll ns _ hall, hlen⟩
theorem post_true (l : OpenLaw) (args : List WData) : l.row.toRowW.claim.post args (.bool true) args = true :=
 postW_of (r := l.row.toRowW) (X := (true == true))
  (show WShape.has [] (.bool true) .bool = true by first | rfl | decide | simp [WShape.has, WShape.arms, WShape.armsAll])
  (show (WTm.eq .res (.lit (.bool true))).value [] { args := args, res := some (.bool true), after := args } = some (.bool (true == true)) from w_eq_bool (w_res rfl) w_lit) rfl
theorem attach_call {l : OpenLaw} {n : Nat} {q : Program} {loose : List Str} {XP : (Str → Option Value) → Heap → Prop} {YP : World → Heap → Prop} {d : DefRec}
  (hn : l.most = some n) (hdf : d.params.defaults = [])
  (call : ∀ (w : World) (s₀ s₁ : Shared) (mg mb : Str → Option Value) (fa : Addr) (o : Obj) (pm cd doc : Value) (a : Addr) (vs : List Value) (ns : List Int),
   Ground q loose [] XP w s₀ mg mb s₁.heap → YP w s₁.heap →
   s₁.heap.get? fa = some o → o.data = .func (docDef d.name d.params d.body d.scope pm cd doc) → s₁.heap.CodeRec cd d.name → mg d.name = some (.ref fa) →
   s₁.heap.get? a = some { cls := .type "list", data := .seq vs.toArray } → IntsAre vs ns → ns.length ≤ n → s₁.gens = #[] →
   codeAny (model l.prog w) callerA (.call (.ref fa) ⟨[.ref a], []⟩) (fun r s' => r = .ok (.ret (.bool true)) ∧ OldK s₁.heap s'.heap ∧ s'.os = s₁.os ∧ AllBare s'.gens) s₁) :
  WalkO q loose XP YP l.row.toRowW d [] (fun f vs => PySem.call f vs) := by
 intro w s₀ s₁ mg mb G Y fa o pm cd doc dV kV ho hd hcd hD hmg hg args vals as hpre hlay hrd hwl hlo
 obtain rfl : dV = .none := Dflts.none hD hdf
 obtain rfl : kV = .none := Dflts.noKw hD
 obtain ⟨a, vs, ns, rfl, rfl, hobj, hints, hlen⟩ := script_of hn hpre hwl
 refine enter_call (codeAny_mono (call w s₀ s₁ mg mb fa o pm cd doc a vs ns G Y ho (fd_plain hd) hcd hmg hobj hints hlen hg) fun r s' hq => ?_)
 obtain ⟨rfl, h2, h3, h4⟩ := hq
 exact ⟨.inl ⟨.bool true, .bool true, [], rfl, fun _ => rfl, .bool true, post_true l _, fun _ => ⟨List.Pairwise.nil, fun _ hm => (nomatch hm)⟩⟩, h2, h3, h4⟩
section
variable {prog : Program} {w : World} {A : Around} {E : Value → Shared → Prop} {s : Shared} {K : Frag}
end
end Att
namespace L2
open PySem PySem.Spec PyProof.Rows
theorem el : ∀ {vs : List Value} {ns : List Int}, IntsAre vs ns → au (ns.map V.int) vs
 | _, _, .nil => .nil
 | _, _, .cons n t h => .cons ⟨t, rfl⟩ (el h)
end L2
namespace L2
open PySem PySem.Spec PyProof.Rows
end L2
namespace L2
open PySem PySem.Spec PyProof.Rows
def bb (s : Stmt) : Arguments := match s with
 | .FunctionDef _ a _ _ _ _ _ _ _ _ => a
 | _ => { posonlyargs := [], args := [], vararg := none, kwonlyargs := [], kw_defaults := [], kwarg := none, defaults := [] }
def aD (s : Stmt) : List Stmt := match s with
 | .FunctionDef _ _ b _ _ _ _ _ _ _ => b
 | _ => []
def ai (s : Stmt) : Scope := match s with
 | .FunctionDef _ _ _ _ _ _ sc _ _ _ => sc
 | _ => { kind := .function, names := [], isGenerator := false, isCoroutine := false }
abbrev E0 : XK := fun _ _ _ => False
structure Fun (K : W.Frag) (x qual : Str) (st : Stmt) (f : Addr) (fd : FuncData) : Prop where
 ex : ∃ (oc : Value) (od : Option Addr) (kV doc pm : Value) (an : Option Addr) (cdv ct : Value) (osl : Array (Option Value)),
  fd = W.fnOf x qual (bb st) (aD st) (ai st) .none kV doc pm an cdv ct ∧ K.lookup f = some ⟨oc, od, .func fd, osl⟩ ∧ W.codeIn K cdv qual = true
 kp : W.keepIn K (.ref f) = true
section
variable {P : Program} {w : World} {K : W.Frag} {mg : Str → Option Value} {base : Heap}
theorem Fun.binds {x qual : Str} {st : Stmt} {f : Addr} {fd : FuncData} {ps : List Str} (F : Fun K x qual st f fd)
  (h : ∀ (kV doc pm : Value) (an : Option Addr) (cdv ct : Value) (us : List Value), us.length = ps.length → bindArgs (W.fnOf x qual (bb st) (aD st) (ai st) .none kV doc pm an cdv ct) ⟨us, []⟩ = pure (ps.zip us)) : bv K fd ps [] := by
 obtain ⟨oc, od, kV, doc, pm, an, cdv, ct, osl, rfl, lk, hcd⟩ := F.ex
 exact .all (h kV doc pm an cdv ct)
theorem di {x qual : Str} {st : Stmt} {f : Addr} {oc : Value} {od an : Option Addr} {osl : Array (Option Value)} {kV doc pm cdv ct : Value} (l : K.lookup f = some ⟨oc, od, .func (W.fnOf x qual (bb st) (aD st) (ai st) .none kV doc pm an cdv ct), osl⟩)
 (c : W.codeIn K cdv qual = true) (k : W.keepIn K (.ref f) = true) : Fun K x qual st f (W.fnOf x qual (bb st) (aD st) (ai st) .none kV doc pm an cdv ct) := ⟨⟨oc, od, kV, doc, pm, an, cdv, ct, osl, rfl, l, c⟩, k⟩
end
theorem gN {n : Nat} (h : n ≤ 1000) : n < sizeLine := Nat.lt_of_le_of_lt h (by decide)
section
variable {X : Cx}
end
def ar (H H' : Hp) : Prop := ∀ b o, H b = some o → H' b = some o
theorem ar.refl (H : Hp) : ar H H := fun _ _ h => h
theorem ar.trans {H H1 H2 : Hp} (a : ar H H1) (b : ar H1 H2) : ar H H2 := fun c o h => b c o (a c o h)
theorem ar.seq {K : W.Frag} {H H' : Hp} {a : Addr} {xs : List V} (e : ar H H') (h : SqL K H a xs) : SqL K H' a xs := by
 rcases h with (h | ⟨o, h⟩) | h
 · exact .inl (.inl (e _ _ h))
 · exact .inl (.inr ⟨o, e _ _ h⟩)
 · exact .inr h
section
variable {κ : Type} [DecidableEq κ]
end
end L2
namespace L2
open PySem PySem.Spec PyProof.Rows
def bq : List (Str × NameKind) → List (Str × Addr) → List (Str × Addr) → List (Str × Addr)
 | [], _, cs => cs
 | (n, k) :: r, cells, cs => bq r cells (if k == .free then (match cells.lookup n with | some a => (n, a) :: cs | none => cs) else cs)
theorem eM {scope : Scope} {env : Env} (h : ∀ y ∈ scope.names, y.2 = .free → (env.cells.lookup y.1).isSome = true) : closureFor scope env = pure (bq scope.names env.cells []) := by
  have key : ∀ (l : List (Str × NameKind)) (cs : List (Str × Addr)), (∀ y ∈ l, y.2 = .free → (env.cells.lookup y.1).isSome = true) →
      (forIn l cs (fun (x : Str × NameKind) (cs : List (Str × Addr)) => (if (x.2 == NameKind.free) = true then (do let a ← cellOf env x.1; pure (ForInStep.yield ((x.1, a) :: cs))) else (pure (ForInStep.yield cs) : Sem _))) : Sem (List (Str × Addr))) = pure (bq l env.cells cs) := by
    intro l
    induction l with
    | nil => intro cs _; rfl
    | cons y r ih =>
      intro cs hy
      obtain ⟨n, k⟩ := y
      rw [List.forIn_cons]
      by_cases hk : k = .free
      · subst hk
        have hs := hy (n, .free) List.mem_cons_self rfl
        cases e : env.cells.lookup n with
        | none => rw [e] at hs; cases hs
        | some a =>
          have := ih ((n, a) :: cs) (fun z hz => hy z (List.mem_cons_of_mem _ hz))
          simp only [bq, beq_self_eq_true, if_true, e, cellOf, pure_bind]
          exact this
      · have hb : (k == NameKind.free) = false := by simpa using hk
        have := ih cs (fun z hz => hy z (List.mem_cons_of_mem _ hz))
        simp only [bq, hb, Bool.false_eq_true, if_false, pure_bind]
        exact this
  have := key scope.names [] h
  unfold closureFor
  simpa using this
theorem dX : ∀ {l : List (Str × NameKind)} {cells cs : List (Str × Addr)} {x : Str} {c : Addr}, (∀ x c, cs.lookup x = some c → cells.lookup x = some c) → (bq l cells cs).lookup x = some c → cells.lookup x = some c
  | [], _, _, _, _, h, e => h _ _ e
  | (n, k) :: r, cells, cs, x, c, h, e => by
    refine dX (l := r) (fun y d hy => ?_) e
    split at hy
    · split at hy
      · rename_i a ha
        by_cases hyn : y = n
        · subst hyn
          rw [List.lookup_cons_self] at hy
          rw [← hy]; exact ha
        · rw [List.lookup_cons] at hy
          have : (y == n) = false := by simpa using hyn
          rw [this] at hy
          exact h _ _ hy
      · exact h _ _ hy
    · exact h _ _ hy
theorem dg : ∀ {l : List (Str × NameKind)} {cells cs : List (Str × Addr)} {x : Str}, (cs.lookup x).isSome = true → ((bq l cells cs).lookup x).isSome = true
  | [], _, _, _, h => h
  | (n, k) :: r, cells, cs, x, h => by
    refine dg (l := r) ?_
    split
    · split
      · rw [List.lookup_cons]
        split
        · rfl
        · exact h
      · exact h
    · exact h
theorem cJ : ∀ {l : List (Str × NameKind)} {cells cs : List (Str × Addr)} {x : Str}, (x, NameKind.free) ∈ l → (cells.lookup x).isSome = true → ((bq l cells cs).lookup x).isSome = true
  | [], _, _, _, h, _ => by cases h
  | (n, k) :: r, cells, cs, x, h, hs => by
    rcases List.mem_cons.mp h with e | h
    · cases e
      refine dg (l := r) ?_
      simp only [beq_self_eq_true, if_true]
      cases e : cells.lookup n with
      | none => rw [e] at hs; cases hs
      | some a => simp only [List.lookup_cons_self]; rfl
    · exact cJ (l := r) h hs
theorem du {x : Str} {k : NameKind} : ∀ {l : List (Str × NameKind)}, l.lookup x = some k → (x, k) ∈ l := fun h => PySem.mem_of_lookup h
inductive bW (X : Cx) (scope : Scope) : List Str → List Nat → Prop where
 | nil : bW X scope [] []
 | cons {y : Str} {i : Nat} {ys : List Str} {is : List Nat} (h1 : X.N[i]? = some y) (h2 : X.env.kindOf y = some .cell ∨ X.env.kindOf y = some .free) (h3 : scope.names.lookup y = some .free) (h : bW X scope ys is) : bW X scope (y :: ys) (i :: is)
structure bU (scope : Scope) (x : Str) (ys : List Str) : Prop where
 kind : scope.kind = .function
 nocell : ∀ y ∈ scope.names, y.2 ≠ .cell
 names : ∀ y ∈ scope.names, y.2 = .local → scope.names.lookup y.1 = some .local
 own : scope.names.lookup x = some .local
 all : ∀ y ∈ scope.names, y.2 = .free → y.1 ∈ ys
 nd : (x :: ys).Nodup
def aF (X : Cx) (scope : Scope) (C : Addr) (N : List Str) (s : Shared) (H : Hp) (fp : List Addr) : Cx :=
 { X with N := N, s₀ := s, H₀ := H, env := compEnvC scope (bq scope.names X.env.cells []) C X.env, outer := X.stack, ex := fp, fn := fun _ => false, pn := [], xe := fun _ _ => False }
def aG (σ : St) (is : List Nat) : St := is.map fun i => (σ[i]?).getD none
theorem cj {f : Str × NameKind → Str × NameKind} (hf : ∀ p, (f p).1 = p.1) {x : Str} : ∀ (l : List (Str × NameKind)), (l.map f).lookup x = (l.lookup x).map fun k => (f (x, k)).2
  | [] => rfl
  | (n, k) :: r => by
    have ih := cj hf (x := x) r
    have e : f (n, k) = (n, (f (n, k)).2) := Prod.ext (hf (n, k)) rfl
    rw [List.map_cons, e, List.lookup_cons, List.lookup_cons]
    cases hx : x == n with
    | true =>
      have e' : x = n := by simpa using hx
      subst e'; rfl
    | false => exact ih
theorem cu (scope : Scope) (env : Env) (x : Str) : (relabel scope env).names.lookup x = (scope.names.lookup x).map fun k => if (k == NameKind.free && env.scope.kind == .function && env.kindOf x == some .cell) then NameKind.cell else k := by
 have hf : ∀ p : Str × NameKind, ((fun (n, k) => if (k == NameKind.free && env.scope.kind == .function && env.kindOf n == some .cell) then (n, NameKind.cell) else (n, k)) p : Str × NameKind).1 = p.1 := by
  intro p
  obtain ⟨n, k⟩ := p
  show (if _ then (n, NameKind.cell) else (n, k)).1 = n
  split <;> rfl
 have := cj hf (x := x) scope.names
 show List.lookup x (List.map _ scope.names) = _
 rw [this]
 congr 1
 funext k
 show (if _ then (x, NameKind.cell) else (x, k)).2 = _
 split <;> rfl
theorem cg {scope : Scope} {env : Env} {x : Str} {k : NameKind} (nc : ∀ y ∈ scope.names, y.2 ≠ .cell) (h : (relabel scope env).names.lookup x = some k) (hk : k = .cell ∨ k = .free) : (x, NameKind.free) ∈ scope.names := by
  rw [cu] at h
  cases q : scope.names.lookup x with
  | none => rw [q] at h; cases h
  | some k' =>
    have hm := du q
    rw [q] at h
    have h : (if (k' == NameKind.free && env.scope.kind == .function && env.kindOf x == some .cell) then NameKind.cell else k') = k := Option.some.inj h
    by_cases hc : k' = .free
    · subst hc; exact hm
    · have hb : (k' == NameKind.free) = false := by simpa using hc
      rw [hb] at h
      have h : k' = k := h
      subst h
      rcases hk with z | z
      · exact absurd z (nc _ hm)
      · exact absurd z hc
theorem eR {scope : Scope} {env : Env} {x : Str} (h : scope.names.lookup x = some .free) : (relabel scope env).names.lookup x = some .cell ∨ (relabel scope env).names.lookup x = some .free := by
 rw [cu, h]
 show some (if _ then _ else _) = _ ∨ some (if _ then _ else _) = _
 split
 · exact .inl rfl
 · exact .inr rfl
theorem eu {scope : Scope} {env : Env} {x : Str} (h : scope.names.lookup x = some .local) : (relabel scope env).names.lookup x = some .local := by
 rw [cu, h]; rfl
theorem gw {X : Cx} {scope : Scope} {ys : List Str} {is : List Nat} {m : Str → Option Value} {h : Heap} {σ : St} (hc : bW X scope ys is)
    (hl : ∀ (i : Nat) (x : Str) (v : V), X.N[i]? = some x → σ[i]? = some (some v) → Vis X.env.scope x → ∃ u, aw v u ∧ kJ X.env h m x u) (nd : True) :
    ∀ (j : Nat) (y : Str) (v : V), ys[j]? = some y → (aG σ is)[j]? = some (some v) → ∃ u, aw v u ∧ scope.names.lookup y = some .free ∧ ∃ c, X.env.cells.lookup y = some c ∧ h.IsCell c (some u) := by
  induction hc with
  | nil => intro j y v e; simp at e
  | @cons z i zs js h1 h2 h3 hr ih =>
    intro j y v e1 e2
    cases j with
    | zero =>
      simp at e1; subst e1
      have e2 : (σ[i]?).getD none = some v := by simpa [aG] using e2
      have e3 : σ[i]? = some (some v) := by
        cases q : σ[i]? with
        | none => rw [q] at e2; simp at e2
        | some o => rw [q] at e2; simp at e2; rw [e2]
      have hv : Vis X.env.scope z := by
        rcases h2 with q | q
        · exact .inr (.inl q)
        · exact .inr (.inr q)
      obtain ⟨u, r, l⟩ := hl i z v h1 e3 hv
      refine ⟨u, r, h3, ?_⟩
      rcases l with ⟨k, _⟩ | ⟨_, c, e, ic⟩
      · rcases h2 with q | q
        · rw [q] at k; cases k
        · rw [q] at k; cases k
      · exact ⟨c, e, ic⟩
    | succ j =>
      exact ih j y v (by simpa using e1) (by simpa [aG] using e2)
end L2
namespace L2
open PySem PySem.Spec PyProof.Rows
def iM (is : List Nat) (tc : TT) (te : TE) (σ : St) (D : Addr) (J : It) (H1 : Hp) (Q : VK) : Prop := ∃ W : Nat → Nat → List V → Hp → Prop, (∃ m, W 0 m [] (upd H1 D (.lst []))) ∧
 ∀ i m ys H2, W i m ys H2 → (J.stop i H2 ∧ Q (.ref D) H2) ∨ (J.go i H2 ∧ ∀ x H3, J.yld i H2 x H3 → tc (some x :: aG σ is) H3 fun b H4 => if b = true then
  te (some x :: aG σ is) H4 fun y H5 => H5 D = some (.lst ys) ∧ ys.length < sizeLine ∧ ∃ m', m' < m ∧ W (i + 1) m' (ys ++ [y]) (upd H5 D (.lst (ys ++ [y])))
  else ∃ m', m' < m ∧ W (i + 1) m' ys H4)
def fH (is : List Nat) (wi : TI) (tc : TT) (te : TE) : TE := fun σ H Q => wi σ H fun J H1 => ∀ D, H1 D = none → iM is tc te σ D J H1 Q
theorem fi (elt target iter c : Expr) (scope : Scope) (pos : Pos) (it acc : Value) (env : Env) :
    compTurn (.ListComp elt [⟨target, iter, [c], 0⟩] scope pos) 0 it acc env = (standAt iter.pos >>= fun _ => pyNext it >>= fun r => match r with
      | none => pure (.done .next)
      | some v => letOwnedTupleGo target it v >>= fun _ => assign target env v >>= fun _ => isTrue c env (eval c env) >>= fun ok =>
        (if ok = true then (eval elt env >>= fun x => call (.builtin "list.append") [acc, x] >>= fun _ => pure ()) else pure ()) >>= fun _ =>
          again (.compLoop (.ListComp elt [⟨target, iter, [c], 0⟩] scope pos) 0 it acc env)) := by
  unfold compTurn
  simp only [List.forIn_cons, List.forIn_nil, List.getElem?_cons_zero, List.getElem?_cons_succ, List.getElem?_nil, bind_assoc, pure_bind, bne_self_eq_false, Bool.false_eq_true, if_false, if_true]
  congr 1
  funext _
  congr 1
  funext r
  cases r with
  | none => rfl
  | some v =>
    simp only [bind_assoc, pure_bind, if_true]
    congr 1; funext _
    congr 1; funext _
    congr 1; funext b
    cases b <;> simp
section
variable {prog : Program} {w : World} {A : Around} {R : Result → Shared → Prop} {s : Shared}
theorem cD {elt target iter c : Expr} {scope : Scope} {pos : Pos} {it acc : Value} {env : Env} (I : Nat → Shared → Prop)
    (turn : ∀ n s, I n s → wpAny (model prog w) A (pyNext it) (fun r s₁ => match r with
      | none => R (.ok .next) s₁
      | some v => wpAny (model prog w) A (letOwnedTupleGo target it v) (fun _ s₁ => wpAny (model prog w) A (assign target env v) (fun _ s₂ => wpAny (model prog w) A (isTrue c env (eval c env)) (fun ok s₂ => if ok = true then wpAny (model prog w) A (eval elt env) (fun x s₃ =>
          wpAny (model prog w) A (call (.builtin "list.append") [acc, x]) (fun _ s₄ => ∃ m, m < n ∧ I m s₄) (notedBy (model prog w) A env fun e s' => R (.error e) s') s₃)
          (notedBy (model prog w) A env fun e s' => R (.error e) s') s₂ else ∃ m, m < n ∧ I m s₂) (notedBy (model prog w) A env fun e s' => R (.error e) s') s₂) (notedBy (model prog w) A env fun e s' => R (.error e) s') s₁) (notedBy (model prog w) A env fun e s' => R (.error e) s') s₁) (notedBy (model prog w) A env fun e s' => R (.error e) s') s)
    (n : Nat) (h : I n s) :
    codeAny (model prog w) A (.compLoop (.ListComp elt [⟨target, iter, [c], 0⟩] scope pos) 0 it acc env) R s := by
  refine codeAny_loop rfl I (fun n s hI => ?_) n h
  show wpAny _ _ ((compTurn (.ListComp elt [⟨target, iter, [c], 0⟩] scope pos) 0 it acc env).onRaise (fun x => do noteFrame x env; theTreesLotGoes x)) _ _ s
  refine wpAny_noted ?_
  rw [fi]
  refine wpAny_bind (wpAny_standAt (wpAny_bind (wpAny_mono (turn n s hI) (fun r s₁ h₁ => ?_) fun _ _ h' => h')))
  cases r with
  | none => exact wpAny_pure h₁
  | some v =>
    refine wpAny_bind (wpAny_mono h₁ (fun _ s₁ h₁ => wpAny_bind (wpAny_mono h₁ (fun _ s₂ h₂ => wpAny_bind (wpAny_mono h₂ (fun ok s₃ h₃ => ?_) fun _ _ h' => h')) fun _ _ h' => h')) fun _ _ h' => h')
    cases ok with
    | true =>
      rw [if_pos rfl] at h₃
      simp only [if_true]
      exact wpAny_bind (wpAny_bind (wpAny_mono h₃ (fun x s₃ h₃ => wpAny_bind (wpAny_mono h₃ (fun _ s₄ h₄ => wpAny_pure (wpAny_pure ⟨rfl, h₄⟩)) fun _ _ h' => h')) fun _ _ h' => h'))
    | false =>
      rw [if_neg Bool.false_ne_true] at h₃
      simp only [Bool.false_eq_true, if_false]
      exact wpAny_bind (wpAny_pure (wpAny_pure ⟨rfl, h₃⟩))
theorem cE {elt target iter : Expr} {scope : Scope} {pos : Pos} {it acc : Value} {env : Env} (I : Nat → Shared → Prop)
    (turn : ∀ n s, I n s → wpAny (model prog w) A (pyNext it) (fun r s₁ => match r with
      | none => R (.ok .next) s₁
      | some v => wpAny (model prog w) A (letOwnedTupleGo target it v) (fun _ s₁ => wpAny (model prog w) A (assign target env v) (fun _ s₂ => wpAny (model prog w) A (eval elt env) (fun x s₃ =>
          wpAny (model prog w) A (call (.builtin "list.append") [acc, x]) (fun _ s₄ => ∃ m, m < n ∧ I m s₄) (notedBy (model prog w) A env fun e s' => R (.error e) s') s₃)
          (notedBy (model prog w) A env fun e s' => R (.error e) s') s₂) (notedBy (model prog w) A env fun e s' => R (.error e) s') s₁) (notedBy (model prog w) A env fun e s' => R (.error e) s') s₁) (notedBy (model prog w) A env fun e s' => R (.error e) s') s)
    (n : Nat) (h : I n s) :
    codeAny (model prog w) A (.compLoop (.ListComp elt [⟨target, iter, [], 0⟩] scope pos) 0 it acc env) R s := by
  refine codeAny_loop rfl I (fun n s hI => ?_) n h
  show wpAny _ _ ((compTurn (.ListComp elt [⟨target, iter, [], 0⟩] scope pos) 0 it acc env).onRaise (fun x => do noteFrame x env; theTreesLotGoes x)) _ _ s
  refine wpAny_noted ?_
  rw [compTurn_list1]
  refine wpAny_bind (wpAny_standAt (wpAny_bind (wpAny_mono (turn n s hI) (fun r s₁ h₁ => ?_) fun _ _ h' => h')))
  cases r with
  | none => exact wpAny_pure h₁
  | some v =>
    exact wpAny_bind (wpAny_mono h₁ (fun _ s₁ h₁ => wpAny_bind (wpAny_mono h₁ (fun _ s₂ h₂ => wpAny_bind (wpAny_bind (wpAny_mono h₂ (fun x s₃ h₃ => wpAny_bind (wpAny_mono h₃
      (fun _ s₄ h₄ => wpAny_pure (wpAny_pure ⟨rfl, h₄⟩)) fun _ _ h' => h')) fun _ _ h' => h'))) fun _ _ h' => h')) fun _ _ h' => h')
end
def kl (X : Cx) (ifs : List Expr) (tc : TT) : Prop := match ifs with
 | [] => tc = fun _ H Q => Q true H
 | [c] => PT X c tc
 | _ => False
section
variable {X : Cx}
theorem gS {scope : Scope} {ys : List Str} {is : List Nat} (h : bW X scope ys is) : is.length = ys.length := by
 induction h with
 | nil => rfl
 | cons _ _ _ _ ih => simp [ih]
theorem dU {scope : Scope} {ys : List Str} {is : List Nat} (h : bW X scope ys is) {y : Str} (hy : y ∈ ys) : X.env.kindOf y = some .cell ∨ X.env.kindOf y = some .free := by
  induction h with
  | nil => cases hy
  | cons _ h2 _ _ ih =>
    rcases List.mem_cons.mp hy with e | e
    · rw [e]; exact h2
    · exact ih e
end
end L2
namespace L2
open PySem PySem.Spec PyProof.Rows
section
variable {X : Cx}
theorem je {scope : Scope} {x : Str} {ys : List Str} {is : List Nat} (ok : X.Ok) (S : bU scope x ys) (hcap : bW X scope ys is) : closureFor scope X.env = pure (bq scope.names X.env.cells []) :=
 eM fun y hy hk => by
  obtain ⟨c, e⟩ := ok.has y.1 (dU hcap (S.all y hy hk))
  rw [e]; rfl
end
end L2
namespace L2
open PySem PySem.Spec PyProof.Rows
section
variable {X : Cx}
end
end L2
namespace L2
open PySem PySem.Spec PyProof.Rows
section
variable {X : Cx}
end
end L2
namespace L2
open PySem PySem.Spec PyProof.Rows
@[irreducible] def Sel (b : Bool) (A B : Prop) : Prop := if b = true then A else B
theorem Sel.mk {b : Bool} {A B : Prop} (h1 : b = true → A) (h2 : b = false → B) : Sel b A B := by
 unfold Sel
 cases b with
 | true => exact h1 rfl
 | false => exact h2 rfl
theorem Sel.t {A B : Prop} (h : A) : Sel true A B := .mk (fun _ => h) fun e => by cases e
theorem Sel.f {A B : Prop} (h : B) : Sel false A B := .mk (fun e => by cases e) fun _ => h
theorem Sel.dec {p A B : Prop} [Decidable p] (h1 : p → A) (h2 : ¬ p → B) : Sel (decide p) A B := .mk (fun e => h1 (of_decide_eq_true e)) fun e => h2 (of_decide_eq_false e)
theorem Sel.yes {b : Bool} {A B : Prop} (e : b = true) (h : A) : Sel b A B := by rw [e]; exact .t h
theorem Sel.no {b : Bool} {A B : Prop} (e : b = false) (h : B) : Sel b A B := by rw [e]; exact .f h
theorem cb {b : Bool} {A B : Prop} (h : Sel b A B) : if b = true then A else B := by unfold Sel at h; exact h
def af (i : Nat) : TE := fun σ H Q => match σ[i]? with | some (some v) => Q v H | _ => False
section
variable {X : Cx}
theorem PE.imp {e : Expr} {t t' : TE} (h : PE X e t) (i : ∀ σ H Q, t' σ H Q → t σ H Q) : PE X e t' := fun pins s σ H Q I q => h pins s σ H Q I (i _ _ _ q)
theorem OpR.imp {f : Value → Value → Sem Value} {r r' : R2} (h : OpR X f r) (i : ∀ x y H Q, r' x y H Q → r x y H Q) : OpR X f r' := fun pins s σ H x y v u Q I rx ry q => h pins s σ H x y v u Q I rx ry (i _ _ _ _ q)
theorem qv (i : Nat) {x : Str} {pos : Pos} (hN : X.N[i]? = some x := by rfl) (hv : Vis X.env.scope x := by first | exact Or.inl rfl | exact Or.inr (Or.inl rfl) | exact Or.inr (Or.inr rfl)) (hd : (x == ("__debug__" : Str)) = false := by decide)
   (hcd : (x == ("__classdict__" : Str)) = false := by decide) : PE X (.Name x pos) (af i) := (kt hN hv hd hcd).imp fun σ H Q q => by
 unfold af at q
 split at q
 · rename_i v e; exact ⟨v, e, q⟩
 · exact q.elim
def dc : R2 := fun x y H Q => match x, y with | .int i, .int j => 0 < j ∧ Q (.int (i % j)) H | _, _ => False
theorem eV : OpR X (binaryOp .Mod) dc := kQ.imp fun x y H Q q => by
 unfold dc at q
 split at q
 · exact ⟨_, _, rfl, rfl, q.1, q.2⟩
 · exact q.elim
def hZ : R2 := fun x y H Q => match x, y with | .int i, .int j => (0 ≤ j ∧ j ≤ 1000000 ∧ i.natAbs < 2 ^ 64) ∧ Q (.int (i ^ j.toNat)) H | _, _ => False
theorem lV : OpR X (binaryOp .Pow) hZ := kj.imp fun x y H Q q => by
 unfold hZ at q
 split at q
 · exact ⟨_, _, rfl, rfl, q.1, q.2⟩
 · exact q.elim
def mLt : R2 := fun x y H Q => match x, y with | .int i, .int j => Q (.bl (decide (i < j))) H | _, _ => False
theorem oLt : OpR X (compareOp .Lt) mLt := lI.imp fun x y H Q q => by
 unfold mLt at q
 split at q
 · exact ⟨_, _, rfl, rfl, q⟩
 · exact q.elim
def mEq : R2 := fun x y H Q => match x, y with
 | .int i, .int j => Q (.bl (decide (i = j))) H
 | .str i, .str j => Q (.bl (decide (i = j))) H
 | .bl i, .bl j => Q (.bl (decide (i = j))) H
 | .non, .non => Q (.bl true) H
 | .non, .int _ => Q (.bl false) H | .int _, .non => Q (.bl false) H | .non, .bl _ => Q (.bl false) H | .bl _, .non => Q (.bl false) H | .non, .str _ => Q (.bl false) H | .str _, .non => Q (.bl false) H
 | .int _, .str _ => Q (.bl false) H | .str _, .int _ => Q (.bl false) H | .bl _, .str _ => Q (.bl false) H | .str _, .bl _ => Q (.bl false) H
 | _, _ => False
theorem cG {α : Type} [DecidableEq α] {f : α → V} (hf : ∀ a b, f a = f b → a = b) (a b : α) : decide (f a = f b) = decide (a = b) := by
 by_cases h : a = b
 · subst h; simp
 · rw [decide_eq_false h, decide_eq_false fun e => h (hf a b e)]
theorem oEq : OpR X (compareOp .Eq) mEq := lD.imp fun x y H Q q => by
 unfold mEq at q
 split at q
 · exact ⟨rfl, by rw [cG (f := V.int) fun _ _ e => V.int.inj e]; exact q⟩
 · exact ⟨rfl, by rw [cG (f := V.str) fun _ _ e => V.str.inj e]; exact q⟩
 · exact ⟨rfl, by rw [cG (f := V.bl) fun _ _ e => V.bl.inj e]; exact q⟩
 · exact ⟨rfl, by simpa using q⟩
 all_goals first | exact q.elim | exact ⟨rfl, q⟩
def mNe : R2 := fun x y H Q => match x, y with
 | .int i, .int j => Q (.bl (!decide (i = j))) H
 | .str i, .str j => Q (.bl (!decide (i = j))) H
 | .bl i, .bl j => Q (.bl (!decide (i = j))) H
 | .non, .non => Q (.bl false) H
 | .non, .int _ => Q (.bl true) H | .int _, .non => Q (.bl true) H | .non, .bl _ => Q (.bl true) H | .bl _, .non => Q (.bl true) H | .non, .str _ => Q (.bl true) H | .str _, .non => Q (.bl true) H
 | .int _, .str _ => Q (.bl true) H | .str _, .int _ => Q (.bl true) H | .bl _, .str _ => Q (.bl true) H | .str _, .bl _ => Q (.bl true) H
 | _, _ => False
theorem oNe : OpR X (compareOp .NotEq) mNe := lA.imp fun x y H Q q => by
 unfold mNe at q
 split at q
 · exact ⟨rfl, by rw [cG (f := V.int) fun _ _ e => V.int.inj e]; exact q⟩
 · exact ⟨rfl, by rw [cG (f := V.str) fun _ _ e => V.str.inj e]; exact q⟩
 · exact ⟨rfl, by rw [cG (f := V.bl) fun _ _ e => V.bl.inj e]; exact q⟩
 · exact ⟨rfl, by simpa using q⟩
 all_goals first | exact q.elim | exact ⟨rfl, q⟩
def aO (t : TE) : TT := fun σ H Q => t σ H fun x H' => match x with | .bl k => Q k H' | _ => False
theorem qtc {op : CmpOp} {r : R2} {a b : Expr} {ta tb : TE} {pos : Pos} (ho : OpR X (compareOp op) r) (ha : PE X a ta) (hb : PE X b tb) (hm : behindInMarks op b = false := by first | exact dE _ | rfl) : PT X (.Compare a [op] [b] pos) (aO (tOp r ta tb)) := by
 intro pins s σ H Q I h
 refine wpAny_isTrue_Compare1 (thn (ha pins s σ H _ I h) fun v s1 ⟨x, H1, I1, r1, q1⟩ => thn (hb pins s1 σ H1 _ I1 q1) fun u s2 ⟨y, H2, I2, r2, q2⟩ =>
  thn (ho pins s2 σ H2 x y v u _ I2 r1 r2 q2) fun c s3 ⟨z, H3, I3, r3, q3⟩ => ?_) hm
 cases z <;> first | exact q3.elim | (cases r3; exact wpAny_truthy_bool ⟨H3, I3, q3⟩)
theorem qc {op : CmpOp} {r : R2} {a b : Expr} {ta tb : TE} {pos : Pos} (ho : OpR X (compareOp op) r) (ha : PE X a ta) (hb : PE X b tb) (hm : behindInMarks op b = false := by first | exact dE _ | rfl) : PE X (.Compare a [op] [b] pos) (tOp r ta tb) := jm ho ha hb hm
def dJ (K : W.Frag) (t : TE) : TT := fun σ H Q => t σ H fun x H' => match x with
 | .bl k => Q k H'
 | .non => Q false H'
 | .int i => Q (i != 0) H'
 | x => ∃ k, kc K x H' k ∧ Q k H'
theorem qtb {e : Expr} {t : TE} (h : PE X e t) (he : ∀ whole, isTrue e X.env whole = (do let v ← whole; standAt e.pos; holding [v] (truthy v)) := by intro _; rfl) : PT X e (dJ X.K t) := by
 intro pins s σ H Q I q
 refine isTrue_plain (thn (h pins s σ H _ I q) fun v s1 ⟨x, H1, I1, r1, q1⟩ => kx pins s1 σ H1 x v Q I1 r1 ?_) (he _)
 cases x <;> first | exact ⟨_, rfl, q1⟩ | exact q1
def mOr (t u : TT) : TT := fun σ H Q => t σ H fun c H1 => Sel c (Q true H1) (u σ H1 Q)
variable {a b c : Expr} {ta tb : TE} {tA tB' : TT} {bd : List Expr} {pos : Pos}
theorem kP (ha : PT X a tA) : PW X (.BoolOp .Or [a] pos) tA := kT ha
theorem lm (ha : PT X a tA) (hb : PW X (.BoolOp .Or (b :: bd) pos) tB') : PW X (.BoolOp .Or (a :: b :: bd) pos) (mOr tA tB') := by
 intro wh pins s σ H Q I h
 refine isTrue_or (thn (ha pins s σ H _ I h) fun c s1 ⟨H1, I1, q1⟩ => ?_)
 have q1 := cb q1
 cases c with
 | true => exact ⟨H1, I1, q1⟩
 | false => exact hb wh pins s1 σ H1 Q I1 q1
def eA (ta tb : TE) : TE := fun σ H Q => ta σ H fun x H1 => match x with | .bl c => Sel c (tb σ H1 Q) (Q (.bl false) H1) | _ => False
theorem mx (ha : PE X a ta) (hb : PE X (.BoolOp .And (b :: bd) pos) tb) : PE X (.BoolOp .And (a :: b :: bd) pos) (eA ta tb) := by
 intro pins s σ H Q I h
 refine BoolOp_and (thn (ha pins s σ H _ I h) fun v s1 ⟨x, H1, I1, r1, q1⟩ => ?_)
 cases x <;> first | exact q1.elim | skip
 rename_i c
 cases r1
 refine wpAny_truthy_bool ?_
 have q1 := cb q1
 cases c with
 | true => exact hb pins s1 σ H1 Q I1 q1
 | false => exact ⟨.bl false, H1, I1, rfl, q1⟩
def aY (c : TT) (t u : TS) : TS := fun D σ H => c σ H fun b H1 => Sel b (t D σ H1) (u D σ H1)
theorem qif {c : Expr} {l m : List Stmt} {tc : TT} {t u : TS} (hc : PT X c tc) (ha : PSs X l t) (hb : PSs X m u) : PS X (.If c l m pos) (aY tc t u) := by
 intro pins s σ H D I h
 refine wpAny_If (thn (hc pins s σ H _ I h) fun d s1 ⟨H1, I1, q1⟩ => ?_)
 have q1 := cb q1
 cases d with
 | true => exact ha pins s1 σ H1 D I1 q1
 | false => exact hb pins s1 σ H1 D I1 q1
end
end L2
namespace L2
open PySem PySem.Spec PyProof.Rows
section
variable {X : Cx} {tg : Expr}
def iq : List V → Hp → VK → Prop := fun xs H Q => match xs with
 | [.int i] => i.natAbs.log2 < 1920 ∧ Q (.str (toString i)) H
 | _ => False
theorem mr : bK X (.type "str") iq := fun pins s σ H xs us Q I r h => by
 unfold iq at h
 split at h
 · exact eH pins s σ H _ us Q I r ⟨_, rfl, h.1, h.2⟩
 · exact h.elim
end
end L2
namespace L2
open PySem PySem.Spec PyProof.Rows
structure lx (J : It) (n : Nat) (it : Nat → V) (Pv : Hp → Prop) : Prop where
 go : ∀ i H, i < n → Pv H → J.go i H
 yld : ∀ i H x H', i < n → Pv H → J.yld i H x H' → H' = H ∧ x = it i
 stop : ∀ H, Pv H → J.stop n H
def CWd (n : Nat) (Pv : Nat → List V → Hp → Prop) : Nat → Nat → List V → Hp → Prop := fun i m ys H => i ≤ n ∧ m = n - i ∧ Pv i ys H
theorem CWd.next {n i : Nat} {Pv : Nat → List V → Hp → Prop} {ys : List V} {H : Hp} (hi : i < n) (h : Pv (i + 1) ys H) : ∃ m', m' < n - i ∧ CWd n Pv (i + 1) m' ys H := ⟨n - (i + 1), by omega, hi, rfl, h⟩
theorem jb {J : It} {n : Nat} {it : Nat → V} {Pk : Hp → Prop} {σ : St} {is : List Nat} {tc : TT} {te : TE} {Q : VK} {H1 : Hp} {D : Addr} (T : lx J n it Pk) (Pv : Nat → List V → Hp → Prop)
   (hk : ∀ i ys H, i ≤ n → Pv i ys H → Pk H) (h0 : Pv 0 [] (upd H1 D (.lst [])))
   (hs : ∀ i ys H2, i < n → Pv i ys H2 → tc (some (it i) :: aG σ is) H2 fun b H4 => if b = true then
    te (some (it i) :: aG σ is) H4 fun y H5 => H5 D = some (.lst ys) ∧ ys.length < sizeLine ∧ ∃ m', m' < n - i ∧ CWd n Pv (i + 1) m' (ys ++ [y]) (upd H5 D (.lst (ys ++ [y])))
    else ∃ m', m' < n - i ∧ CWd n Pv (i + 1) m' ys H4)
   (hd : ∀ ys H, Pv n ys H → Q (.ref D) H) : iM is tc te σ D J H1 Q := by
 refine ⟨CWd n Pv, ⟨n, Nat.zero_le _, rfl, h0⟩, ?_⟩
 rintro i m ys H2 ⟨hi, rfl, p⟩
 by_cases hlt : i < n
 · refine .inr ⟨T.go i H2 hlt (hk i ys H2 hi p), fun x H3 y => ?_⟩
   obtain ⟨rfl, rfl⟩ := T.yld i H2 x H3 hlt (hk i ys H2 hi p) y
   exact hs i ys _ hlt p
 · have e : i = n := by omega
   subst e
   exact .inl ⟨T.stop H2 (hk _ ys H2 hi p), hd ys H2 p⟩
theorem ar.upd {H : Hp} {p : Addr} {o : HO} (h : H p = none) : ar H (upd H p o) := fun b u e => by rw [ak (al e h)]; exact e
theorem jN {xs : List V} {i : Int} (h0 : 0 ≤ i) (h1 : i < xs.length) : atI xs i = some (xs.getD i.toNat .non) := by
 unfold atI ixN
 rw [if_pos h0, if_pos h1]
 show xs[i.toNat]? = _
 rw [List.getD_eq_getElem?_getD]
 have : i.toNat < xs.length := by omega
 rw [List.getElem?_eq_getElem this]; rfl
end L2
namespace L2
open PySem PySem.Spec PyProof.Rows
def bf : Expr → Bool
 | .Starred _ _ => false
 | _ => true
theorem aL {e : Expr} (h : bf e = true) (bd : List Expr) (env : Env) : starEach (e :: bd) env = (false, eval e env) :: starEach bd env := by
 cases e <;> first | rfl | cases h
def aP : List Expr → Bool
 | [] => true
 | e :: r => bf e && aP r
theorem bu : ∀ {es : List Expr} {env : Env} {pos : Pos}, aP es = true → (backTo pos (starEach es env)).any (·.1) = false
  | [], _, _, _ => rfl
  | e :: r, env, pos, h => by
    have h : (bf e && aP r) = true := h
    rw [Bool.and_eq_true] at h
    rw [aL h.1]
    show (false || (backTo pos (starEach r env)).any (·.1)) = false
    rw [bu h.2]; rfl
section
variable {X : Cx} {e : Expr} {es : List Expr} {te : TE} {t : TA} {pos : Pos}
theorem jh (ha : PE X e te) (hr : PA X es t) (hs : bf e = true := by rfl) : PA X (e :: es) (ae te t) := jp ha hr (aL hs es X.env)
variable {x : Str} {p apos cpos : Pos} {id T : String} {r : List V → Hp → VK → Prop}
theorem jD (hc : bK X (.builtin id) r) (hg : Gl X x) (hm : X.mg x = none) (hv : bootBuiltins x = some (.builtin id)) (ha : PA X (e :: es) t) (hn : x ≠ "__name__" := by decide) (hdb : (x == ("__debug__" : Str)) = false := by decide)
  (hs : aP (e :: es) = true := by rfl) : PE X (.Call (.Name x p) (e :: es) [] pos) (tCB r t) :=
 have h : (bf e && aP es) = true := hs
 ir hc hg hm hv ha hn hdb (aL (Bool.and_eq_true_iff.mp h).1 es X.env) (bu (Bool.and_eq_true_iff.mp h).2)
theorem iD (hc : bK X (.type T) r) (hg : Gl X x) (hm : X.mg x = none) (hv : bootBuiltins x = some (.type T)) (ha : PA X (e :: es) t) (hn : x ≠ "__name__" := by decide) (hdb : (x == ("__debug__" : Str)) = false := by decide)
  (hs : aP (e :: es) = true := by rfl) : PE X (.Call (.Name x p) (e :: es) [] pos) (tCB r t) :=
 have h : (bf e && aP es) = true := hs
 gO hc hg hm hv ha hn hdb (aL (Bool.and_eq_true_iff.mp h).1 es X.env) (bu (Bool.and_eq_true_iff.mp h).2)
variable {CX : CXT} {k : Nat} {f C : Addr} {fd : FuncData} {ps : List Str} {sp : Sp} {dvs : List V} {ds : List Value} {E : XK} {m : Str} {o : Expr} {ta : TE}
variable {to : TE} {name : Str} {rm : V → List V → Hp → VK → Prop}
end
end L2
namespace L2
open PySem PySem.Spec PyProof.Rows
structure QE (X : Cx) (e : Expr) (t : TE) : Prop where
 out : PE X e t
structure QT (X : Cx) (e : Expr) (t : TT) : Prop where
 out : PT X e t
structure QW (X : Cx) (e : Expr) (t : TT) : Prop where
 out : PW X e t
structure QA (X : Cx) (e : List Expr) (t : TA) : Prop where
 out : PA X e t
structure QS (X : Cx) (e : Stmt) (t : TS) : Prop where
 out : PS X e t
structure QSs (X : Cx) (e : List Stmt) (t : TS) : Prop where
 out : PSs X e t
structure QI (X : Cx) (tg iter : Expr) (t : TI) : Prop where
 out : PI X tg iter t
structure QO (X : Cx) (e : Option Expr) (t : TO) : Prop where
 out : PO X e t
section
variable {X : Cx} {a b c e o : Expr} {es bd : List Expr} {ta tb tc te to tv : TE} {tA tB' : TT} {t : TA} {pos apos cpos p : Pos} {x y : Str}
theorem ad (i : Nat) (hN : X.N[i]? = some x := by rfl) (hv : Vis X.env.scope x := by first | exact Or.inl rfl | exact Or.inr (Or.inl rfl) | exact Or.inr (Or.inr rfl)) (hd : (x == ("__debug__" : Str)) = false := by decide)
 (hcd : (x == ("__classdict__" : Str)) = false := by decide) : QE X (.Name x pos) (af i) := ⟨qv i hN hv hd hcd⟩
theorem mP {T : String} (hm : X.mg x = none) (hv : bootBuiltins x = some (.type T)) (hg : Gl X x := by rfl) (hn : x ≠ "__name__" := by decide) (hd : (x == ("__debug__" : Str)) = false := by decide) : QE X (.Name x pos) (tC (.ty T)) := ⟨jM hg hm hv rfl hn hd⟩
theorem aB {i : Int} {j} : QE X (.Constant (.int i) j pos) (tC (.int i)) := ⟨kB⟩
theorem dO {b : Bool} {j} : QE X (.Constant (.bool b) j pos) (tC (.bl b)) := ⟨lp⟩
theorem iK {z : Str} {j} : QE X (.Constant (.str z) j pos) (tC (.str z)) := ⟨kS⟩
theorem bG {op : Operator} {r : R2} (ho : OpR X (binaryOp op) r) (ha : QE X a ta) (hb : QE X b tb) : QE X (.BinOp a op b pos) (tOp r ta tb) := ⟨lJ ho ha.out hb.out⟩
theorem eF {op : CmpOp} {r : R2} (ho : OpR X (compareOp op) r) (ha : QE X a ta) (hb : QE X b tb) (hm : behindInMarks op b = false := by first | exact dE _ | rfl) : QE X (.Compare a [op] [b] pos) (tOp r ta tb) := ⟨qc ho ha.out hb.out hm⟩
theorem iF {op} (h : QE X a ta) : QE X (.BoolOp op [a] pos) ta := ⟨kf h.out⟩
theorem iQ (ha : QE X a ta) (hb : QE X (.BoolOp .And (b :: bd) pos) tb) : QE X (.BoolOp .And (a :: b :: bd) pos) (eA ta tb) := ⟨mx ha.out hb.out⟩
theorem aq : QA X [] ax := ⟨kd⟩
theorem ac (ha : QE X e te) (hr : QA X es t) (hs : bf e = true := by rfl) : QA X (e :: es) (ae te t) := ⟨jh ha.out hr.out hs⟩
theorem cw (h : QA X es t) : QE X (.List es pos) (cn t) := ⟨kG h.out⟩
theorem my {r : R2} (hr : IxR X r) (ha : QE X a ta) (hb : QE X b tb) (hs : fz b) : QE X (.Subscript a b pos) (tOp r ta tb) := ⟨ly hr ha.out hb.out hs⟩
theorem jk : QO X none dG := ⟨jc⟩
theorem jv (h : QE X e te) : QO X (some e) (gp te) := ⟨jt h.out⟩
theorem jo {r : V → Option Int → Option Int → Hp → VK → Prop} {lo hi : Option Expr} {tl th : TO} {p2 : Pos} (hr : SlR X r) (he : QE X e te) (hl : QO X lo tl) (hu : QO X hi th) : QE X (.Subscript e (.Slice lo hi none p2) pos) (tSl r te tl th) := ⟨iB hr he.out hl.out hu.out⟩
variable {id T : String} {r : List V → Hp → VK → Prop}
theorem aI (hc : bK X (.builtin id) r) (hm : X.mg x = none) (hv : bootBuiltins x = some (.builtin id)) (ha : QA X (e :: es) t) (hg : Gl X x := by rfl) (hn : x ≠ "__name__" := by decide) (hdb : (x == ("__debug__" : Str)) = false := by decide)
 (hs : aP (e :: es) = true := by rfl) : QE X (.Call (.Name x p) (e :: es) [] pos) (tCB r t) := ⟨jD hc hg hm hv ha.out hn hdb hs⟩
theorem iu (hc : bK X (.type T) r) (hm : X.mg x = none) (hv : bootBuiltins x = some (.type T)) (ha : QA X (e :: es) t) (hg : Gl X x := by rfl) (hn : x ≠ "__name__" := by decide) (hdb : (x == ("__debug__" : Str)) = false := by decide)
 (hs : aP (e :: es) = true := by rfl) : QE X (.Call (.Name x p) (e :: es) [] pos) (tCB r t) := ⟨iD hc hg hm hv ha.out hn hdb hs⟩
variable {CX : CXT} {k : Nat} {f C : Addr} {fd : FuncData} {ps : List Str} {sp : Sp} {dvs : List V} {ds : List Value} {E : XK} {m : Str}
variable {name : Str} {rm : V → List V → Hp → VK → Prop}
theorem aN {op : CmpOp} {r : R2} (ho : OpR X (compareOp op) r) (ha : QE X a ta) (hb : QE X b tb) (hm : behindInMarks op b = false := by first | exact dE _ | rfl) : QT X (.Compare a [op] [b] pos) (aO (tOp r ta tb)) := ⟨qtc ho ha.out hb.out hm⟩
theorem dl (h : QE X e te) (he : ∀ whole, isTrue e X.env whole = (do let v ← whole; standAt e.pos; holding [v] (truthy v)) := by intro _; rfl) : QT X e (dJ X.K te) := ⟨qtb h.out he⟩
theorem dz (ha : QT X a tA) : QT X (.UnaryOp .Not a pos) (dH tA) := ⟨jP ha.out⟩
theorem x_w (h : QW X e tA) : QT X e tA := ⟨h.out.pt⟩
theorem eU (ha : QT X a tA) : QW X (.BoolOp .Or [a] pos) tA := ⟨kP ha.out⟩
theorem eD (ha : QT X a tA) (hb : QW X (.BoolOp .Or (b :: bd) pos) tB') : QW X (.BoolOp .Or (a :: b :: bd) pos) (mOr tA tB') := ⟨lm ha.out hb.out⟩
variable {tg iter elt : Expr} {wi : TI} {ifs : List Expr} {scope : Scope} {ys : List Str} {is : List Nat} {px py spos : Pos}
theorem im (hm : X.mg "range" = none) (ha : QA X [a] t) (hg : Gl X "range" := by rfl) (hs : bf a = true := by rfl) : QI X tg (.Call (.Name "range" p) [a] [] pos) (fW t) := ⟨gI hg hm ha.out (aL hs [] X.env)⟩
variable {st : Stmt} {sts : List Stmt} {tS uS : TS} {i j : Nat}
theorem aC : QSs X [] aK := ⟨jr⟩
theorem am (h : QS X st tS) : QSs X [st] tS := ⟨jE h.out⟩
theorem ao (h1 : QS X st tS) (h2 : QSs X sts uS) : QSs X (st :: sts) (aH tS uS) := ⟨iv h1.out h2.out⟩
theorem bB (h : QE X e te) : QS X (.Return (some e) pos) (bE te) := ⟨kE h.out⟩
theorem aS {l m : List Stmt} (hc : QT X c tA) (ha : QSs X l tS) (hb : QSs X m uS) : QS X (.If c l m pos) (aY tA tS uS) := ⟨qif hc.out ha.out hb.out⟩
theorem cP (i : Nat) (hN : X.N.Nodup) (he : QE X e te) (hi : X.N[i]? = some x := by rfl) (hx : Loc X.env.scope x := by first | exact .inl rfl | exact .inr rfl)
 (hs : swapsWith e (some (.Name x p)) pos.line X.env = pure false := by rfl) (hf : X.fn x = true ∨ X.env.scope.names.lookup x = some .local := by first | exact .inl rfl | exact .inr rfl) : QS X (.Assign [.Name x p] e pos) (bP te (bj i)) := ⟨lc hN hi hx he.out hs hf⟩
theorem bO (h : QE X e te) (hs : swapsWith e none pos.line X.env = pure false := by rfl) : QS X (.Expr e pos) (bM te) := ⟨iY h.out hs⟩
theorem iG (i : Nat) (hN : X.N.Nodup) {body : List Stmt} (hi : QI X (.Name x px) iter wi) (hb : QSs X body tS) (hp : PassesOwn (model X.prog X.w) X.A X.env X.xe) (hc : X.calm = true := by rfl)
 (hj : X.N[i]? = some x := by rfl) (hx : Loc X.env.scope x := by first | exact .inl rfl | exact .inr rfl) (hf : X.fn x = true ∨ X.env.scope.names.lookup x = some .local := by first | exact .inl rfl | exact .inr rfl)
 (hs : ∀ x, foldedSetIterable iter X.env x = pure x := by intro _; rfl) : QS X (.For (.Name x px) iter body [] pos) (gd wi (bj i) tS) := ⟨km hp hc hi.out (jC hN hj hx hf) hb.out hs⟩
end
end L2
namespace HT
open PySem PyProof.Rows
structure Hd0 (vs : Array Value) (a0 : Value) : Prop where
 a : vs[0]? = some a0
 b : vs[2]? = some .none
structure TrD (h base : Heap) (e : Addr) (cls a0 : Value) (d : Option Addr) (fl : Value) : Prop where
 ex : ∃ oe vs T oT ts, h.get? e = some oe ∧ oe.cls = cls ∧ oe.dict = d ∧ oe.data = .fields vs ∧ Hd0 vs a0 ∧ vs[1]? = some (.ref T) ∧ base.get? T = none ∧ T ≠ e ∧ h.get? T = some oT ∧ oT.data = .fields ts ∧ ts[3]? = some fl
structure db (base : Heap) (l : List Env) (e : Addr) (cls a0 : Value) (d : Option Addr) (fl : Value) (h h' : Heap) : Prop where
 st : base.StaysIn h'
 fr : h'.FunFrames base l
 tr : TrD h' base e cls a0 d fl
 up : h.UpToSlots h'
theorem dM (o : Obj) (f : Array Value → Array Value) : (Obj.mapFields f o).dict = o.dict := by
 obtain ⟨c, d, dt, sl⟩ := o
 cases dt <;> rfl
section
variable {M : Model} {A : Around} {E : Value → Shared → Prop} {s : Shared} {base : Heap} {env : Env} {outer : List Env} {L e : Addr} {cls a0 : Value} {d : Option Addr} {Q : Unit → Shared → Prop}
theorem gE {oe : Obj} {vs : Array Value} {head : Value} {hadNext : Bool} (hfr : A.frames = some (env :: outer)) (hl : s.heap.FunFrames base (env :: outer)) (hf : env.frame = some L) (he : s.heap.get? e = some oe) (hc : oe.cls = cls) (hdc : oe.dict = d)
   (hkb : base.StaysIn s.heap) (hen : base.get? e = none) (hd : oe.data = .fields vs) (hsz : 1 < vs.size) (h0 : Hd0 vs a0) (h : ∀ h', db base (env :: outer) e cls a0 d (rawInt L) s.heap h' → Q () { s with heap := h' }) :
   wpAny M A (do let a ← frameOf env; let pl ← entryPlaceOf L hadNext; let b ← EntryCells.newEntry head a .none (rawInt L) .none pl; setField (.ref e) 1 b) Q E s := by
 have nfr : e ∉ (env :: outer).filterMap (·.frame) := fun hm => by
   obtain ⟨_, o, ho, hnf⟩ := hl.mem hm
   rw [he] at ho
   cases ho
   exact hnf vs hd
 refine wpAny_bind (wpAny_frameOf_fun hfr hl hf fun h1 s1 => wpAny_bind (wpAny_entryPlaceOf fun pl hpl => ?_))
 unfold EntryCells.newEntry newFields
 refine wpAny_bind (wpAny_newObj_type ?_ (hpl.sizeOk5 _ _ _ _ _))
 generalize hts : ([head, Value.ref L, .none, rawInt L, .none] ++ (if pl.isEmpty then List.replicate 6 Value.none else pl)).toArray = ts
 have hts3 : ts[3]? = some (rawInt L) := by rw [← hts]; first | (simp; done) | (rcases hpl with rfl | ⟨_, _, _, _, _, _, _, rfl⟩ <;> simp)
 have e1 : h1.get? e = some oe := (s1.2.1 e nfr).trans he
 have kb1 : base.StaysIn h1 := fun b o hbo => (s1.2.1 b fun hm => by rw [(hl.mem hm).1] at hbo; cases hbo).trans (hkb b o hbo)
 have e2 : (h1.push { cls := .type "traceback", dict := none, data := .fields ts }).get? e = some oe := Heap.get?_push_of_some _ e1
 have nT : h1.objs.size ≠ e := Nat.ne_of_gt (Heap.lt_size e1)
 refine wpAny_setField e2 hd hsz (h _ ?_)
 have d3 := Obj.data_mapFields hd (·.setIfInBounds 1 (Value.ref h1.objs.size))
 have e3 := Heap.get?_update_self (Obj.mapFields (·.setIfInBounds 1 (Value.ref h1.objs.size))) e2 (Obj.isFreed_of_fields d3)
 have kp : ∀ b o, b ≠ e → h1.get? b = some o → ((h1.push { cls := .type "traceback", dict := none, data := .fields ts }).update e (Obj.mapFields (·.setIfInBounds 1 (Value.ref h1.objs.size)))).get? b = some o := fun b o nb eb =>
   (Heap.get?_update_other _ _ (Ne.symm nb)).trans (Heap.get?_push_of_some _ eb)
 have T3 := (Heap.get?_update_other (h1.push { cls := .type "traceback", dict := none, data := .fields ts }) (Obj.mapFields (·.setIfInBounds 1 (Value.ref h1.objs.size))) (Ne.symm nT)).trans (Heap.get?_push_size h1 rfl)
 have nr : ∀ b o, s.heap.get? b = some o → (∀ vs, o.data ≠ .fields vs) → b ≠ e := fun b o hb hnf q => by
   rw [q, he] at hb
   cases hb
   exact hnf vs hd
 refine ⟨fun b o hbo => kp b o (fun q => by rw [q, hen] at hbo; cases hbo) (kb1 b o hbo), hl.of_keeps fun b o hb hnf => ?_, ⟨_, _, h1.objs.size, _, ts, e3, (Obj.cls_mapFields ..).trans hc, (dM ..).trans hdc, d3, ?_, by simp [hsz], kb1.fresh, nT, T3, rfl, hts3⟩, fun b o hb hnf => ?_⟩
 · obtain ⟨sl, hs⟩ := s1.2.2 b o hb
   exact ⟨_, kp b _ (nr b o hb hnf) hs, rfl⟩
 · exact ⟨by rw [Array.getElem?_setIfInBounds_ne (by decide)]; exact h0.a, by rw [Array.getElem?_setIfInBounds_ne (by decide)]; exact h0.b⟩
 · obtain ⟨sl, hs⟩ := s1.2.2 b o hb
   exact ⟨sl, kp b _ (nr b o hb hnf) hs⟩
theorem fg {oe : Obj} {vs : Array Value} (hfr : A.frames = some (env :: outer)) (hl : s.heap.FunFrames base (env :: outer)) (hf : env.frame = some L) (he : s.heap.get? e = some oe) (hc : oe.cls = cls) (hdc : oe.dict = d) (hkb : base.StaysIn s.heap) (hen : base.get? e = none)
  (hd : oe.data = .fields vs) (h1 : vs[1]? = some .none) (h0 : Hd0 vs a0) (h : ∀ h', db base (env :: outer) e cls a0 d (rawInt L) s.heap h' → Q () { s with heap := h' }) : wpAny M A (noteFrame (.ref e) env) Q E s := by
 unfold noteFrame
 simp only [hf]
 refine wpAny_bind (wpAny_field he hd h1 ?_)
 rw [if_neg (by decide)]
 exact gE hfr hl hf he hc hdc hkb hen hd (Array.getElem?_eq_some_iff.mp h1).1 h0 h
theorem kY {fl fl' : Value} {T : Addr} {oT : Obj} {ts : Array Value} {l : List Env} {oe : Obj} {vs : Array Value} (hkb : base.StaysIn s.heap) (hl : s.heap.FunFrames base l) (he : s.heap.get? e = some oe) (hc : oe.cls = cls) (hdc : oe.dict = d) (hd : oe.data = .fields vs) (h0 : Hd0 vs a0)
  (h1 : vs[1]? = some (.ref T)) (nT : base.get? T = none) (Te : T ≠ e) (hT : s.heap.get? T = some oT) (hdT : oT.data = .fields ts) (h3 : ts[3]? = some fl) (h : ∀ h', db base l e cls a0 d fl' s.heap h' → (h'.get? e = some oe) → Q () { s with heap := h' }) : wpAny M A (setField (.ref T) 3 fl') Q E s := by
 have sz := (Array.getElem?_eq_some_iff.mp h3).1
 have ot : ∀ b, b ≠ T → (s.heap.update T (Obj.mapFields (·.setIfInBounds 3 fl'))).get? b = s.heap.get? b := fun b hb => Heap.get?_update_other _ _ (Ne.symm hb)
 have nr : ∀ b o, s.heap.get? b = some o → (∀ vs, o.data ≠ .fields vs) → b ≠ T := fun b o hb hnf q => by
  rw [q, hT] at hb
  cases hb
  exact hnf ts hdT
 refine wpAny_setField hT hdT sz (h _ ⟨fun b o hbo => (ot b fun q => by rw [q, nT] at hbo; cases hbo).trans (hkb b o hbo), hl.of_keeps fun b o hb hnf => ⟨o, (ot b (nr b o hb hnf)).trans hb, rfl⟩,
  ⟨oe, vs, T, _, _, (ot e (Ne.symm Te)).trans he, hc, hdc, hd, h0, h1, nT, Te, Heap.get?_update_self _ hT (Obj.isFreed_of_fields (Obj.data_mapFields hdT _)), Obj.data_mapFields hdT _, by simp [sz]⟩, fun b o hb hnf => ⟨o.slots, (ot b (nr b o hb hnf)).trans hb⟩⟩ ((ot e (Ne.symm Te)).trans he))
theorem cQ {fl : Value} {l : List Env} (hkb : base.StaysIn s.heap) (hl : s.heap.FunFrames base l) (ht : TrD s.heap base e cls a0 d fl) (h : ∀ h', db base l e cls a0 d .none s.heap h' → Q () { s with heap := h' }) : wpAny M A (setFlight (.ref e) none) Q E s := by
 obtain ⟨oe, vs, T, oT, ts, he, hc, hdc, hd, h0, h1, nT, Te, hT, hdT, h3⟩ := ht.ex
 unfold setFlight
 refine wpAny_bind (wpAny_field he hd h1 ?_)
 rw [if_pos (show (Value.ref T != Value.none) = true from by simp)]
 exact kY hkb hl he hc hdc hd h0 h1 nT Te hT hdT h3 fun h' n _ => h h' n
theorem dq (hfr : A.frames = some (env :: outer)) (hl : s.heap.FunFrames base (env :: outer)) (hf : env.frame = some L) (ht : TrD s.heap base e cls a0 d .none) (hkb : base.StaysIn s.heap) (hen : base.get? e = none)
  (h : ∀ h', db base (env :: outer) e cls a0 d (rawInt L) s.heap h' → Q () { s with heap := h' }) : wpAny M A (noteFrame (.ref e) env) Q E s := by
 obtain ⟨oe, vs, T, oT, ts, he, hc, hdc, hd, h0, h1, nT, Te, hT, hdT, h3⟩ := ht.ex
 unfold noteFrame
 simp only [hf]
 refine wpAny_bind (wpAny_field he hd h1 ?_)
 rw [if_pos (show (Value.ref T != Value.none) = true from by simp)]
 refine wpAny_bind (wpAny_field hT hdT h3 ?_)
 rw [if_neg (show ¬ ((Value.none == rawInt L) = true) from by simp [rawInt])]
 refine wpAny_bind (kY (fl' := .none) hkb hl he hc hdc hd h0 h1 nT Te hT hdT h3 fun h' n he' => ?_)
 exact gE (s := { s with heap := h' }) hfr n.fr hf he' hc hdc n.st hen hd (Array.getElem?_eq_some_iff.mp h1).1 h0 fun h2 n2 => h h2 ⟨n2.st, n2.fr, n2.tr, n.up.trans n2.up⟩
theorem eL {oe : Obj} {vs : Array Value} (hfr : A.frames = some (env :: outer)) (hl : s.heap.FunFrames base (env :: outer)) (hf : env.frame = some L) (he : s.heap.get? e = some oe) (hc : oe.cls = cls) (hdc : oe.dict = d) (hkb : base.StaysIn s.heap) (hen : base.get? e = none)
  (hd : oe.data = .fields vs) (h1 : vs[1]? = some .none) (h0 : Hd0 vs a0) (h : ∀ h', db base outer e cls a0 d .none s.heap h' → Q () { s with heap := h' }) : wpAny M A (leaving env (.ref e)) Q E s := by
 unfold leaving
 refine wpAny_bind (fg hfr hl hf he hc hdc hkb hen hd h1 h0 fun h' n => ?_)
 obtain ⟨n1, ⟨_, _, n2⟩, n3, n4⟩ := n
 exact cQ (s := { s with heap := h' }) n1 n2 n3 fun h2 m => h h2 ⟨m.st, m.fr, m.tr, n4.trans m.up⟩
theorem fc (hfr : A.frames = some (env :: outer)) (hl : s.heap.FunFrames base (env :: outer)) (hf : env.frame = some L) (ht : TrD s.heap base e cls a0 d .none) (hkb : base.StaysIn s.heap) (hen : base.get? e = none)
  (h : ∀ h', db base outer e cls a0 d .none s.heap h' → Q () { s with heap := h' }) : wpAny M A (leaving env (.ref e)) Q E s := by
 unfold leaving
 refine wpAny_bind (dq hfr hl hf ht hkb hen fun h' n => ?_)
 obtain ⟨n1, ⟨_, _, n2⟩, n3, n4⟩ := n
 exact cQ (s := { s with heap := h' }) n1 n2 n3 fun h2 m => h h2 ⟨m.st, m.fr, m.tr, n4.trans m.up⟩
end
end HT
namespace L2
open PySem PySem.Spec PyProof.Rows
abbrev veM : List Value := [.type "ValueError", .type "Exception", .type "BaseException", .type "object"]
def ag (K : W.Frag) (C D : Addr) : Option Bool := match K.lookup C with
 | some ⟨_, _, .cls cd, _⟩ => some (cd.mro.contains (.ref D))
 | _ => none
def bZ (K : W.Frag) (C : Addr) : Bool := match K.lookup C with
  | some ⟨.type "type", _, .cls cd, sl⟩ => (match cd.mro, sl.toList with
    | .ref C' :: bm, [_, _, _, _, some (.builtin n), _] => C' == C && n == "ValueError.__new__" && !cd.hasDel && W.tailIn K veM bm && W.nsOkIn K cd.ns
    | _, _ => false)
  | _ => false
def av (K : W.Frag) (C : Addr) : Prop := bZ K C = true
def ap (K : W.Frag) (C : Addr) : Prop := W.excIn K C veM "ValueError.__new__" = true
theorem ap.ok {K : W.Frag} {C : Addr} (q : ap K C) : av K C := by
 unfold ap W.excIn at q
 unfold av bZ
 split at q
 · rename_i dd cd sl ho
   split at q
   · rename_i C' bm k0 k1 k2 k3 n k5 hm hs
     rw [ho]
     simp only [hm, hs]
     simp only [Bool.and_eq_true] at q ⊢
     exact q.1
   · cases q
 · cases q
theorem bz {K : W.Frag} {h : Heap} {C : Addr} (X : K.In h) (q : av K C) :
   ∃ bm N nm qn bs hdct sn sub ab col dd k0 k1 k2 k3 k5 mN, h.get? C = some (excClassObj nm qn C N bs bm hdct sn sub ab col dd k0 k1 k2 k3 k5 "ValueError.__new__") ∧ h.Ns N mN ∧ (ap K C → mN "__init__" = none) ∧ OwnTail h veM bm ∧
     ∀ D, ag K C D = some ((Value.ref C :: bm).contains (.ref D)) := by
 have q2 := q
 unfold av bZ at q
 split at q
 · rename_i dd cd sl ho
   split at q
   · rename_i C' bm k0 k1 k2 k3 n k5 hm hs
     simp only [Bool.and_eq_true, beq_iff_eq, Bool.not_eq_true'] at q
     obtain ⟨⟨⟨⟨rfl, rfl⟩, hdel⟩, ht⟩, hok⟩ := q
     obtain ⟨nm, bs, mro, ns, qn, hd, sn, sub, ab, col, del⟩ := cd
     dsimp only at hm hdel hok
     subst hm hdel
     have hsl : sl = #[k0, k1, k2, k3, some (.builtin "ValueError.__new__"), k5] := by
       obtain ⟨l⟩ := sl
       simp only at hs
       rw [hs]
     subst hsl
     refine ⟨bm, ns, nm, qn, bs, hd, sn, sub, ab, col, dd, k0, k1, k2, k3, k5, _, X _ _ ho, .of_isNs (W.isNs_of_in X hok), fun r => ?_, W.tail_of_in X ht, fun D => ?_⟩
     · unfold ap W.excIn at r
       rw [ho] at r
       simp only [Bool.and_eq_true, beq_iff_eq] at r
       exact W.nsMap_none_of_in X hok r.2
     · unfold ag
       rw [ho]
   · cases q
 · cases q
theorem cf {M : Model} {A : Around} {E : Value → Shared → Prop} {s : Shared} {K : W.Frag} {C D e : Addr} {oe : Obj} {Q : Bool → Shared → Prop} {b : Bool} (X : K.In s.heap) (hC : av K C) (hD : av K D) (he : s.heap.get? e = some oe) (hcls : oe.cls = .ref C)
  (hs : ag K C D = some b) (hq : Q b s) : wpAny M A (excMatches (.ref e) (.ref D)) Q E s := by
 obtain ⟨bm, N, nm, qn, bs, hdct, sn, sub, ab, col, dd, k0, k1, k2, k3, k5, mN, oC, _, _, _, hsub⟩ := bz X hC
 obtain ⟨bm', N', nm', qn', bs', hdct', sn', sub', ab', col', dd', k0', k1', k2', k3', k5', mN', oD, _, _, T', _⟩ := bz X hD
 have hb : (Value.ref C :: bm).contains (.ref D) = b := Option.some.inj ((hsub D).symm.trans hs)
 have hbase : (Value.ref D :: bm').contains (.type "BaseException") = true := by
  rw [List.contains_cons, T'.hasType (X := "BaseException") (b := true) (by decide +kernel), Bool.or_true]
 have f := tc_notTuple
 obtain ⟨hp, g, d, t, os⟩ := s
 unfold excMatches
 repeat (first | (with_reducible refine wpAny_loadPart_at he ?_; rw [hcls]) | with_reducible refine wpAny_loadPart_at oD ?_ | (with_reducible refine wpAny_isSubtype_exc oC ?_; rw [hb]) | (with_reducible refine wpAny_isSubtype_exc oD ?_; rw [hbase]) | wp_step)
 all_goals first | exact hq | (cases b <;> first | exact hq | (repeat (first | exact hq | wp_step)))
structure Fly (P : Program) (w : World) (l : List Env) (H : Hp) (s : Shared) (cls fl : Value) (a : Addr) (d : Option Addr) (H' : Hp) (s' : Shared) : Prop where
 os : s'.os = s.os
 bare : AllBare s'.gens
 un : Un (frs l) [] H H' s.heap s'.heap
 hok : HOk P w H' s'.heap
 new : s.heap.get? a = none
 free : H' a = none
 tr : ∃ oe vs a0 T oT ts, s'.heap.get? a = some oe ∧ oe.cls = cls ∧ oe.dict = d ∧ oe.data = .fields vs ∧ HT.Hd0 vs a0 ∧ vs[1]? = some (.ref T) ∧ T ≠ a ∧ s'.heap.get? T = some oT ∧ oT.data = .fields ts ∧ ts[3]? = some fl ∧ s.heap.get? T = none ∧ H' T = none
def CX1 (P : Program) (w : World) : CXT := fun outer H s E e s' => ∃ a C d H', e = .ref a ∧ Fly P w outer H s (.ref C) .none a d H' s' ∧ E (.ref C) d H'
theorem cZ {P : Program} {w : World} {H : Hp} {h : Heap} {a : Addr} {o : HO} (x : aM P w H h a o) : ∃ u, h.get? a = some u := by
 cases o with
 | lst xs => obtain ⟨_, _, _, _, e⟩ := x; exact ⟨_, e⟩
 | tup xs => obtain ⟨_, _, _, p⟩ := x; obtain ⟨o, e, _⟩ := p; exact ⟨_, e⟩
 | dK kvs => obtain ⟨_, _, _, _, o, _, _, e, _⟩ := x; exact ⟨_, e⟩
 | dT kvs => obtain ⟨_, _, _, _, o, _, _, e, _⟩ := x; exact ⟨_, e⟩
 | set S n => obtain ⟨o, _, _, _, e, _⟩ := x; exact ⟨_, e⟩
 | ins C dx fs => obtain ⟨_, _, _, e, _⟩ := x; exact ⟨_, e⟩
 | own y => exact x
 | xd fs => obtain ⟨_, ⟨_, _, _, e, _⟩, _⟩ := x; exact ⟨_, e⟩
 | rng lo hi => obtain ⟨_, _, _, e⟩ := x; exact ⟨_, e⟩
 | frz ob u => obtain ⟨e, _⟩ := x; exact ⟨_, e⟩
 | tbl ps => exact ⟨_, (show h.get? a = some _ from x)⟩
 | met f y => exact ⟨_, (show h.get? a = some _ from x)⟩
 | ext φ => obtain ⟨_, e, _⟩ := x; exact e
section
variable {P : Program} {w : World} {l : List Env} {H H' : Hp} {s s' : Shared} {cls fl fl' : Value} {a : Addr} {d : Option Addr} {base : Heap}
def bF (h : Heap) (l : List Env) (a T : Addr) : Heap := W.hideAll h (a :: T :: frs l)
theorem Fly.frames (F : Fly P w l H s cls fl a d H' s') (ff : s.heap.FunFrames base l) (frf : ∀ b ∈ frs l, H b = none) : s'.heap.FunFrames base l := by
  have all : ∀ (k : List Env), (∀ b ∈ frs k, b ∈ frs l) → s.heap.FunFrames base k → s'.heap.FunFrames base k := by
    intro k
    induction k with
    | nil => intro _ _; trivial
    | cons env r ih =>
      intro hs hl
      obtain ⟨hk, ⟨L, o, hf, hn, ho, hd⟩, hr⟩ := hl
      have hL : L ∈ frs l := hs L (by unfold frs; rw [List.filterMap_cons, hf]; exact List.mem_cons_self)
      obtain ⟨sl, e⟩ := F.un.slot L o ho (frf L hL) hL (by simp)
      exact ⟨hk, ⟨L, _, hf, hn, e, hd⟩, ih (fun b hb => hs b (by unfold frs; rw [List.filterMap_cons, hf]; exact List.mem_cons_of_mem _ hb)) hr⟩
  exact all l (fun _ hb => hb) ff
theorem cM {h B B' : Heap} : ∀ {k : List Env}, h.FunFrames B k → (∀ b ∈ frs k, B'.get? b = none) → h.FunFrames B' k
 | [], _, _ => trivial
 | env :: r, ⟨hk, ⟨L, o, hf, hn, ho, hd⟩, hr⟩, hb => ⟨hk, ⟨L, o, hf, hb L (by unfold frs; rw [List.filterMap_cons, hf]; exact List.mem_cons_self), ho, hd⟩, cM hr fun b h => hb b (by unfold frs; rw [List.filterMap_cons, hf]; exact List.mem_cons_of_mem _ h)⟩
theorem Fly.moved (F : Fly P w l H s cls fl a d H' s') (ff : s.heap.FunFrames base l) (frf : ∀ b ∈ frs l, H b = none) (ffs : ∀ b ∈ frs l, H' b = none) {T : Addr} {oT : Obj} (hT0 : s.heap.get? T = none) (hT1 : H' T = none) {h' : Heap} {a0 : Value}
    (st : (bF s'.heap l a T).StaysIn h') (up : s'.heap.UpToSlots h') (tr : HT.TrD h' (bF s'.heap l a T) a cls a0 d fl') : Fly P w l H s cls fl' a d H' { s' with heap := h' } := by
  have kp : ∀ b o, s'.heap.get? b = some o → b ≠ a → b ≠ T → b ∉ frs l → h'.get? b = some o := fun b o e h1 h2 h3 => st b o (W.hideAll_get _ e (by simp [h1, h2, h3]))
  have ff' := F.frames ff frf
  have nf : ∀ b ∈ frs l, ∀ o, s'.heap.get? b = some o → ∀ vs, o.data ≠ .fields vs := fun b hb o e vs z => by
    obtain ⟨_, o', ho, hd⟩ := ff'.mem hb
    rw [e] at ho; cases ho
    exact hd vs z
  have old : ∀ b o, s.heap.get? b = some o → b ≠ a ∧ b ≠ T := fun b o e => ⟨fun z => (by rw [z, F.new] at e; cases e), fun z => (by rw [z, hT0] at e; cases e)⟩
  refine ⟨F.os, F.bare, ⟨fun b o e n hb hx => ?_, fun b o e n hb hx => ?_, F.un.free, fun b o e hx => ?_, F.un.tups, F.un.frzs, F.un.tbls⟩, fun b o e => ?_, F.new, F.free, ?_⟩
  · exact kp b o (F.un.keep b o e n hb hx) (old b o e).1 (old b o e).2 hb
  · obtain ⟨sl, e1⟩ := F.un.slot b o e n hb hx
    obtain ⟨sl', e2⟩ := up b _ e1 (nf b hb _ e1)
    exact ⟨sl', e2⟩
  · obtain ⟨o', e1⟩ := F.un.there b o e hx
    by_cases hb : b ∈ frs l
    · obtain ⟨sl', e2⟩ := up b _ e1 (nf b hb _ e1)
      exact ⟨_, e2⟩
    · exact ⟨o', kp b o' e1 (old b o e).1 (old b o e).2 hb⟩
  · refine (F.hok b o e).stay (fun c u hc q => kp c u q ?_ ?_ ?_) (fun _ q => q) fun _ _ q => q
    · rintro rfl
      rcases hc with r | r
      · rw [← r, F.free] at e; cases e
      · rw [F.free] at r; cases r
    · rintro rfl
      rcases hc with r | r
      · rw [← r, hT1] at e; cases e
      · rw [hT1] at r; cases r
    · intro hm
      rcases hc with r | r
      · rw [← r, ffs _ hm] at e; cases e
      · rw [ffs _ hm] at r; cases r
  · obtain ⟨oe, vs, T', oT', ts, he, hc, hdc, hd, h0, h1, hn, hne, hT', hdT, h3⟩ := tr.ex
    have key : s'.heap.get? T' = none ∨ T' = T := by
      cases q : s'.heap.get? T' with
      | none => exact .inl rfl
      | some o =>
        refine .inr (Classical.byContradiction fun hz => ?_)
        by_cases hf : T' ∈ frs l
        · obtain ⟨sl', e2⟩ := up T' o q (nf T' hf o q)
          rw [hT'] at e2; cases e2
          exact nf T' hf o q ts hdT
        · have : (bF s'.heap l a T).get? T' = some o := W.hideAll_get _ q (by simp [hz, hne, hf])
          rw [hn] at this; cases this
    refine ⟨oe, vs, a0, T', oT', ts, he, hc, hdc, hd, h0, h1, hne, hT', hdT, h3, ?_, ?_⟩
    · rcases key with z | z
      · cases q : s.heap.get? T' with
        | none => rfl
        | some o =>
          obtain ⟨o', e⟩ := F.un.there T' o q (by simp)
          rw [z] at e; cases e
      · rw [z]; exact hT0
    · rcases key with z | z
      · cases q : H' T' with
        | none => rfl
        | some o =>
          obtain ⟨o1, e1⟩ := cZ (F.hok T' o q)
          rw [z] at e1; cases e1
      · rw [z]; exact hT1
end
end L2
namespace L2
open PySem PySem.Spec PyProof.Rows
section
variable {X : Cx} {pins : List (Addr × Obj)} {σ : St} {H H' : Hp} {s s' : Shared} {cls fl : Value} {a : Addr} {d : Option Addr}
theorem Fly.inv (I : Inv X pins σ H s) (F : Fly X.prog X.w X.stack H s cls fl a d H' s') : Inv X pins σ H' s' := I.call' (ch := []) F.os F.un F.hok F.bare fun b z => absurd z (by simp)
theorem Fly.up (I : Inv X pins σ H s) (hex : X.ex = []) (F : Fly X.prog X.w X.stack H s cls fl a d H' s') : Fly X.prog X.w X.outer X.H₀ X.s₀ cls fl a d H' s' := by
  have I2 := F.inv I
  have back : ∀ b, s.heap.get? b = none → X.s₀.heap.get? b = none := fun b e => by
    cases q : X.s₀.heap.get? b with
    | none => rfl
    | some o =>
      obtain ⟨o', e'⟩ := I.base.there b o q (by rw [hex]; simp)
      rw [e] at e'; cases e'
  obtain ⟨oe, vs, a0, T, oT, ts, h1, h2, hd, h3, h4, h5, h6, h7, h8, h9, h10, h11⟩ := F.tr
  have b := I2.base
  rw [hex] at b
  exact ⟨I2.os, I2.bare, b, I2.hok, back a F.new, F.free, oe, vs, a0, T, oT, ts, h1, h2, hd, h3, h4, h5, h6, h7, h8, h9, back T h10, h11⟩
theorem Fly.flying (I : Inv X pins σ H s) (F : Fly X.prog X.w X.stack H s cls .none a d H' s') : ∃ T a0, s.heap.get? T = none ∧ H' T = none ∧ (bF s'.heap X.stack a T).StaysIn s'.heap ∧ (bF s'.heap X.stack a T).get? a = none ∧ s'.heap.FunFrames (bF s'.heap X.stack a T) X.stack ∧
  HT.TrD s'.heap (bF s'.heap X.stack a T) a cls a0 d .none := by
 obtain ⟨oe, vs, a0, T, oT, ts, h1, h2, hd, h3, h4, h5, h6, h7, h8, h9, h10, h11⟩ := F.tr
 exact ⟨T, a0, h10, h11, fun b o e => W.of_hideAll _ e, W.hideAll_none _ (by simp), cM (F.frames I.stack I.stkFree) fun b hb => W.hideAll_none _ (by simp [hb]), ⟨oe, vs, T, oT, ts, h1, h2, hd, h3, h4, h5, W.hideAll_none _ (by simp), h6, h7, h8, h9⟩⟩
end
structure fF (P : Program) (w : World) (l : List Env) (H : Hp) (s : Shared) (cls : Value) (a : Addr) (d : Option Addr) (H' : Hp) (s' : Shared) : Prop where
 os : s'.os = s.os
 bare : AllBare s'.gens
 un : Un (frs l) [] H H' s.heap s'.heap
 hok : HOk P w H' s'.heap
 new : s.heap.get? a = none
 free : H' a = none
 tr : ∃ oe vs a0, s'.heap.get? a = some oe ∧ oe.cls = cls ∧ oe.dict = d ∧ oe.data = .fields vs ∧ HT.Hd0 vs a0 ∧ vs[1]? = some .none
section
variable {P : Program} {w : World} {l : List Env} {H H' : Hp} {s s' : Shared} {cls fl' : Value} {a : Addr} {d : Option Addr} {base : Heap}
theorem dS (un : Un (frs l) [] H H' s.heap s'.heap) (ff : s.heap.FunFrames base l) (frf : ∀ b ∈ frs l, H b = none) : s'.heap.FunFrames base l := by
  have all : ∀ (k : List Env), (∀ b ∈ frs k, b ∈ frs l) → s.heap.FunFrames base k → s'.heap.FunFrames base k := by
    intro k
    induction k with
    | nil => intro _ _; trivial
    | cons env r ih =>
      intro hs hl
      obtain ⟨hk, ⟨L, o, hf, hn, ho, hd⟩, hr⟩ := hl
      have hL : L ∈ frs l := hs L (by unfold frs; rw [List.filterMap_cons, hf]; exact List.mem_cons_self)
      obtain ⟨sl, e⟩ := un.slot L o ho (frf L hL) hL (by simp)
      exact ⟨hk, ⟨L, _, hf, hn, e, hd⟩, ih (fun b hb => hs b (by unfold frs; rw [List.filterMap_cons, hf]; exact List.mem_cons_of_mem _ hb)) hr⟩
  exact all l (fun _ hb => hb) ff
theorem fF.moved (F : fF P w l H s cls a d H' s') (ff : s.heap.FunFrames base l) (frf : ∀ b ∈ frs l, H b = none) (ffs : ∀ b ∈ frs l, H' b = none) {h' : Heap} {a0 : Value}
    (st : (bF s'.heap l a a).StaysIn h') (up : s'.heap.UpToSlots h') (tr : HT.TrD h' (bF s'.heap l a a) a cls a0 d fl') : Fly P w l H s cls fl' a d H' { s' with heap := h' } := by
  have kp : ∀ b o, s'.heap.get? b = some o → b ≠ a → b ∉ frs l → h'.get? b = some o := fun b o e h1 h3 => st b o (W.hideAll_get _ e (by simp [h1, h3]))
  have ff' := dS F.un ff frf
  have nf : ∀ b ∈ frs l, ∀ o, s'.heap.get? b = some o → ∀ vs, o.data ≠ .fields vs := fun b hb o e vs z => by
    obtain ⟨_, o', ho, hd⟩ := ff'.mem hb
    rw [e] at ho; cases ho
    exact hd vs z
  have old : ∀ b o, s.heap.get? b = some o → b ≠ a := fun b o e z => by rw [z, F.new] at e; cases e
  refine ⟨F.os, F.bare, ⟨fun b o e n hb hx => ?_, fun b o e n hb hx => ?_, F.un.free, fun b o e hx => ?_, F.un.tups, F.un.frzs, F.un.tbls⟩, fun b o e => ?_, F.new, F.free, ?_⟩
  · exact kp b o (F.un.keep b o e n hb hx) (old b o e) hb
  · obtain ⟨sl, e1⟩ := F.un.slot b o e n hb hx
    obtain ⟨sl', e2⟩ := up b _ e1 (nf b hb _ e1)
    exact ⟨sl', e2⟩
  · obtain ⟨o', e1⟩ := F.un.there b o e hx
    by_cases hb : b ∈ frs l
    · obtain ⟨sl', e2⟩ := up b _ e1 (nf b hb _ e1)
      exact ⟨_, e2⟩
    · exact ⟨o', kp b o' e1 (old b o e) hb⟩
  · refine (F.hok b o e).stay (fun c u hc q => kp c u q ?_ ?_) (fun _ q => q) fun _ _ q => q
    · rintro rfl
      rcases hc with r | r
      · rw [← r, F.free] at e; cases e
      · rw [F.free] at r; cases r
    · intro hm
      rcases hc with r | r
      · rw [← r, ffs _ hm] at e; cases e
      · rw [ffs _ hm] at r; cases r
  · obtain ⟨oe, vs, T', oT', ts, he, hc, hdc, hd, h0, h1, hn, hne, hT', hdT, h3⟩ := tr.ex
    have key : s'.heap.get? T' = none := by
      cases q : s'.heap.get? T' with
      | none => rfl
      | some o =>
        by_cases hf : T' ∈ frs l
        · obtain ⟨sl', e2⟩ := up T' o q (nf T' hf o q)
          rw [hT'] at e2; cases e2
          exact (nf T' hf o q ts hdT).elim
        · have : (bF s'.heap l a a).get? T' = some o := W.hideAll_get _ q (by simp [hne, hf])
          rw [hn] at this; cases this
    refine ⟨oe, vs, a0, T', oT', ts, he, hc, hdc, hd, h0, h1, hne, hT', hdT, h3, ?_, ?_⟩
    · cases q : s.heap.get? T' with
      | none => rfl
      | some o =>
        obtain ⟨o', e⟩ := F.un.there T' o q (by simp)
        rw [key] at e; cases e
    · cases q : H' T' with
      | none => rfl
      | some o =>
        obtain ⟨o1, e1⟩ := cZ (F.hok T' o q)
        rw [key] at e1; cases e1
end
def cR (CX : CXT) (X : Cx) (E : St → XK) : Prop := ∀ (pins : List (Addr × Obj)) (σ : St) (H : Hp) (s : Shared) (e : Value) (s' : Shared), Inv X pins σ H s → CX X.stack H s (E σ) e s' → X.xe e s'
def eY (X : Cx) (E : St → XK) : Prop := ∀ (pins : List (Addr × Obj)) (σ : St) (H : Hp) (s : Shared) (C a : Addr) (d : Option Addr) (H2 : Hp) (s2 : Shared), Inv X pins σ H s → fF X.prog X.w X.stack H s (.ref C) a d H2 s2 → E σ (.ref C) d H2 → X.xe (.ref a) s2
theorem iN {P : Program} {w : World} {X : Cx} : cR (CX1 P w) X (fun _ => E0) := fun pins σ H s e s' I ⟨_, _, _, _, _, _, h⟩ => h.elim
section
variable {P : Program} {w : World} {K : W.Frag} {mg : Str → Option Value} {base : Heap} {N : List Str} {qual : Str} {scope : Scope} {f : Addr} {cd : Value} {A : Around} {outer : List Env} {s : Shared} {H : Hp} {E : XK}
theorem da : cR (CX1 P w) (bg (CX1 P w) P w K mg base N qual scope f cd A outer s H E) (fun _ => E) := by
 intro pins σ H1 s1 e s' I hx
 obtain ⟨a, C, d, H', rfl, F, hE⟩ := hx
 obtain ⟨T, a0, hT0, hT1, f1, f2, f3, f4⟩ := F.flying I
 refine HT.fc (I.ok.frames) f3 rfl f4 f1 f2 fun h' n => ?_
 have F2 := F.moved (oT := { cls := .none, data := .dict #[] }) I.stack I.stkFree (F.inv I).stkFree hT0 hT1 n.st n.up n.tr
 exact ⟨a, C, d, H', rfl, F2.up I rfl, hE⟩
theorem aA : eY (bg (CX1 P w) P w K mg base N qual scope f cd A outer s H E) (fun _ => E) := by
 intro pins σ H1 s1 C a d H2 s2 I F hE
 have I2 : Inv (bg (CX1 P w) P w K mg base N qual scope f cd A outer s H E) pins σ H2 s2 := I.call' (ch := []) F.os F.un F.hok F.bare fun b z => absurd z (by simp)
 obtain ⟨oe, vs, a0, he, hc, hdc, hd, h0, h1⟩ := F.tr
 refine HT.eL I.ok.frames (cM (B' := bF s2.heap (bg (CX1 P w) P w K mg base N qual scope f cd A outer s H E).stack a a) (dS F.un I.stack I.stkFree) fun b hb => W.hideAll_none _ (List.mem_cons_of_mem _ (List.mem_cons_of_mem _ hb))) rfl he hc hdc (fun b o e => W.of_hideAll _ e) (W.hideAll_none _ (by simp)) hd h1 h0 fun h' n => ?_
 have F2 := F.moved I.stack I.stkFree I2.stkFree n.st n.up n.tr
 exact ⟨a, C, d, H2, rfl, F2.up I rfl, hE⟩
theorem lu {X : Cx} {pins : List (Addr × Obj)} {σ : St} {H : Hp} {s : Shared} {C a : Addr} {h1 : Heap} (I : Inv X pins σ H s) (hm : Heap.MadeExcOf s.heap h1 a (.ref C) []) : fF X.prog X.w X.stack H s (.ref C) a none H { s with heap := h1 } := by
  obtain ⟨t, ht, _, _⟩ := hm.there
  refine ⟨rfl, I.bare, Un.kept hm.keeps, I.hok.kept hm.keeps, hm.new, ?_, ⟨_, _, .ref t, ht, rfl, rfl, rfl, ⟨rfl, rfl⟩, rfl⟩⟩
  cases q : H a with
  | none => rfl
  | some o =>
    obtain ⟨u, e'⟩ := cZ (I.hok a o q)
    rw [hm.new] at e'; cases e'
end
def aW (sp : Sp) (E : St → XK) (t : TA) : TE := fun σ H Q => t σ H fun vs H1 => sp vs H1 Q (E σ)
section
variable {X : Cx} {CX : CXT} {k : Nat} {f : Addr} {fd : FuncData} {ps : List Str} {sp : Sp} {E : St → XK} {x : Str} {p pos : Pos} {e : Expr} {es : List Expr} {t : TA}
theorem jx {pins : List (Addr × Obj)} {σ : St} {H : Hp} {s : Shared} {Q : VK} {us : List Value} {vs : List V} (F : bh X.prog X.w X.K X.mg X.base CX k f fd ps sp) (hr : aE k X.A) (hb : bv X.K fd ps []) (hx : cR CX X E)
    (I : Inv X pins σ H s) (r : au vs us) (h : sp vs H Q (E σ)) : wpAny (model X.prog X.w) X.A (call (.ref f) us) (EP X pins σ Q) X.xe s := by
  have hl : us.length = ps.length := by rw [← r.length]; exact F.len _ _ _ _ h
  have hb' := hb s us I.kIn (by rw [List.append_nil]; exact hl)
  rw [List.append_nil] at hb'
  refine wpAny_call (codeAny_mono (F.run X.A X.stack s H ⟨us, []⟩ us vs Q (E σ) hr I.env0 hb' r h) fun r s' hq => ?_)
  cases r with
  | error e => exact hx pins σ H s e s' I hq
  | ok fl =>
    cases fl with
    | ret u => exact I.after hq
    | next => exact False.elim hq
    | brk => exact False.elim hq
    | cont => exact False.elim hq
theorem bA (F : bh X.prog X.w X.K X.mg X.base CX k f fd ps sp) (hr : aE k X.A) (hm : X.mg x = some (.ref f)) (hk : W.keepIn X.K (.ref f) = true) (hb : bv X.K fd ps []) (hx : cR CX X E)
  (ha : QA X (e :: es) t) (hg : Gl X x := by rfl) (hdb : (x == ("__debug__" : Str)) = false := by decide) (hs : aP (e :: es) = true := by rfl) : QE X (.Call (.Name x p) (e :: es) [] pos) (aW sp E t) := by
 refine ⟨fun pins s σ H Q I h => ?_⟩
 have h' : (bf e && aP es) = true := hs
 refine wpAny_Call_Name_kw (cc I hg hm ?_ hdb)
 refine W.callWith_K (h₀ := X.base) I.ok.mod.kin hk (thn (ha.out pos pins s σ H _ I h) fun us s1 ⟨vs, H1, I1, r, q⟩ => ⟨I1.kIn, ?_⟩) (aL (Bool.and_eq_true_iff.mp h').1 es X.env) (bu (Bool.and_eq_true_iff.mp h').2)
 exact jx F hr hb hx I1 r q
def aV (C : Addr) (E : St → XK) : TS := fun _ σ H => E σ (.ref C) none H
theorem aQ {C : Addr} {np cpos : Pos} (hC : ap X.K C) (hm : X.mg x = some (.ref C)) (hR : eY X E) (hc : X.calm = true := by rfl) (hg : Gl X x := by rfl) (hdb : (x == ("__debug__" : Str)) = false := by decide) :
  QS X (.Raise (some (.Call (.Name x np) [] [] cpos)) none pos) (aV C E) := by
 refine ⟨fun pins s σ H D I h => ?_⟩
 obtain ⟨bm, N, nm, qn, bs, hdct, sn, sub, ab, col, dd, k0, k1, k2, k3, k5, mN, oC, hN, hni, T, _⟩ := bz I.kIn hC.ok
 refine wpAny_Raise_call_subU (C := C) (nm := nm) (q := qn) (N := N) (bs := bs) (bm := bm) (hdct := hdct) (sn := sn) (sub := sub) (ab := ab) (col := col) (dd := dd) (k0 := k0) (k1 := k1) (k2 := k2) (k3 := k3) (k5 := k5)
  F.excBase_ValueError (by decide +kernel) F.excBase_ValueError (mN := mN) (T.hasType F.excBase_ValueError.hasBase) (I.ok.hd hc) rfl (hni hC) (cc I hg hm ⟨rfl, ?_⟩ hdb)
 exact evalArgs_empty ⟨rfl, Nat.zero_le _, oC, hN, T, fun h' e hm' => hR pins σ H s C e none H _ I (lu I hm') h⟩
end
theorem Fun.okX {P : Program} {w : World} {K : W.Frag} {mg : Str → Option Value} {base : Heap} {x qual : Str} {st : Stmt} {f : Addr} {fd : FuncData} {N ps : List Str} {k : Nat} {sp : Sp} (F : Fun K x qual st f fd) (S : aJ N ps (ai st)) (len : ∀ vs H Q E, sp vs H Q E → vs.length = ps.length)
  (hbody : ∀ (cdv : Value) (A : Around) (outer : List Env) (s : Shared) (H : Hp) (vs : List V) (Q : VK) (E : XK), aE k (A.deeper (envOfC qual (ai st) s.heap.objs.size f cdv)) → sp vs H Q E →
   ∃ t, PSs (bg (CX1 P w) P w K mg base N qual (ai st) f cdv A outer s H E) (aD st) t ∧ t { nx := fun _ H' => Q .non H', rt := Q } (aZ N vs) H) : bh P w K mg base (CX1 P w) (k + 1) f fd ps sp := by
 obtain ⟨oc, od, kV, doc, pm, an, cdv, ct, osl, rfl, lk, hcd⟩ := F.ex
 exact iO lk hcd S len fun A outer s H vs Q E hr hsp => hbody cdv A outer s H vs Q E hr hsp
end L2
namespace L2
open PySem PySem.Spec PyProof.Rows
def aR (C : Addr) (d : Option Addr) (a : Addr) : HO := .ext fun h => ∃ o vs, h.get? a = some o ∧ o.cls = .ref C ∧ o.dict = d ∧ o.data = .fields vs ∧ vs[2]? = some .none
theorem fw {P : Program} {w : World} {H : Hp} {h : Heap} {C a : Addr} {d : Option Addr} {o : Obj} {vs : Array Value} (e : h.get? a = some o) (hc : o.cls = .ref C) (hdc : o.dict = d) (hd : o.data = .fields vs) (h2 : vs[2]? = some .none) : aM P w H h a (aR C d a) :=
 ⟨⟨o, vs, e, hc, hdc, hd, h2⟩, ⟨o, e⟩, fun _ _ ⟨o1, vs1, e1, c1, x1, d1, y1⟩ k => ⟨o1, vs1, k o1 e1, c1, x1, d1, y1⟩⟩
theorem dP {P : Program} {w : World} {H : Hp} {h : Heap} {C a : Addr} {d : Option Addr} (x : aM P w H h a (aR C d a)) : ∃ o vs, h.get? a = some o ∧ o.cls = .ref C ∧ o.dict = d ∧ o.data = .fields vs ∧ vs[2]? = some .none := x.1
section
variable {X : Cx} {pins : List (Addr × Obj)} {σ : St} {H H1 H' : Hp} {s s0 : Shared} {a : Addr} {o : HO}
theorem Inv.track (I0 : Inv X pins σ H1 s0) (hex : X.ex = []) (I : Inv X pins σ H s) (new : s0.heap.get? a = none) (hn : H a = none) (ok : aM X.prog X.w (upd H a o) s.heap a o) : Inv X pins σ (upd H a o) s := by
 have ne : ∀ b u, s0.heap.get? b = some u → b ≠ a := fun b u e z => by rw [z, new] at e; cases e
 have ne0 : ∀ b u, X.s₀.heap.get? b = some u → b ≠ a := fun b u e => by
   obtain ⟨u', e'⟩ := I0.base.there b u e (by rw [hex]; simp)
   exact ne b u' e'
 have nL : X.env.locals ≠ a := by
   obtain ⟨m, ⟨o', _, _, e, _⟩, _⟩ := I0.loc
   exact ne _ _ e
 refine ⟨I.ok, I.os, I.bare, ⟨I.base.keep, I.base.slot, fun b u e n hx => ?_, I.base.there, fun b xs e => ?_, fun b u v e => ?_, fun b ps e => ?_⟩, I.loc, I.cell, ?_, fun x c e => ?_, fun p hp => ?_, fun b u e => ?_, I.len⟩
 · rw [ak (ne0 b u e)]; exact I.base.free b u e n hx
 · have := I.base.tups b xs e
   rw [ak (al this hn)]; exact this
 · have := I.base.frzs b u v e
   rw [ak (al this hn)]; exact this
 · obtain ⟨more, this⟩ := I.base.tbls b ps e
   exact ⟨more, by rw [ak (al this hn)]; exact this⟩
 · rw [ak nL]; exact I.free
 · obtain ⟨v, o', e', _⟩ := I0.cell x c e
   rw [ak (ne _ _ e')]; exact I.freeC x c e
 · obtain ⟨h1, h2, h3⟩ := I.pin p hp
   exact ⟨h1, by rw [ak (ne _ _ (I0.pin p hp).1)]; exact h2, h3⟩
 · by_cases hb : b = a
   · subst hb
     rw [aj] at e; cases e
     exact ok
   · rw [ak hb] at e
     exact (I.hok b u e).stay (fun c v _ q => q) (fun c q => by
      have : c ≠ a := al q hn
      rw [ak this]; exact q) fun c xs q => by
      have : c ≠ a := al q hn
      rw [ak this]; exact q
end
def cxH (X : Cx) (a : Addr) : Cx := { X with A := X.A.mark (some (.ref a)), calm := false, xe := fun _ _ => False }
section
variable {X : Cx} {pins : List (Addr × Obj)} {σ : St} {H : Hp} {s : Shared} {a : Addr}
theorem Cx.Ok.toH (ok : X.Ok) : (cxH X a).Ok := ⟨ok.mod, ok.kind, ok.glob, ok.blt, ok.above, ok.inj, ok.has, ok.cab, fun h => absurd (show false = true from h) Bool.false_ne_true, ok.frames, ok.stk, ok.exf, ok.bs, ok.bsz, ok.noex, ok.exfs, ok.funs, ok.frf⟩
theorem Inv.toH (I : Inv X pins σ H s) : Inv (cxH X a) pins σ H s := ⟨I.ok.toH, I.os, I.bare, I.base, I.loc, I.cell, I.free, I.freeC, I.pin, I.hok, I.len⟩
theorem Inv.ofH (ok : X.Ok) (I : Inv (cxH X a) pins σ H s) : Inv X pins σ H s := ⟨ok, I.os, I.bare, I.base, I.loc, I.cell, I.free, I.freeC, I.pin, I.hok, I.len⟩
theorem SP.ofH {D : bI} {f : Flow} (ok : X.Ok) (h : SP (cxH X a) pins D f s) : SP X pins D f s := by
 cases f with
 | next => obtain ⟨σ', H', J, q⟩ := h; exact ⟨σ', H', J.ofH ok, q⟩
 | brk => obtain ⟨σ', H', J, q⟩ := h; exact ⟨σ', H', J.ofH ok, q⟩
 | cont => obtain ⟨σ', H', J, q⟩ := h; exact ⟨σ', H', J.ofH ok, q⟩
 | ret u => obtain ⟨v, σ', H', J, r, q⟩ := h; exact ⟨v, σ', H', J.ofH ok, r, q⟩
end
abbrev TH := bI → St → Addr → Option Addr → Hp → Prop
def PH (X : Cx) (hs : List ExceptHandler) (t : TH) : Prop := ∀ (pins : List (Addr × Obj)) (s0 : Shared) (σ : St) (H1 H' : Hp) (C a : Addr) (d : Option Addr) (s3 : Shared) (D : bI), X.stack = X.env :: X.outer → X.env.frame = some X.env.locals → X.ex = [] →
 Inv X pins σ H1 s0 → Fly X.prog X.w X.stack H1 s0 (.ref C) .none a d H' s3 → av X.K C → t D σ C d H' → wpAny (model X.prog X.w) X.A (handleBy (.ref a) X.env hs) (SP X pins D) X.xe s3
structure QH (X : Cx) (hs : List ExceptHandler) (t : TH) : Prop where
 out : PH X hs t
def dA : TH := fun _ _ _ _ _ => False
def dC (i : Nat) (D : bI) : bI := ⟨fun σ H => D.nx (σ.set i none) H, D.rt, fun σ H => D.bk (σ.set i none) H, fun σ H => D.ct (σ.set i none) H⟩
def hAs (K : W.Frag) (Dc : Addr) (i : Nat) (ts : TS) (r : TH) : TH := fun D σ C d H => ∃ b, ag K C Dc = some b ∧ Sel b (∀ a, H a = none → ts (dC i D) (σ.set i (some (.ref a))) (upd H a (aR C d a))) (r D σ C d H)
def kz (K : W.Frag) (Dc : Addr) (i : Nat) (ts : Addr → TS) (r : TH) : TH := fun D σ C d H => ∃ b, ag K C Dc = some b ∧ Sel b (∀ a, H a = none → ts a (dC i D) (σ.set i (some (.ref a))) (upd H a (aR C d a))) (r D σ C d H)
section
variable {X : Cx}
theorem dD : QH X [] dA := ⟨fun _ _ _ _ _ _ _ _ _ _ _ _ _ _ _ _ h => h.elim⟩
theorem dY {pins : List (Addr × Obj)} {σ : St} {H H' : Hp} {s s' : Shared} {cls : Value} {a : Addr} {d : Option Addr} {M : Model} {A : Around} {E : Value → Shared → Prop} {Q : Unit → Shared → Prop} (I : Inv X pins σ H s) (F : Fly X.prog X.w X.stack H s cls .none a d H' s')
  (hQ : ∀ s'', Fly X.prog X.w X.stack H s cls .none a d H' s'' → Q () s'') : wpAny M A (setFlight (.ref a) none) Q E s' := by
 obtain ⟨T, a0, hT0, hT1, f1, f2, f3, f4⟩ := F.flying I
 refine HT.cQ f1 f3 f4 fun h' n => ?_
 exact hQ _ (F.moved (oT := { cls := .none, data := .dict #[] }) I.stack I.stkFree (F.inv I).stkFree hT0 hT1 n.st n.up n.tr)
variable {x n : Str} {np hp : Pos} {Dc : Addr} {b0 : Stmt} {suite : List Stmt} {bd : List ExceptHandler} {ts : TS} {r : TH} {i : Nat}
theorem eW {A : Around} {E : Value → Shared → Prop} {pins : List (Addr × Obj)} {s : Shared} {σ : St} {H : Hp} {u : Value} {pos : Pos} {Q : Value → Shared → Prop} (I : Inv X pins σ H s) (hg : Gl X x) (hm : X.mg x = some u) (h : Q u s)
  (hd : (x == ("__debug__" : Str)) = false := by decide) : wpAny (model X.prog X.w) A (eval (.Name x pos) X.env) Q E s :=
 Calls.Name_function_global I.ok.kind hg (Calls.loadGlobal_global (by rw [I.ok.glob]; exact I.mod.glob.keeps I.bk) hm h) hd
theorem gi (i : Nat) (hN : X.N.Nodup) (hD : av X.K Dc) (hm : X.mg x = some (.ref Dc)) (hs : ∀ a, QSs (cxH X a) (b0 :: suite) ts) (hr : QH X bd r) (hg : Gl X x := by rfl) (hdb : (x == ("__debug__" : Str)) = false := by decide)
    (hi : X.N[i]? = some n := by rfl) (hl : X.env.scope.names.lookup n = some .local := by rfl) :
    QH X (.ExceptHandler (some (.Name x np)) (some n) (b0 :: suite) hp :: bd) (hAs X.K Dc i ts r) := by
  refine ⟨fun pins s0 σ H1 H' C a d s3 D e1 e2 hex I F hC h => ?_⟩
  obtain ⟨b, hb, q⟩ := h
  have I3 := F.inv I
  obtain ⟨oe, vs, _, _, _, _, he, hc, hdc, hd, _⟩ := F.tr
  refine wpAny_handleBy_cons (codeAny_handlers_test (eW I3 hg hm ?_ hdb)) (by intro q; cases q)
  refine cf I3.kIn hC hD he hc hb ?_
  have q := cb q
  cases b with
  | false => exact hr.out pins s0 σ H1 H' C a d s3 D e1 e2 hex I F hC q
  | true =>
    refine codeAny_handlers_suite_as (dY I F fun s4 F4 => ?_)
    have I4 := F4.inv I
    obtain ⟨oe4, vs4, _, _, _, _, he4, hc4, hdc4, hd4, h04, _⟩ := F4.tr
    have I5 : Inv X pins σ (upd H' a (aR C d a)) s4 := Inv.track I hex I4 F.new F.free (fw he4 hc4 hdc4 hd4 h04.b)
    have hcls : (X.env.scope.kind == .class || (X.env.scope.kind == .module && X.env.locals != X.env.globals)) = false := by rw [I.ok.kind]; rfl
    refine bQ (v := .ref a) I5 hN hi (.inl hl) rfl (fun s6 I6 => ?_) (.inr hl)
    refine wpAny_mono ((hs a).out pins s6 _ _ (dC i D) I6.toH (q a F.free)) (fun f s7 h7 => ?_) fun _ _ z => z.elim
    have h7 := SP.ofH I.ok h7
    have go : ∀ {σ' : St} {H'' : Hp} {Q : Unit → Shared → Prop}, Inv X pins σ' H'' s7 → (∀ s8, Inv X pins (σ'.set i none) H'' s8 → Q () s8) → wpAny (model X.prog X.w) X.A (do bindName X.env n .none; unbindBehindTheSuite X.env n hp) Q X.xe s7 := fun {σ' H'' Q} J hQ => by
      obtain ⟨m, hn, hloc⟩ := id J.loc
      refine wpAny_nameGoes_keeps hl hn hcls fun h' v hn' hs' => hQ _ ?_
      obtain ⟨oL, _, _, hoL, _⟩ := id hn
      refine ⟨J.ok, J.os, J.bare, ⟨fun b o e n hb hx => ?_, fun b o e n hb hx => ?_, J.base.free, fun b o e hx => ?_, J.base.tups, J.base.frzs, J.base.tbls⟩, ⟨_, hn', fun j y v' e1 e2 e3 => ?_⟩, fun y c e => ?_, J.free, J.freeC, fun p hp => ?_, fun b ob e => ?_, by simpa using J.len⟩
      · exact (hs'.2 b (Nat.ne_of_lt (Nat.lt_of_lt_of_le (Heap.lt_size e) J.ok.above))).trans (J.base.keep b o e n hb hx)
      · obtain ⟨sl, e1⟩ := J.base.slot b o e n hb hx
        exact ⟨sl, (hs'.2 b (Nat.ne_of_lt (Nat.lt_of_lt_of_le (Heap.lt_size e) J.ok.above))).trans e1⟩
      · obtain ⟨o', e1⟩ := J.base.there b o e hx
        exact ⟨o', (hs'.2 b (Nat.ne_of_lt (Nat.lt_of_lt_of_le (Heap.lt_size e) J.ok.above))).trans e1⟩
      · have hji : j ≠ i := by
          rintro rfl
          have : j < σ'.length := by rw [J.len]; exact (List.getElem?_eq_some_iff.mp hi).1
          rw [List.getElem?_set_self this] at e2; cases e2
        rw [List.getElem?_set_ne (Ne.symm hji)] at e2
        obtain ⟨u, ru, lk⟩ := hloc j y v' e1 e2 e3
        refine ⟨u, ru, ?_⟩
        rcases lk with ⟨k, e⟩ | ⟨k, c, e, z⟩
        · refine .inl ⟨k, ?_⟩
          have : y ≠ n := fun e => hji (ck hN e1 (e ▸ hi))
          simp [this, e]
        · exact .inr ⟨k, c, e, z.sameBut hs' (J.cne y c e)⟩
      · obtain ⟨w', z⟩ := J.cell y c e
        exact ⟨w', z.sameBut hs' (J.cne y c e)⟩
      · obtain ⟨e, n, ne, nf, d⟩ := J.pin p hp
        exact ⟨(hs'.2 p.1 ne).trans e, n, ne, nf, d⟩
      · refine (J.hok b ob e).stay (fun c w' hc q => (hs'.2 c ?_).trans q) (fun _ q => q) fun _ _ q => q
        rintro rfl
        rcases hc with r | hc
        · rw [← r, J.free] at e; cases e
        · rw [J.free] at hc; cases hc
    cases f with
    | next => obtain ⟨σ', H'', J, q'⟩ := h7; exact go J fun s8 J8 => ⟨_, _, J8, q'⟩
    | brk => obtain ⟨σ', H'', J, q'⟩ := h7; exact go J fun s8 J8 => ⟨_, _, J8, q'⟩
    | cont => obtain ⟨σ', H'', J, q'⟩ := h7; exact go J fun s8 J8 => ⟨_, _, J8, q'⟩
    | ret u => obtain ⟨v, σ', H'', J, rv, q'⟩ := h7; exact go J fun s8 J8 => ⟨v, _, _, J8, rv, q'⟩
theorem kZ {ts : Addr → TS} (i : Nat) (hN : X.N.Nodup) (hD : av X.K Dc) (hm : X.mg x = some (.ref Dc)) (hs : ∀ a, QSs (cxH X a) (b0 :: suite) (ts a)) (hr : QH X bd r) (hg : Gl X x := by rfl) (hdb : (x == ("__debug__" : Str)) = false := by decide)
    (hi : X.N[i]? = some n := by rfl) (hl : X.env.scope.names.lookup n = some .local := by rfl) :
    QH X (.ExceptHandler (some (.Name x np)) (some n) (b0 :: suite) hp :: bd) (kz X.K Dc i ts r) := by
  refine ⟨fun pins s0 σ H1 H' C a d s3 D e1 e2 hex I F hC h => ?_⟩
  obtain ⟨b, hb, q⟩ := h
  have I3 := F.inv I
  obtain ⟨oe, vs, _, _, _, _, he, hc, hdc, hd, _⟩ := F.tr
  refine wpAny_handleBy_cons (codeAny_handlers_test (eW I3 hg hm ?_ hdb)) (by intro q; cases q)
  refine cf I3.kIn hC hD he hc hb ?_
  have q := cb q
  cases b with
  | false => exact hr.out pins s0 σ H1 H' C a d s3 D e1 e2 hex I F hC q
  | true =>
    refine codeAny_handlers_suite_as (dY I F fun s4 F4 => ?_)
    have I4 := F4.inv I
    obtain ⟨oe4, vs4, _, _, _, _, he4, hc4, hdc4, hd4, h04, _⟩ := F4.tr
    have I5 : Inv X pins σ (upd H' a (aR C d a)) s4 := Inv.track I hex I4 F.new F.free (fw he4 hc4 hdc4 hd4 h04.b)
    have hcls : (X.env.scope.kind == .class || (X.env.scope.kind == .module && X.env.locals != X.env.globals)) = false := by rw [I.ok.kind]; rfl
    refine bQ (v := .ref a) I5 hN hi (.inl hl) rfl (fun s6 I6 => ?_) (.inr hl)
    refine wpAny_mono ((hs a).out pins s6 _ _ (dC i D) I6.toH (q a F.free)) (fun f s7 h7 => ?_) fun _ _ z => z.elim
    have h7 := SP.ofH I.ok h7
    have go : ∀ {σ' : St} {H'' : Hp} {Q : Unit → Shared → Prop}, Inv X pins σ' H'' s7 → (∀ s8, Inv X pins (σ'.set i none) H'' s8 → Q () s8) → wpAny (model X.prog X.w) X.A (do bindName X.env n .none; unbindBehindTheSuite X.env n hp) Q X.xe s7 := fun {σ' H'' Q} J hQ => by
      obtain ⟨m, hn, hloc⟩ := id J.loc
      refine wpAny_nameGoes_keeps hl hn hcls fun h' v hn' hs' => hQ _ ?_
      obtain ⟨oL, _, _, hoL, _⟩ := id hn
      refine ⟨J.ok, J.os, J.bare, ⟨fun b o e n hb hx => ?_, fun b o e n hb hx => ?_, J.base.free, fun b o e hx => ?_, J.base.tups, J.base.frzs, J.base.tbls⟩, ⟨_, hn', fun j y v' e1 e2 e3 => ?_⟩, fun y c e => ?_, J.free, J.freeC, fun p hp => ?_, fun b ob e => ?_, by simpa using J.len⟩
      · exact (hs'.2 b (Nat.ne_of_lt (Nat.lt_of_lt_of_le (Heap.lt_size e) J.ok.above))).trans (J.base.keep b o e n hb hx)
      · obtain ⟨sl, e1⟩ := J.base.slot b o e n hb hx
        exact ⟨sl, (hs'.2 b (Nat.ne_of_lt (Nat.lt_of_lt_of_le (Heap.lt_size e) J.ok.above))).trans e1⟩
      · obtain ⟨o', e1⟩ := J.base.there b o e hx
        exact ⟨o', (hs'.2 b (Nat.ne_of_lt (Nat.lt_of_lt_of_le (Heap.lt_size e) J.ok.above))).trans e1⟩
      · have hji : j ≠ i := by
          rintro rfl
          have : j < σ'.length := by rw [J.len]; exact (List.getElem?_eq_some_iff.mp hi).1
          rw [List.getElem?_set_self this] at e2; cases e2
        rw [List.getElem?_set_ne (Ne.symm hji)] at e2
        obtain ⟨u, ru, lk⟩ := hloc j y v' e1 e2 e3
        refine ⟨u, ru, ?_⟩
        rcases lk with ⟨k, e⟩ | ⟨k, c, e, z⟩
        · refine .inl ⟨k, ?_⟩
          have : y ≠ n := fun e => hji (ck hN e1 (e ▸ hi))
          simp [this, e]
        · exact .inr ⟨k, c, e, z.sameBut hs' (J.cne y c e)⟩
      · obtain ⟨w', z⟩ := J.cell y c e
        exact ⟨w', z.sameBut hs' (J.cne y c e)⟩
      · obtain ⟨e, n, ne, nf, d⟩ := J.pin p hp
        exact ⟨(hs'.2 p.1 ne).trans e, n, ne, nf, d⟩
      · refine (J.hok b ob e).stay (fun c w' hc q => (hs'.2 c ?_).trans q) (fun _ q => q) fun _ _ q => q
        rintro rfl
        rcases hc with r | hc
        · rw [← r, J.free] at e; cases e
        · rw [J.free] at hc; cases hc
    cases f with
    | next => obtain ⟨σ', H'', J, q'⟩ := h7; exact go J fun s8 J8 => ⟨_, _, J8, q'⟩
    | brk => obtain ⟨σ', H'', J, q'⟩ := h7; exact go J fun s8 J8 => ⟨_, _, J8, q'⟩
    | cont => obtain ⟨σ', H'', J, q'⟩ := h7; exact go J fun s8 J8 => ⟨_, _, J8, q'⟩
    | ret u => obtain ⟨v, σ', H'', J, rv, q'⟩ := h7; exact go J fun s8 J8 => ⟨v, _, _, J8, rv, q'⟩
end
end L2
namespace L2
open PySem PySem.Spec PyProof.Rows
def eG (K : W.Frag) (tb : (St → XK) → TS) (th : TH) (te : TS) : TS := fun D σ H =>
 tb (fun σ' cls d H' => ∃ C, cls = .ref C ∧ av K C ∧ th D σ' C d H') { D with nx := te D } σ H
abbrev cxT (X : Cx) (pn : List (Addr × Obj)) (E' : Value → Shared → Prop) : Cx := { X with pn := pn, xe := E' }
section
variable {X : Cx} {pins pn : List (Addr × Obj)} {σ : St} {H : Hp} {s : Shared} {E' : Value → Shared → Prop}
theorem Cx.Ok.toT (ok : X.Ok) : (cxT X pn E').Ok := ⟨ok.mod, ok.kind, ok.glob, ok.blt, ok.above, ok.inj, ok.has, ok.cab, ok.hd, ok.frames, ok.stk, ok.exf, ok.bs, ok.bsz, ok.noex, ok.exfs, ok.funs, ok.frf⟩
theorem Inv.toT (I : Inv X pins σ H s) : Inv (cxT X (X.pn ++ pins) E') [] σ H s := ⟨I.ok.toT, I.os, I.bare, I.base, I.loc, I.cell, I.free, I.freeC, fun p hp => I.pin p (by
 have hp : p ∈ (X.pn ++ pins) ++ [] := hp
 rwa [List.append_nil] at hp), I.hok, I.len⟩
theorem Inv.ofT {pins' : List (Addr × Obj)} (ok : X.Ok) (I : Inv (cxT X (X.pn ++ pins) E') pins' σ H s) : Inv X pins σ H s := ⟨ok, I.os, I.bare, I.base, I.loc, I.cell, I.free, I.freeC, fun p hp => I.pin p (List.mem_append_left _ hp), I.hok, I.len⟩
theorem eE {body orelse : List Stmt} {h0 : ExceptHandler} {hs : List ExceptHandler} {pos : Pos} {tb : (St → XK) → TS} {te : TS} {th : TH}
    (hb : ∀ (pn' : List (Addr × Obj)) (E' : Value → Shared → Prop) (EH : St → XK), cR (CX1 X.prog X.w) (cxT X pn' E') EH → QSs (cxT X pn' E') body (tb EH)) (hh : QH X (h0 :: hs) th) (he : QSs X orelse te)
    (e1 : X.stack = X.env :: X.outer := by rfl) (e2 : X.env.frame = some X.env.locals := by rfl) (hex : X.ex = [] := by rfl) : QS X (.Try body (h0 :: hs) orelse [] pos) (eG X.K tb th te) := by
  refine ⟨fun pins s σ H D I h => ?_⟩
  let E' : Value → Shared → Prop := fun e s1 => ∃ σ1 H1 s0 C a d H', e = .ref a ∧ Inv X pins σ1 H1 s0 ∧ Fly X.prog X.w X.stack H1 s0 (.ref C) .none a d H' s1 ∧ av X.K C ∧ th D σ1 C d H'
  have pass : cR (CX1 X.prog X.w) (cxT X (X.pn ++ pins) E') (fun σ' cls d H' => ∃ C, cls = .ref C ∧ av X.K C ∧ th D σ' C d H') := by
    intro pins' σ1 H1 s0 e s1 I1 hx
    obtain ⟨a, C, d, H', rfl, F, C', ec, hC, ht⟩ := hx
    cases ec
    exact ⟨σ1, H1, s0, C, a, d, H', rfl, I1.ofT I.ok, F, hC, ht⟩
  refine wpAny_Try_except (wpAny_mono ((hb (X.pn ++ pins) E' _ pass).out [] s σ H _ I.toT h) (fun f s1 h1 => ?_) fun e s1 h1 => ?_)
  · cases f with
    | next =>
      obtain ⟨σ', H', J, q⟩ := h1
      exact he.out pins s1 σ' H' D (J.ofT I.ok) q
    | brk => obtain ⟨σ', H', J, q⟩ := h1; exact ⟨σ', H', J.ofT I.ok, q⟩
    | cont => obtain ⟨σ', H', J, q⟩ := h1; exact ⟨σ', H', J.ofT I.ok, q⟩
    | ret u => obtain ⟨v, σ', H', J, rv, q⟩ := h1; exact ⟨v, σ', H', J.ofT I.ok, rv, q⟩
  · obtain ⟨σ1, H1, s0, C, a, d, H', rfl, I1, F, hC, ht⟩ := h1
    obtain ⟨T, a0, hT0, hT1, f1, f2, f3, f4⟩ := F.flying I1
    have hfr := I1.ok.frames
    rw [e1] at hfr
    have f3' := f3
    rw [e1] at f3'
    have f1' := f1
    have f2' := f2
    have f4' := f4
    rw [e1] at f1' f2' f4'
    refine HT.dq hfr f3' e2 f4' f1' f2' fun h' n1 => ?_
    refine HT.cQ (s := { s1 with heap := h' }) n1.st n1.fr n1.tr fun h'' n2 => ?_
    have st : (bF s1.heap X.stack a T).StaysIn h'' := by rw [e1]; exact n2.st
    have tr : HT.TrD h'' (bF s1.heap X.stack a T) a (.ref C) a0 d .none := by rw [e1]; exact n2.tr
    have F3 := F.moved (oT := { cls := .none, data := .dict #[] }) I1.stack I1.stkFree (F.inv I1).stkFree hT0 hT1 st (n1.up.trans n2.up) tr
    exact hh.out pins s0 σ1 H1 H' C a d _ D e1 e2 hex I1 F3 hC ht
end
section
variable {X : Cx}
end
end L2
namespace L2
open PySem PySem.Spec PyProof.Rows
structure ay (K : W.Frag) (C : Addr) : Prop where
 ga : W.findIn K (.ref C) "__getattribute__" = some (some (.builtin "BaseException.__getattribute__"))
 na : W.findIn K (.ref C) "__getattr__" = some none
 cl : W.findIn K (.ref C) "__class__" = some (some (.builtin "object.__class__"))
 mo : W.mroIn K C (.type "object") = some true
 mb : W.mroIn K C (.type "BaseException") = some true
section
variable {K : W.Frag} {prog : Program} {w : World} {A : Around} {E : Value → Shared → Prop} {h : Heap} {g : Array GenState} {d : Drawn} {t : Nat} {os : OsState} {a C : Addr} {o : Obj}
theorem jy {M : Model} (hx : h.get? a = some o) (hc : o.cls = .ref C) : W.Looks M h (typeOf (.ref a)) (.ref C) := hc ▸ (W.Looks.ld hx).andThen .now
theorem lf {R : Result → Shared → Prop} (X : K.In h) (G : ay K C) (hx : h.get? a = some o) (hc : o.cls = .ref C) (hq : R (.ok (.ret (.ref C))) ⟨h, g, d, t, os⟩) :
  codeAny (model prog w) A (.call (.builtin "getset_descriptor.__get__") ⟨[.builtin "object.__class__", .ref a, .ref C], []⟩) R ⟨h, g, d, t, os⟩ := by
 have hT5 : (⟨h, g, d, t, os⟩ : Shared).TypeIs (.builtin "object.__class__") "getset_descriptor" := F.typeOf_object_class
 have f8 := W.looks_mroIn (M := model prog w) X G.mo
 have hcB : (".".intercalate ("object.__class__".cutAt '.').dropLast) = "object" := F.owner_object_class
 refine codeAny_call_builtin F.slot_gs_get.plain F.entry_gs_get (F.slot_gs_get.check _ _ _ _ _ _ _ _ hT5 (F.args_gs_get _ _ _) ?_)
 repeat (any_goals (first | assumption | (with_reducible refine wpAny_loadPart_at hx ?_; rw [hc]) | (rw [hcB]; with_reducible refine f8.at ?_) | wp_step))
 refine ⟨Code.quiet_builtin _ (by decide +kernel), codeAny_builtin F.entry_object_class ?_⟩
 repeat (any_goals (first | assumption | (with_reducible refine wpAny_loadPart_at hx ?_; rw [hc]) | wp_step))
theorem ij {tk : Tok} {Q : Fin → Shared → Prop} (X : K.In h) (G : ay K C) (hx : h.get? a = some o) (hc : o.cls = .ref C) (hq : Q (.done (.ret (.ref C))) ⟨h, g, d, t, os⟩) :
  wpAny (model prog w) A (Builtin.«object.__getattribute__» ⟨[.ref a, .str "__class__" tk], []⟩) Q E ⟨h, g, d, t, os⟩ := by
 have hT5 : (⟨h, g, d, t, os⟩ : Shared).TypeIs (.builtin "object.__class__") "getset_descriptor" := F.typeOf_object_class
 have f4 := W.looks_findIn (M := model prog w) X G.cl
 have f5 := F.typeOf_object_class
 have f6 := F.slot_gs_get.lookup
 have f7 := F.slot_gs_set.lookup
 repeat (any_goals (first | assumption | (with_reducible refine wpAny_loadPart_at hx ?_; rw [hc]) | with_reducible refine f4.at ?_ | wp_step))
 refine lf X G hx hc ?_
 repeat (any_goals (first | assumption | wp_step))
theorem eP {M : Model} {nameV : Value} {Q : Unit → Shared → Prop} (X : K.In h) (G : ay K C) (hx : h.get? a = some o) (hc : o.cls = .ref C) (hq : Q () ⟨h, g, d, t, os⟩) : wpAny M A (checkBuiltinCall "BaseException.__getattribute__" ⟨[.ref a, nameV], []⟩) Q E ⟨h, g, d, t, os⟩ := by
 have hk : builtinKind "BaseException.__getattribute__" = some .slot := by decide +kernel
 have hsplit : splitId "BaseException.__getattribute__" = some ("BaseException", "__getattribute__") := by decide +kernel
 have f8 := W.looks_mroIn (M := M) X G.mb
 have ha := F.args_bexc_ga (.ref a) nameV
 simp only [checkBuiltinCall, hk, hsplit]
 refine wpAny_bind ?_
 · unfold isInstance
   repeat (first | (with_reducible refine wpAny_loadPart_at hx ?_; rw [hc]) | with_reducible refine f8.at ?_ | wp_step)
   exact hq
theorem jH {tk : Tok} {R : Result → Shared → Prop} (X : K.In h) (G : ay K C) (hx : h.get? a = some o) (hc : o.cls = .ref C) (hq : R (.ok (.ret (.ref C))) ⟨h, g, d, t, os⟩) :
  codeAny (model prog w) A (.call (.builtin "BaseException.__getattribute__") ⟨[.ref a, .str "__class__" tk], []⟩) R ⟨h, g, d, t, os⟩ :=
 codeAny_call_builtin F.excAttr_ValueError.ga.plain F.entry_bexc_ga (eP X G hx hc (ij X G hx hc hq))
theorem ls {tk : Tok} {Q : Value → Shared → Prop} (X : K.In h) (G : ay K C) (hx : h.get? a = some o) (hc : o.cls = .ref C) (hq : Q (.ref C) ⟨h, g, d, t, os⟩) :
  wpAny (model prog w) A (getAttrBy (.ref a) (.str "__class__" tk) false) Q E ⟨h, g, d, t, os⟩ := by
 have f3 := F.excAttr_ValueError.ga.bind (.ref a)
 have f1 := W.looks_findIn (M := model prog w) X G.ga
 have f2 := W.looks_findIn (M := model prog w) X G.na
 have hx2 : (Value.builtin "BaseException.__getattribute__" == Value.builtin "object.__getattribute__") = false := by decide +kernel
 have hx1 : (onTheHeap (Value.ref C) && Value.builtin "BaseException.__getattribute__" == Value.builtin "object.__getattribute__") = false := by rw [hx2]; rfl
 repeat (any_goals (first | assumption | (with_reducible refine wpAny_loadPart_at hx ?_; rw [hc]) | with_reducible refine f1.at ?_ | with_reducible refine f2.at ?_ | wp_step))
 refine jH X G hx hc ?_
 repeat (any_goals (first | assumption | wp_step))
theorem jz {Q : Option Value → Shared → Prop} (X : K.In h) (G : ay K C) (hx : h.get? a = some o) (hc : o.cls = .ref C) (hq : Q (some (.ref C)) ⟨h, g, d, t + 1, os⟩) :
  wpAny (model prog w) A (getAttr? (.ref a) "__class__") Q E ⟨h, g, d, t, os⟩ := by
 unfold getAttr? getAttrBy?
 repeat (any_goals (first | assumption | with_reducible apply ls X G hx hc | wp_step))
theorem jW {a C : Addr} (hC : av K C) (G : ay K C) : W.KitX K (.ref a) (.ref C) (fun h => ∃ o, h.get? a = some o ∧ o.cls = .ref C) where
 ty := fun M h X ⟨o, hx, hc⟩ => jy hx hc
 it := fun M h X _ => by
  obtain ⟨bm, N, nm, qn, bs, hdct, sn, sub, ab, col, dd, k0, k1, k2, k3, k5, mN, oC, _⟩ := bz X hC
  intro A' Q' E' s' k q
  unfold isType loadHead
  exact wpAny_bind (wpAny_loadPart (k _ _ oC) (wpAny_pure q))
 ne := fun h tp dd its n sl X htp => by
  obtain ⟨bm, N, nm, qn, bs, hdct, sn, sub, ab, col, dd, k0, k1, k2, k3, k5, mN, oC, _⟩ := bz X hC
  refine Bool.eq_false_iff.mpr fun q => ?_
  have e : C = tp := Value.ref.inj (beq_iff_eq.mp q)
  subst e
  rw [oC] at htp
  have z : Value.type "type" = Value.type "tuple" := congrArg Obj.cls (Option.some.inj htp)
  exact absurd z (by decide)
 ca := fun {prog w A E Q s} X ⟨o, hx, hc⟩ k => by
  obtain ⟨h, g, d, t, os⟩ := s
  exact jz X G hx hc k
end
section
variable {X : Cx}
def aU (K : W.Frag) : List V → Hp → VK → Prop := fun xs H Q => ∃ a C dd b c cv, xs = [.ref a, c] ∧ H a = some (aR C dd a) ∧ av K C ∧ ay K C ∧ aw c cv ∧ (∀ u, aw c u → u = cv) ∧ W.kitOne K (.ref C) cv = some b ∧ Q (.bl b) H
theorem aX : bK X (.builtin "isinstance") (aU X.K) := fun pins s σ H xs us Q I r h => by
 obtain ⟨a, C, dd, b, c, cv, rfl, ha, hC, G, rc, un, hk, q⟩ := h
 obtain ⟨u, w', rfl, r1, r2⟩ := li r
 cases un _ r2
 cases (show u = Value.ref a from r1)
 obtain ⟨o, vs, ho, hc, _, _⟩ := dP (P := X.prog) (w := X.w) (I.hok a _ ha)
 exact W.kia_one (jW hC G) I.kIn ⟨o, ho, hc⟩ hk (fun z => nomatch z) fun tk => ⟨.bl _, H, I.tok tk, rfl, q⟩
theorem bp {x : Str} {D : Addr} {pos : Pos} (hm : X.mg x = some (.ref D)) (hg : Gl X x := by rfl) (hd : (x == ("__debug__" : Str)) = false := by decide) : QE X (.Name x pos) (tC (.ref D)) := ⟨ji hg hm rfl hd⟩
end
end L2
namespace HT
open PySem PyProof.Rows
section
variable {prog : Program} {w : World} {A : Around} {E : Value → Shared → Prop} {s : Shared}
theorem cF {t sl : Addr} {items : Array Value} {vl vu : Value} {lo hi : Option Int} {Q : Value → Shared → Prop} (ht : IsTup s.heap t items) (hs : s.heap.IsSliceOf sl vl vu .none) (pl : IsPart vl lo) (pu : IsPart vu hi)
  (hw : sIx items.size 0 lo = 0 ∧ sIx items.size items.size hi = items.size) (h : Q (.ref t) s) : wpAny (model prog w) A (getItem (.ref t) (.ref sl)) Q E s := by
 obtain ⟨os, hos, hcs, hds⟩ := id hs
 have hTs : s.TypeIs (.ref sl) "slice" := ⟨os, hos, hcs⟩
 unfold getItem
 try with_reducible refine wpAny_holding ?_
 first | refine wpAny_bind (wpAny_pure ?_) | skip
 refine wpAny_bind (wpAny_sequenceKey ht.typeIs (by decide) ?_)
 refine wpAny_bind (wpAny_callSpecial?_slot (name := Str.ofString "__getitem__") ht.typeIs PyProof.Rows.slot_tuple_getitem
  (wpAny_call_entry PyProof.Rows.slot_tuple_getitem ht.typeIs entry_tuple_getitem ?_ (args_tuple_getitem _ _)))
 show wpAny _ _ (Builtin.Tuple.tupleItemsOf (.ref t) >>= _) _ _ s
 refine wpAny_bind (tupleItemsOf_ ht ?_)
 refine wpAny_bind (wpAny_typeOf hTs ?_)
 rw [if_pos (by decide)]
 refine wpAny_bind (bS hs pl pu ?_)
 have hyes : (((sIx items.size 0 lo : Nat) : Int) == 0 && (1 : Int) == 1 && (sIx items.size items.size hi - sIx items.size 0 lo) == items.size) = true := by
  rw [hw.1, hw.2]; simp
 show wpAny _ _ (if (((sIx items.size 0 lo : Nat) : Int) == 0 && (1 : Int) == 1 && (sIx items.size items.size hi - sIx items.size 0 lo) == items.size) = true then _ else _) _ _ s
 rw [if_pos hyes]
 have hte : s.TypeIs (.ref t) "tuple" := ht.typeIs
 unfold Builtin.Tuple.tupleIsExact
 repeat (first | exact ⟨_, rfl, wpAny_pure h⟩ | (with_reducible refine wpAny_typeOf hte ?_) | wp_step)
end
end HT
namespace HT
open PySem PyProof.Rows
section
variable {prog : Program} {w : World} {A : Around} {E : Value → Shared → Prop} {s : Shared}
theorem gY {t b : Addr} {ws : List Value} {Q : Value → Shared → Prop} (ht : IsTup s.heap t #[]) (hb : IsTup s.heap b ws.toArray) (h1 : Q (.ref b) s) : wpAny (model prog w) A (binaryOp .Add (.ref t) (.ref b)) Q E s := by
 obtain ⟨⟨cls, dd, data, sl⟩, ho, hc, n, hd⟩ := id ht
 obtain ⟨⟨cls2, dd2, data2, sl2⟩, ho2, hc2, n2, hd2⟩ := id hb
 simp only at hc hd hc2 hd2
 subst hc hd hc2 hd2
 exact concat_meets ⟨_, ho, rfl⟩ ⟨_, ho2, rfl⟩ noFill_tuple_add seq_tuple_add PySem.F.slot_tuple_add PySem.F.entry_tuple_add (PySem.F.args_tuple_add_2 _ _)
  (tuple_addW0 t b #[] ws.toArray n n2 dd dd2 sl sl2 (by simp)) ⟨ho, ho2, h1⟩
end
end HT
namespace L2
open PySem PySem.Spec PyProof.Rows
theorem ar.rfl' {H : Hp} : ar H H := fun _ _ e => e
theorem gh {xs : List V} {lo hi : Option Int} (h : HT.sIx xs.length 0 lo = 0 ∧ HT.sIx xs.length xs.length hi = xs.length) : bT xs lo hi = xs := by
 unfold bT
 rw [h.1, h.2, List.drop_zero, Nat.sub_zero, List.take_length]
section
variable {X : Cx}
def iT : V → Option Int → Option Int → Hp → VK → Prop := fun x lo hi H Q => ∃ a xs, x = .ref a ∧ H a = some (.tup xs) ∧ ∀ p H', ar H H' → H' p = some (.tup (bT xs lo hi)) → Q (.ref p) H'
theorem jd : SlR X iT := by
 intro pins s σ H x v vl vu lo hi sl Q I rx hs pl pu h
 obtain ⟨a, xs, rfl, hx, q⟩ := h
 have hq : SqT X.K H a xs := .inl (.inl hx)
 by_cases hw : HT.sIx xs.length 0 lo = 0 ∧ HT.sIx xs.length xs.length hi = xs.length
 · cases rx
   obtain ⟨its, r, ht, hz⟩ := I.tuple hq
   have hlen : its.toArray.size = xs.length := by rw [List.size_toArray]; exact r.length.symm
   refine ⟨"tuple", _, PyProof.Rows.slot_tuple_getitem.lookup, ht.typeIs, ?_⟩
   refine HT.cF ht hs pl pu (by rw [hlen]; exact hw) ?_
   exact ⟨.ref a, H, I, rfl, q a H ar.rfl' (by rw [gh hw]; exact hx)⟩
 · exact ki pins s σ H _ v vl vu lo hi sl Q I rx hs pl pu ⟨a, xs, rfl, hq, hw, fun p hp => q p _ (ar.upd hp) (aj ..)⟩
def iL : R2 := fun x y H Q => ∃ a b xs ys, x = .ref a ∧ y = .ref b ∧ H a = some (.tup xs) ∧ H b = some (.tup ys) ∧ xs.length + ys.length ≤ sizeLine ∧ ∀ p H', ar H H' → H' p = some (.tup (xs ++ ys)) → Q (.ref p) H'
theorem jB : OpR X (binaryOp .Add) iL := by
 intro pins s σ H x y v u Q I rx ry h
 obtain ⟨a, b, xs, ys, rfl, rfl, ha, hb, hz, q⟩ := h
 by_cases hx : xs = []
 · subst hx
   cases rx
   cases ry
   obtain ⟨its, r1, p1, _⟩ := I.tuple (.inl (.inl ha))
   obtain ⟨its2, r2, p2, _⟩ := I.tuple (.inl (.inl hb))
   cases r1
   exact HT.gY p1 p2 ⟨.ref b, H, I, rfl, q b H ar.rfl' hb⟩
 · refine jI pins s σ H _ _ v u Q I rx ry ⟨a, b, xs, ys, rfl, rfl, .inl (.inl ha), .inl (.inl hb), hx, hz, fun e => ?_, fun _ p hp => q p _ (ar.upd hp) (aj ..)⟩
   subst e
   exact q a H ar.rfl' (by rw [List.append_nil]; exact ha)
def cC (K : W.Frag) : R2 := fun x y H Q => match x, y with
 | .int i, .int j => Q (.int (i + j)) H
 | .str i, .str j => i.length + j.length ≤ sizeLine ∧ Q (.str (i ++ j)) H
 | .ref a, .ref b => jU (.ref a) (.ref b) H Q ∨ iL (.ref a) (.ref b) H Q
 | _, _ => False
theorem dv : OpR X (binaryOp .Add) (cC X.K) := (kI.or (gq.or (jO.or jB))).imp fun x y H Q q => by
 unfold cC at q
 split at q
 · exact .inl ⟨_, _, rfl, rfl, q⟩
 · exact .inr (.inl ⟨_, _, rfl, rfl, q.1, q.2⟩)
 · exact .inr (.inr q)
 · exact q.elim
def jQ (K : W.Frag) : V → Option Int → Option Int → Hp → VK → Prop := fun x lo hi H Q => jY K x lo hi H Q ∨ iT x lo hi H Q
theorem kr : SlR X (jQ X.K) := iW.or jd
end
end L2
namespace L2
open PySem PySem.Spec PyProof.Rows
theorem em : bootBuiltins "ValueError" = some (.type "ValueError") := by decide +kernel
theorem aa {K : W.Frag} {C D : Addr} {b : Bool} (h : W.mroIn K C (.ref D) = some b) : ag K C D = some b := by
 unfold W.mroIn W.clsIn at h
 unfold ag
 split at h
 · rename_i cd sl e
   rw [e]
   dsimp only [Option.bind] at h ⊢
   split at h
   · cases h
   · exact h
 · cases h
theorem Fun.okN {P : Program} {w : World} {K : W.Frag} {mg : Str → Option Value} {base : Heap} {CX : CXT} {x qual : Str} {st : Stmt} {f : Addr} {fd : FuncData} {N ps : List Str} {k : Nat} {sp : Sp} (F : Fun K x qual st f fd) (S : aJ N ps (ai st)) (len : ∀ vs H Q E, sp vs H Q E → vs.length = ps.length)
  (hbody : ∀ (cdv : Value) (A : Around) (outer : List Env) (s : Shared) (H : Hp) (vs : List V) (Q : VK) (E : XK), aE k (A.deeper (envOfC qual (ai st) s.heap.objs.size f cdv)) → sp vs H Q E →
   ∃ t, PSs (bg CX P w K mg base N qual (ai st) f cdv A outer s H E).nox (aD st) t ∧ t { nx := fun _ H' => Q .non H', rt := Q } (aZ N vs) H) : bh P w K mg base CX (k + 1) f fd ps sp := by
 obtain ⟨oc, od, kV, doc, pm, an, cdv, ct, osl, rfl, lk, hcd⟩ := F.ex
 refine iO lk hcd S len fun A outer s H vs Q E hr hsp => ?_
 obtain ⟨t, h, q⟩ := hbody cdv A outer s H vs Q E hr hsp
 exact ⟨t, h.nox, q⟩
end L2
namespace L2
open PySem PySem.Spec PyProof.Rows
section
variable {X : Cx}
def kK : V → Option Int → Option Int → Hp → VK → Prop := fun x lo hi H Q => ∃ z, x = .str z ∧ z.length ≤ sizeLine ∧ Q (.str (Txt.slice z lo hi)) H
theorem ku : SlR X kK := by
  intro pins s σ H x v vl vu lo hi sl Q I rx hs pl pu h
  obtain ⟨z, rfl, hz, q⟩ := h
  obtain ⟨t, rfl⟩ := (show ∃ t, v = Value.str z t from rx)
  refine ⟨"str", _, F.slot_str_getitem.lookup, typeIs_str _ _ _, ?_⟩
  have fin : ∀ (l u : Option (Int × Tok)), l.map (·.1) = lo → u.map (·.1) = hi → s.heap.IsSlice sl l u none → wpAny (model X.prog X.w) X.A (getItem (.str z t) (.ref sl)) (EP X pins σ Q) X.xe s := fun l u e1 e2 hs' => by
    subst e1 e2
    refine wpAny_getItem_str_slice (l := l) (u := u) (st := none) hs' rfl (post_val_or_str ⟨Nat.le_trans (Txt.slice_le z _ _) hz, fun t' k => ⟨.str _, H, I.tok k, ⟨_, rfl⟩, q⟩⟩)
  obtain ⟨os, hos, hcs, hds⟩ := hs
  cases pl with
  | none => cases pu with
    | none => exact fin none none rfl rfl ⟨os, hos, hcs, hds⟩
    | int j tj => exact fin none (some (j, tj)) rfl rfl ⟨os, hos, hcs, hds⟩
  | int i ti => cases pu with
    | none => exact fin (some (i, ti)) none rfl rfl ⟨os, hos, hcs, hds⟩
    | int j tj => exact fin (some (i, ti)) (some (j, tj)) rfl rfl ⟨os, hos, hcs, hds⟩
def jZ (K : W.Frag) : V → Option Int → Option Int → Hp → VK → Prop := fun x lo hi H Q => jQ K x lo hi H Q ∨ kK x lo hi H Q
theorem ky : SlR X (jZ X.K) := kr.or ku
def dk : V → Bool
 | .int _ => true
 | .str _ => true
 | _ => false
theorem fT {A : Around} {s : Shared} {x y : V} {u v : Value} (rx : aw x u) (ry : aw y v) (hx : dk x = true) (hy : dk y = true) : PySem.SeqAt.EqAt A s u v (decide (x = y)) := by
 cases x <;> first | cases hx | skip
 all_goals (cases y <;> first | cases hy | skip)
 · obtain ⟨t, rfl⟩ := rx; obtain ⟨t', rfl⟩ := ry
   have e := PySem.SeqAt.EqAt.int_int (A := A) (s := s) ‹Int› t ‹Int› t'
   rename_i i j
   have e2 : decide (V.int i = V.int j) = (i == j) := by rw [cG (f := V.int) fun _ _ e => V.int.inj e]; rfl
   rw [e2]; exact PySem.SeqAt.EqAt.int_int i t j t'
 · obtain ⟨t, rfl⟩ := rx; obtain ⟨t', rfl⟩ := ry
   exact PySem.SeqAt.EqAt.int_str _ _ _ _
 · obtain ⟨t, rfl⟩ := rx; obtain ⟨t', rfl⟩ := ry
   exact PySem.SeqAt.EqAt.str_int _ _ _ _
 · obtain ⟨t, rfl⟩ := rx; obtain ⟨t', rfl⟩ := ry
   rename_i i j
   have e2 : decide (V.str i = V.str j) = (i == j) := by
    rw [cG (f := V.str) fun _ _ e => V.str.inj e]
    by_cases h : i = j
    · rw [h]; simp
    · rw [decide_eq_false h]; exact (beq_eq_false_iff_ne.mpr h).symm
   rw [e2]; exact PySem.SeqAt.EqAt.str_str i t j t'
theorem gt {xs ys : List V} : decide (xs = ys) = ((List.range (min xs.length ys.length)).all (fun j => decide (xs[j]? = ys[j]?)) && xs.length == ys.length) := by
 by_cases h : xs = ys
 · subst h; simp
 · rw [decide_eq_false h]
   by_cases hl : xs.length = ys.length
   · rw [hl, Nat.min_self, beq_self_eq_true, Bool.and_true]
     symm
     rw [List.all_eq_false]
     apply Classical.byContradiction
     intro hn
     apply h
     apply List.ext_getElem? fun i => ?_
     by_cases hi : i < ys.length
     · apply Classical.byContradiction
       intro hne
       exact hn ⟨i, List.mem_range.mpr hi, by simpa using hne⟩
     · rw [List.getElem?_eq_none (by omega), List.getElem?_eq_none (by omega)]
   · have : (xs.length == ys.length) = false := by simpa using hl
     rw [this, Bool.and_false]
def kA (K : W.Frag) : R2 := fun x y H Q => ∃ a b xs ys, x = .ref a ∧ y = .ref b ∧ SqT K H a xs ∧ SqT K H b ys ∧ xs.all dk = true ∧ ys.all dk = true ∧ Q (.bl (decide (xs = ys))) H
theorem kH (hu : X.A.units < cLine) : OpR X (compareOp .Eq) (kA X.K) := by
 intro pins s σ H x y v u Q I rx ry h
 obtain ⟨a, b, xs, ys, rfl, rfl, ha, hb, px, py, q⟩ := h
 cases rx
 cases ry
 obtain ⟨its, r1, p1, _⟩ := I.tuple ha
 obtain ⟨its2, r2, p2, _⟩ := I.tuple hb
 have l1 := r1.length
 have l2 := r2.length
 refine PySem.SeqAt.eq_tupleAt (e := fun j => decide (xs[j]? = ys[j]?)) p1 p2 hu (fun j h1 h2 => ?_) ?_
 · have h1 : j < its.length := by simpa using h1
   have h2 : j < its2.length := by simpa using h2
   have e1 : xs[j]? = some xs[j] := List.getElem?_eq_getElem (by omega)
   have e2 : ys[j]? = some ys[j] := List.getElem?_eq_getElem (by omega)
   obtain ⟨u1, g1, ru1⟩ := r1.get e1
   obtain ⟨u2, g2, ru2⟩ := r2.get e2
   have g1' : its.toArray[j] = u1 := by
    rw [List.getElem?_eq_getElem h1] at g1; simpa using Option.some.inj g1
   have g2' : its2.toArray[j] = u2 := by
    rw [List.getElem?_eq_getElem h2] at g2; simpa using Option.some.inj g2
   rw [g1', g2', e1, e2]
   have : decide (some xs[j] = some ys[j]) = decide (xs[j] = ys[j]) := by simp
   rw [this]
   exact fT ru1 ru2 (List.all_eq_true.mp px _ (List.getElem_mem _)) (List.all_eq_true.mp py _ (List.getElem_mem _))
 · have e := gt (xs := xs) (ys := ys)
   rw [l1, l2] at e
   simp only [List.size_toArray]
   rw [← e]
   exact ⟨.bl _, H, I, rfl, q⟩
end
end L2
namespace HT
open PySem PyProof.Rows
section
variable {prog : Program} {w : World} {A : Around} {E : Value → Shared → Prop} {s : Shared}
end
end HT
namespace HT
open PySem PyProof.Rows
section
variable {prog : Program} {w : World} {A : Around} {E : Value → Shared → Prop} {s : Shared}
end
end HT
namespace L2
open PySem PySem.Spec PyProof.Rows
section
variable {X : Cx} {pins : List (Addr × Obj)} {σ : St} {H : Hp} {s : Shared} {h' : Heap}
end
section
variable {X : Cx} {pins : List (Addr × Obj)} {σ : St} {H H1 : Hp} {s s0 : Shared} {a : Addr} {o : HO}
theorem Inv.track2 (I0 : Inv X pins σ H1 s0) (I : Inv X pins σ H s) (new : s0.heap.objs.size ≤ a) (hn : H a = none) (ok : aM X.prog X.w (upd H a o) s.heap a o) : Inv X pins σ (upd H a o) s := by
 have ne : ∀ b u, s0.heap.get? b = some u → b ≠ a := fun b u e => Nat.ne_of_lt (Nat.lt_of_lt_of_le (Heap.lt_size e) new)
 have ne0 : ∀ b u, X.s₀.heap.get? b = some u → b ≠ a := fun b u e => Nat.ne_of_lt (Nat.lt_of_lt_of_le (Heap.lt_size e) (Nat.le_trans I0.sz new))
 have nL : X.env.locals ≠ a := by
   obtain ⟨m, ⟨o', _, _, e, _⟩, _⟩ := I0.loc
   exact ne _ _ e
 refine ⟨I.ok, I.os, I.bare, ⟨I.base.keep, I.base.slot, fun b u e n hx => ?_, I.base.there, fun b xs e => ?_, fun b u v e => ?_, fun b ps e => ?_⟩, I.loc, I.cell, ?_, fun x c e => ?_, fun p hp => ?_, fun b u e => ?_, I.len⟩
 · rw [ak (ne0 b u e)]; exact I.base.free b u e n hx
 · have := I.base.tups b xs e
   rw [ak (al this hn)]; exact this
 · have := I.base.frzs b u v e
   rw [ak (al this hn)]; exact this
 · obtain ⟨more, this⟩ := I.base.tbls b ps e
   exact ⟨more, by rw [ak (al this hn)]; exact this⟩
 · rw [ak nL]; exact I.free
 · obtain ⟨v, o', e', _⟩ := I0.cell x c e
   rw [ak (ne _ _ e')]; exact I.freeC x c e
 · obtain ⟨h1, h2, h3⟩ := I.pin p hp
   exact ⟨h1, by rw [ak (ne _ _ (I0.pin p hp).1)]; exact h2, h3⟩
 · by_cases hb : b = a
   · subst hb
     rw [aj] at e; cases e
     exact ok
   · rw [ak hb] at e
     exact (I.hok b u e).stay (fun c v _ q => q) (fun c q => by
      have : c ≠ a := al q hn
      rw [ak this]; exact q) fun c xs q => by
      have : c ≠ a := al q hn
      rw [ak this]; exact q
end
end L2
namespace L2
open PySem PySem.Spec PyProof.Rows
section
variable {X : Cx} {a b : Expr} {t : TA} {p pos ep : Pos} {elts : List Expr} {ek : Nat}
end
end L2
namespace L2
open PySem PySem.Spec PyProof.Rows
section
variable {X : Cx} {a b : Expr} {t : TA} {p pos ep px py : Pos} {elts : List Expr} {ek : Nat} {x y : Str} {iter : Expr} {wi : TI} {tS : TS}
end
end L2
namespace L2
open PySem PySem.Spec PyProof.Rows
section
variable {X : Cx} {CX : CXT} {k : Nat} {f C : Addr} {fd : FuncData} {ps : List Str} {sp : Sp} {E : St → XK} {x m fl : Str} {p pos apos pos' : Pos} {e o value : Expr} {es : List Expr} {ta tv to : TE} {t : TA}
end
end L2
namespace L2
open PySem PySem.Spec PyProof.Rows
mutual
inductive bH (K : W.Frag) (H : Hp) : V → PyData → Prop
 | non : bH K H .non .none
 | bl (b) : bH K H (.bl b) (.bool b)
 | int (i) : bH K H (.int i) (.int i)
 | str (z) : bH K H (.str z) (.str z)
 | lst {a xs ds} : SqL K H a xs → DatVs K H xs ds → bH K H (.ref a) (.list ds)
 | tup {a xs ds} : SqT K H a xs → DatVs K H xs ds → bH K H (.ref a) (.tuple ds)
inductive DatVs (K : W.Frag) (H : Hp) : List V → List PyData → Prop
 | nil : DatVs K H [] []
 | cons {x xs d ds} : bH K H x d → DatVs K H xs ds → DatVs K H (x :: xs) (d :: ds)
end
section
variable {X : Cx}
mutual
theorem bD {pins : List (Addr × Obj)} {σ : St} {H : Hp} {s : Shared} (I : Inv X pins σ H s) : ∀ {x : V} {d : PyData}, bH X.K H x d → ∀ {v : Value}, aw x v → ∃ as, Reads s.heap v d as
  | _, _, .non, _, r => by cases r; exact ⟨_, .none⟩
  | _, _, .bl b, _, r => by cases r; exact ⟨_, .bool b⟩
  | _, _, .int i, _, r => by obtain ⟨t, rfl⟩ := r; exact ⟨_, .int i t⟩
  | _, _, .str z, _, r => by obtain ⟨t, rfl⟩ := r; exact ⟨_, .str z t⟩
  | _, _, .lst h hs, _, r => by
    cases r
    obtain ⟨its, r1, ⟨o, n, h1, h2, _, h3⟩, _⟩ := I.list h
    obtain ⟨as, ra⟩ := datVs_reads I hs r1
    exact ⟨_, .list h1 h2 h3 (by simpa using ra)⟩
  | _, _, .tup h hs, _, r => by
    cases r
    obtain ⟨its, r1, ⟨o, h1, h2, n, h3⟩, _⟩ := I.tuple h
    obtain ⟨as, ra⟩ := datVs_reads I hs r1
    exact ⟨_, .tuple h1 h2 h3 (by simpa using ra)⟩
theorem datVs_reads {pins : List (Addr × Obj)} {σ : St} {H : Hp} {s : Shared} (I : Inv X pins σ H s) : ∀ {xs : List V} {ds : List PyData}, DatVs X.K H xs ds → ∀ {vs : List Value}, au xs vs → ∃ as, ReadsAll s.heap vs ds as
  | _, _, .nil, _, r => by cases r; exact ⟨_, .nil⟩
  | _, _, .cons h hs, _, r => by
    cases r with
    | cons r1 r2 =>
      obtain ⟨as, a⟩ := bD I h r1
      obtain ⟨bs, b⟩ := datVs_reads I hs r2
      exact ⟨_, .cons a b⟩
end
def fJ (K : W.Frag) : R2 := fun x y H Q => ∃ d e, bH K H x d ∧ bH K H y e ∧ d.canLay0 = true ∧ e.canLay0 = true ∧ d.depth ≤ 150 ∧ Q (.bl (d.eqv e)) H
def hJ (K : W.Frag) : R2 := fun x y H Q => ∃ d e, bH K H x d ∧ bH K H y e ∧ d.canLay0 = true ∧ e.canLay0 = true ∧ d.depth ≤ 150 ∧ Q (.bl (!d.eqv e)) H
theorem kL (hu : X.A.units + 150 < cLine) : OpR X (compareOp .Eq) (fJ X.K) := by
 intro pins s σ H x y v u Q I rx ry h
 obtain ⟨d, e, hd, he, cd, ce, dp, q⟩ := h
 obtain ⟨as, ra⟩ := bD I hd rx
 obtain ⟨bs, rb⟩ := bD I he ry
 exact PySem.SeqAt.compareEq_reads ra rb cd ce (by have := Nat.min_le_left d.depth e.depth; omega) ⟨.bl _, H, I, rfl, q⟩
theorem kX (hu : X.A.units + 150 < cLine) : OpR X (compareOp .NotEq) (hJ X.K) := by
 intro pins s σ H x y v u Q I rx ry h
 obtain ⟨d, e, hd, he, cd, ce, dp, q⟩ := h
 obtain ⟨as, ra⟩ := bD I hd rx
 obtain ⟨bs, rb⟩ := bD I he ry
 exact PySem.SeqAt.compareNe_reads ra rb cd ce (by have := Nat.min_le_left d.depth e.depth; omega) ⟨.bl _, H, I, rfl, q⟩
theorem aE.units150 {k : Nat} {A : Around} (r : aE k A) : A.units + 150 < cLine := by have := r.un; omega
def df (K : W.Frag) : R2 := fun x y H Q => match x, y with
 | .ref a, y => hJ K (.ref a) y H Q
 | x, .ref b => hJ K x (.ref b) H Q
 | x, y => mNe x y H Q
theorem fL (hu : X.A.units + 150 < cLine) : OpR X (compareOp .NotEq) (df X.K) := ((kX hu).or oNe).imp fun x y H Q q => by
 unfold df at q
 split at q
 · exact .inl q
 · exact .inl q
 · exact .inr q
variable {o : Expr} {to : TE} {name : Str} {apos cpos : Pos} {T id : String} {rm : V → List V → Hp → VK → Prop}
end
end L2
namespace L2
open PySem PySem.Spec PyProof.Rows
theorem be {n : Nat} (h : n ≤ 1000000) : n ≤ sizeLine := by rw [sizeLine_eq]; omega
theorem gC (ns : List Int) (lo hi : Option Int) : ∃ zs : List Int, bT (ns.map V.int) lo hi = zs.map V.int ∧ zs.length ≤ ns.length := by
 refine ⟨(ns.drop (HT.sIx ns.length 0 lo)).take (HT.sIx ns.length ns.length hi - HT.sIx ns.length 0 lo), ?_, ?_⟩
 · unfold bT
   rw [List.length_map, List.map_take, List.map_drop]
 · rw [List.length_take, List.length_drop]; omega
end L2
namespace L2
open PySem PySem.Spec PyProof.Rows
section
variable {X : Cx}
theorem aE.units1 {k : Nat} {A : Around} (r : aE k A) : A.units + 1 < cLine := by have := r.un; omega
def kb : R2 := fun x y H Q => ∃ a v, x = .ref a ∧ gU H a y (some v) ∧ Q v H
theorem jJ (hu : X.A.units + 1 < cLine) : IxR X kb := by
 intro value slice pins s σ H x y v u Q I rx ry h hs
 obtain ⟨a, w0, rfl, g, q⟩ := h
 obtain rfl : v = Value.ref a := rx
 have hT := fm I g
 have h2 : wpAny (model X.prog X.w) X.A (getItem (.ref a) u) (EP X pins σ Q) X.xe s := gR hu I g ry fun w' s3 I3 rw' => ⟨w0, H, I3, rw', q⟩
 unfold subscriptTail
 refine wpAny_bind ?_
 rw [getitemInPython_of_ne hT.not_modules]
 refine wpAny_bind (wpAny_specialOf hT PySem.F.slot_dict_getitem.lookup ?_)
 have fin : wpAny (model X.prog X.w) X.A (subscripted slice false (.ref a) u) (fun r s₃ => wpAny (model X.prog X.w) X.A (letTemporaryGo value (.ref a) r >>= fun _ => pure r) (EP X pins σ Q) X.xe s₃) X.xe s := by
  rw [hs]
  exact wpAny_operating (wpAny_mono h2 (fun r s₃ h₃ => wpAny_bind (wpAny_letTemporaryGo (wpAny_pure h₃))) fun _ _ x => x)
 first
  | exact wpAny_pure (wpAny_bind fin)
  | exact wpAny_bind (wpAny_pure (wpAny_bind fin))
  | exact wpAny_bind fin
def gW (K : W.Frag) : R2 := fun x y H Q => rIx K x y H Q ∨ kb x y H Q
theorem kW (hu : X.A.units + 1 < cLine) : IxR X (gW X.K) := jX.or (jJ hu)
variable {o e : Expr} {to te : TE} {p pos : Pos}
end
end L2
namespace L2
open PySem PySem.Spec PyProof.Rows
theorem iA {h : Heap} {a : Addr} {its : Array Value} (p : PlainL h a its) : h.IsList a its := let ⟨o, n, e, c, _, d⟩ := p; ⟨o, e, c, n, d⟩
section
variable {X : Cx} {a b : Expr} {t : TA} {p pos ep : Pos} {elts : List Expr} {ek : Nat}
end
end L2
namespace L2
open PySem PySem.Spec PyProof.Rows
set_option genInjectivity false in
set_option genSizeOf false in
structure ig where
 qual : Str
 body : FuncBody
 scope : Scope
 ps : List Str
 ys : List Str
section
variable {P : Program} {w : World} {fs : List Addr} {H H' : Hp} {h h' : Heap} {cs : List Addr} {cvs : List V}
end
end L2
namespace L2
open PySem PySem.Spec PyProof.Rows
section
variable {P : Program} {w : World} {K : W.Frag} {mg : Str → Option Value} {base : Heap} {N ps ys : List Str} {qual : Str} {scope : Scope} {f c : Addr} {A : Around} {outer : List Env} {s : Shared} {H : Hp} {E : XK} {us : List Value} {vs cvs : List V} {cs : List Addr} {h1 : Heap} {tk : Nat}
end
section
variable {P : Program} {w : World} {K : W.Frag} {mg : Str → Option Value} {base : Heap} {k : Nat} {t : ig} {N : List Str} {sp : Sp}
end
end L2
namespace L2
open PySem PySem.Spec PyProof.Rows
def BM (mg : Str → Option Value) (h : Heap) : Prop := ∃ bm ob, mg "__builtins__" = some (.ref bm) ∧ bm ≠ builtinsNs ∧ h.get? bm = some ob ∧ ob.cls = .type "module" ∧ ob.dict = some builtinsNs ∧ ob.data = .plain
section
variable {X : Cx} {pins : List (Addr × Obj)} {σ : St} {H : Hp} {s : Shared} {P c : Addr} {ps : Array Value} {t : ig} {cs : List Addr} {h' : Heap} {tk : Nat} {fd : FuncData}
end
section
variable {X : Cx} {c0 P : Addr} {params : Arguments} {scope : Scope} {pos : Pos} {t : ig} {cs : List Addr}
end
section
variable {X : Cx} {k : Nat} {E : St → XK} {x : Str} {p pos : Pos} {e : Expr} {es : List Expr} {ta : TE}
end
end L2
namespace L2
open PySem PySem.Spec PyProof.Rows
structure lL where
 nx : St → Hp → Prop
 rt : St → VK
abbrev TSM := lL → St → Hp → Prop
section
variable {X : Cx} {st : Stmt} {sts l m : List Stmt} {t u : TSM} {tS : TS} {e c : Expr} {te : TE} {tc : TT} {pos : Pos}
end
end L2
namespace L2
open PySem PySem.Spec PyProof.Rows
theorem gs {P : Program} {w : World} {K : W.Frag} {mg mb : Str → Option Value} {CX : CXT} {k : Nat} {fa a : Addr} {fd : FuncData} {x : Str} {sp : Sp} {s₁ : Shared} {vs : List Value} {ns : List Int} {tabs : List (Addr × Addr)}
    (KX : K.In s₁.heap) (hns : s₁.heap.Ns mainGlobals mg) (hb : s₁.heap.Ns builtinsNs mb) (hbb : ∀ x : Str, x ≠ "__name__" → mb x = bootBuiltins x) (hlim : s₁.heap.NoLimit) (hg : s₁.gens = #[]) (hB : BM mg s₁.heap)
    (hT : ∀ q ∈ tabs, W.CodeHd s₁.heap q.1 q.2 ∧ s₁.heap.get? q.2 = some (W.tabObj #[])) (hKT : W.noTabs K = true)
    (ha : s₁.heap.get? a = some { cls := .type "list", data := .seq vs.toArray }) (hi : IntsAre vs ns) (hl : ns.length ≤ sizeLine) (hr : aE k callerA)
    (F : ∀ base : Heap, K.In base → base.Ns mainGlobals mg → BM mg base → (∀ q ∈ tabs, W.CodeHd base q.1 q.2) → bh P w K mg base CX k fa fd [x] sp) (hbind : ∀ (s : Shared) (u : Value), BindsTo s fd ⟨[u], []⟩ [(x, u)])
    (hsp : ∀ H : Hp, (∀ q ∈ tabs, H q.2 = some (.tbl #[])) → SqL K H a (ns.map V.int) → sp [.ref a] H (fun v _ => v = .bl true) fun _ _ _ => False)
    (hCX : ∀ H e s', CX [] H s₁ (fun _ _ _ => False) e s' → False) :
    codeAny (model P w) callerA (.call (.ref fa) ⟨[.ref a], []⟩) (fun r s' => r = .ok (.ret (.bool true)) ∧ OldK s₁.heap s'.heap ∧ s'.os = s₁.os ∧ AllBare s'.gens) s₁ := by
  have rv := el hi
  have lenV := hi.length
  have tabK : ∀ q ∈ tabs, K.lookup q.2 = none := fun q hq => by
    cases e : K.lookup q.2 with
    | none => rfl
    | some o =>
      have e2 := KX _ _ e
      rw [(hT q hq).2] at e2; cases e2
      have := List.all_eq_true.mp hKT _ (W.mem_of_lookupK e)
      exact absurd (show false = true from this) Bool.false_ne_true
  have tabA : ∀ q ∈ tabs, q.2 ≠ a := fun q hq e => by
    have e2 := (hT q hq).2
    rw [e, ha] at e2; cases e2
  have core : ∀ H : Hp, (∀ q ∈ tabs, H q.2 = some (.tbl #[])) → SqL K H a (ns.map V.int) → HOk P w H s₁.heap → (∀ b, H b ≠ none → (b = a ∧ ∃ o xs, H b = some (.frz o (.lst xs))) ∨ ∃ q ∈ tabs, q.2 = b) → (∀ b, H b ≠ none → K.lookup b = none) →
      codeAny (model P w) callerA (.call (.ref fa) ⟨[.ref a], []⟩) (fun r s' => r = .ok (.ret (.bool true)) ∧ OldK s₁.heap s'.heap ∧ s'.os = s₁.os ∧ AllBare s'.gens) s₁ := by
    intro H hO hS hok hA hK
    have base_of : ∀ {b : Addr} {o : Obj}, s₁.heap.get? b = some o → H b = none → (bR s₁.heap H).get? b = some o := fun e n => io e n
    have noA : ∀ {b : Addr} {o : Obj}, s₁.heap.get? b = some o → o.cls ≠ .none → o.cls ≠ .type "list" → H b = none := fun {b o} e c1 c2 => by
      cases q : H b with
      | none => rfl
      | some u =>
        rcases hA b (by rw [q]; simp) with ⟨rfl, _⟩ | ⟨p, hp, rfl⟩
        · rw [ha] at e; cases e; exact absurd rfl c2
        · rw [(hT p hp).2] at e; cases e; exact absurd rfl c1
    have noD : ∀ {b : Addr} {o : Obj} {es : Array DictEntry} {ep : Nat}, s₁.heap.get? b = some o → o.data = .dict es ep → H b = none := fun {b o es ep} e d => by
      cases q : H b with
      | none => rfl
      | some u =>
        rcases hA b (by rw [q]; simp) with ⟨rfl, _⟩ | ⟨p, hp, rfl⟩
        · rw [ha] at e; cases e; cases d
        · rw [(hT p hp).2] at e; cases e; cases d
    have nsK : ∀ {b : Addr} {m : Str → Option Value}, s₁.heap.Ns b m → (bR s₁.heap H).Ns b m := fun {b m} ⟨o, es, ep, e, d, r⟩ => ⟨o, es, ep, base_of e (noD e d), d, r⟩
    have hKb : K.In (bR s₁.heap H) := fun b o e => base_of (KX b o e) (by
      cases q : H b with
      | none => rfl
      | some u => rw [hK b (by rw [q]; simp)] at e; cases e)
    have hBb : BM mg (bR s₁.heap H) := by
      obtain ⟨bm, ob, b1, b2, b3, b4, b5, b6⟩ := hB
      exact ⟨bm, ob, b1, b2, base_of b3 (noA b3 (by rw [b4]; intro z; cases z) (by rw [b4]; intro z; exact absurd (Value.type.inj z) (by decide))), b4, b5, b6⟩
    have hCb : ∀ q ∈ tabs, W.CodeHd (bR s₁.heap H) q.1 q.2 := fun q hq => by
      obtain ⟨o, vs, file, tf, flags, tg, inF, text, tt, e1, e2, r⟩ := (hT q hq).1
      exact ⟨o, vs, file, tf, flags, tg, inF, text, tt, base_of e1 (noA e1 (by rw [e2]; intro z; cases z) (by rw [e2]; intro z; exact absurd (Value.type.inj z) (by decide))), e2, r⟩
    have hM : Mod K mg (bR s₁.heap H) := ⟨hKb, nsK hns, ⟨mb, nsK hb, hbb⟩, let ⟨mc, h1, h2⟩ := hlim; ⟨mc, nsK h1, h2⟩⟩
    have e0 : cB P w K mg (bR s₁.heap H) callerA [] s₁ H := ⟨rfl, hM, fun b o e => jg e, Nat.le_of_eq (gy _ _), trivial, fun b hb => absurd (show b ∈ ([] : List Addr) from hb) (by simp), hok, .of_eq hg⟩
    refine codeAny_mono ((F _ hKb (nsK hns) hBb hCb).run callerA [] s₁ H ⟨[.ref a], []⟩ [.ref a] [.ref a] _ _ hr e0 (hbind s₁ (.ref a)) (.cons rfl .nil) (hsp H hO hS)) fun r s' h => ?_
    cases r with
    | error e => exact (hCX H e s' h).elim
    | ok fl =>
      cases fl with
      | next => exact False.elim h
      | brk => exact False.elim h
      | cont => exact False.elim h
      | ret u =>
        obtain ⟨v, H', os, bare, un, hok', r', q⟩ := h
        have q' : v = .bl true := q
        subst q'
        obtain rfl : u = Value.bool true := r'
        have all : ∀ b o, s₁.heap.get? b = some o → s'.heap.get? b = some o ∨ ∃ q ∈ tabs, q.2 = b ∧ ∃ more, s'.heap.get? b = some (W.tabObj more) := fun b o e => by
          cases q : H b with
          | none => exact .inl (un.keep b o e q (by intro z; exact absurd (show b ∈ ([] : List Addr) from z) (by simp)) (by simp))
          | some u =>
            rcases hA b (by rw [q]; simp) with ⟨rfl, ob, xs, z⟩ | ⟨p, hp, rfl⟩
            · have z2 := un.frzs b ob _ z
              obtain ⟨e1, _⟩ := hok b _ z
              obtain ⟨e2, _⟩ := hok' b _ z2
              rw [e] at e1; cases e1
              exact .inl e2
            · obtain ⟨more, z2⟩ := un.tbls p.2 _ (hO p hp)
              exact .inr ⟨p, hp, rfl, _, hok' p.2 _ z2⟩
        refine ⟨rfl, ⟨fun b o e => ?_, fun b o e => ?_⟩, os, bare⟩
        · rcases all b o e with z | ⟨p, hp, rfl, more, z⟩
          · exact .inl z
          · have e2 := (hT p hp).2
            rw [e] at e2; cases e2
            exact .inr (.inl ⟨((hT p hp).1.tab (hT p hp).2).isCodeTable, rfl, #[], more, rfl, by rw [Array.empty_append]; exact z⟩)
        · rcases all b o e with z | ⟨p, hp, rfl, more, z⟩
          · exact ⟨_, z⟩
          · exact ⟨_, z⟩
  cases hk : K.lookup a with
  | some o =>
    have e := KX a o hk
    rw [ha] at e
    cases e
    refine core (fun b => if b ∈ tabs.map (·.2) then some (.tbl #[]) else none) (fun q hq => if_pos (List.mem_map.mpr ⟨q, hq, rfl⟩)) (.inr ⟨_, vs.toArray, _, hk, rfl, rfl, rfl, by rw [List.size_toArray, lenV]; exact hl, by simpa using rv⟩) (fun b u z => ?_) (fun b z => ?_) fun b z => ?_
    · by_cases hb : b ∈ tabs.map (·.2)
      · have z' := (if_pos hb).symm.trans z
        cases z'
        obtain ⟨q, hq, rfl⟩ := List.mem_map.mp hb
        exact (hT q hq).2
      · have z' := (if_neg hb).symm.trans z
        cases z'
    · by_cases hb : b ∈ tabs.map (·.2)
      · obtain ⟨q, hq, e⟩ := List.mem_map.mp hb
        exact .inr ⟨q, hq, e⟩
      · exact absurd (if_neg hb) z
    · by_cases hb : b ∈ tabs.map (·.2)
      · obtain ⟨q, hq, rfl⟩ := List.mem_map.mp hb
        exact tabK q hq
      · exact absurd (if_neg hb) z
  | none =>
    refine core (fun b => if b = a then some (.frz { cls := .type "list", data := .seq vs.toArray } (.lst (ns.map V.int))) else if b ∈ tabs.map (·.2) then some (.tbl #[]) else none)
      (fun q hq => by show (if q.2 = a then _ else _) = _; rw [if_neg (tabA q hq), if_pos (List.mem_map.mpr ⟨q, hq, rfl⟩)]) (.inl (.inr ⟨{ cls := .type "list", data := .seq vs.toArray }, if_pos rfl⟩)) (fun b u z => ?_) (fun b z => ?_) fun b z => ?_
    · by_cases hb : b = a
      · have z' := (if_pos hb).symm.trans z
        cases z'
        subst hb
        exact ⟨ha, by rw [List.length_map]; exact hl, vs, _, rv, ha⟩
      · have z' : (if b ∈ tabs.map (·.2) then some (HO.tbl #[]) else none) = some u := (if_neg hb).symm.trans z
        by_cases hb2 : b ∈ tabs.map (·.2)
        · rw [if_pos hb2] at z'; cases z'
          obtain ⟨q, hq, rfl⟩ := List.mem_map.mp hb2
          exact (hT q hq).2
        · rw [if_neg hb2] at z'; cases z'
    · by_cases hb : b = a
      · exact .inl ⟨hb, _, _, if_pos hb⟩
      · by_cases hb2 : b ∈ tabs.map (·.2)
        · obtain ⟨q, hq, e⟩ := List.mem_map.mp hb2
          exact .inr ⟨q, hq, e⟩
        · exact absurd ((if_neg hb).trans (if_neg hb2)) z
    · by_cases hb : b = a
      · rw [hb]; exact hk
      · by_cases hb2 : b ∈ tabs.map (·.2)
        · obtain ⟨q, hq, rfl⟩ := List.mem_map.mp hb2
          exact tabK q hq
        · exact absurd ((if_neg hb).trans (if_neg hb2)) z
theorem iC {l : W.OpenLaw} {n k : Nat} {q : Program} {loose : List Str} {XP : (Str → Option Value) → Heap → Prop} {YP : World → Heap → Prop} {d : DefRec} {K : Params → W.Frag} {CX : World → CXT} {x : Str} {names : List Str}
  (hn : l.most = some n) (hn2 : n ≤ sizeLine) (hdf : d.params.defaults = []) (hr : aE k callerA)
  (hY : ∀ (w : World) (h : Heap), YP w h → (K w.params).In h)
  (hq : ∀ y ∈ names, ((PyProof.Rows.recsOf q).find? fun e => e.name == y).isSome = true)
  (F : ∀ (w : World) (mg : Str → Option Value) (fa : Addr) (h : Heap), (K w.params).In h → h.Ns mainGlobals mg → mg d.name = some (.ref fa) →
   ∃ (fd : FuncData) (tabs : List (Addr × Addr)) (sp : Sp), (∀ (s : Shared) (u : Value), BindsTo s fd ⟨[u], []⟩ [(x, u)]) ∧ W.noTabs (K w.params) = true ∧ (∀ t ∈ tabs, ∃ y ∈ names, W.tabIn (K w.params) y = some t) ∧
    (∀ base : Heap, (K w.params).In base → base.Ns mainGlobals mg → BM mg base → (∀ t ∈ tabs, W.CodeHd base t.1 t.2) → bh l.prog w (K w.params) mg base (CX w) k fa fd [x] sp) ∧
    ∀ (H : Hp) (a : Addr) (ns : List Int), ns.length ≤ n → (∀ t ∈ tabs, H t.2 = some (.tbl #[])) → SqL (K w.params) H a (ns.map V.int) → sp [.ref a] H (fun v _ => v = .bl true) fun _ _ _ => False)
  (hCX : ∀ (w : World) (H : Hp) (s : Shared) (e : Value) (s' : Shared), CX w [] H s (fun _ _ _ => False) e s' → False) :
  W.WalkO q loose XP YP l.row.toRowW d [] (fun f vs => PySem.call f vs) := by
 refine Att.attach_call hn hdf fun w s₀ s₁ mg mb fa o pm cd doc a vs ns G Y ho hd hcd hmg hobj hints hlen hg => ?_
 have KX := hY w _ Y
 obtain ⟨fd, tabs, sp, hb, hKT, htabs, hF, hsp⟩ := F w mg fa _ KX G.T.g hmg
 refine gs (tabs := tabs) KX G.T.g G.T.b G.T.builtins G.T.nolimit hg G.T.bmain (fun t ht => ?_) hKT hobj hints (Nat.le_trans hlen hn2) hr hF hb (fun H hO hS => hsp H a ns hlen hO hS) fun H e s' => hCX w H s₁ e s'
 obtain ⟨y, hy, e⟩ := htabs t ht
 obtain ⟨dd, hdd⟩ := Option.isSome_iff_exists.mp (hq y hy)
 exact W.tab_of G.T KX hdd e
end L2
namespace L2
open PySem PySem.Spec PyProof.Rows
section
variable {X : Cx}
def Its (z : Str) : It := ⟨fun i _ => i < z.length, fun i H x H' => H' = H ∧ ∃ c, z.cps[i]? = some c ∧ x = .str ⟨#[c]⟩, fun i _ => z.length ≤ i⟩
theorem iz {P : Program} {w : World} {K : W.Frag} {tg : Expr} (z : Str) (t : Tok) (it : Addr) : eT P w K tg (Its z) [it] it (fun i h => h.IsStrIter it "str_ascii_iterator" z t i) where
 mem := by simp
 obj := fun i h st b hb => by
  have e : b = it := by simpa using hb
  subst e
  obtain ⟨o, e, c, d⟩ := st
  exact ⟨o, e, fun v z => by rw [d] at z; cases z⟩
 keep := fun i h h' st k => let ⟨o, ho, r⟩ := st; ⟨o, k it (by simp) o ho, r⟩
 item := by
  intro X hP hw hK hc i pins s σ H E I hf st hg
  subst hP hw hK
  obtain ⟨f0, f1, f2, f3, f4, f5⟩ := hf it (by simp)
  have hi : i < z.cps.size := hg
  refine wpAny_pyNext_ascii_item st (c := z.cps[i]) (Array.getElem?_eq_getElem hi) fun h' st' sb => ?_
  have I1 : Inv X pins σ H { s with heap := h', toks := s.toks + 1 } := I.turned (t' := s.toks + 1) (fun b o hb e => (sb.2 b hb).trans e) f0 f1 f3 f4 f5
  obtain ⟨o, e, c, d⟩ := id st'
  exact ⟨_, rfl, dy (s := { s with heap := h', toks := s.toks + 1 }) e c d (by decide) ⟨.str ⟨#[z.cps[i]]⟩, H, I1, ⟨_, rfl⟩, ⟨rfl, _, Array.getElem?_eq_getElem hi, rfl⟩, st', fun b hb => (hf b hb).1⟩⟩
 done := by
  intro X hP hw hK hc i pins s σ H E I hf st hg
  subst hP hw hK
  obtain ⟨f0, f1, f2, f3, f4, f5⟩ := hf it (by simp)
  exact wpAny_pyNext_ascii_end (I.ok.hd hc) st (Array.getElem?_eq_none (show z.cps.size ≤ i from hg)) fun h' eb => ⟨rfl, I.turned (t' := s.toks) (fun b o hb e => eb b o hb e) f0 f1 f3 f4 f5⟩
 self := fun A i s Q E st h => by
  refine wpAny_pyIter_slot st.typeIs F.slot_str_ascii_iterator_iter (wpAny_call_entry F.slot_str_ascii_iterator_iter st.typeIs F.entry_str_ascii_iterator_iter ?_ (F.args_str_ascii_iterator_iter_1 _))
  show wpAny _ _ (ret (.ref it)) _ _ s
  exact wpAny_pure ⟨_, rfl, "str_ascii_iterator", _, st.typeIs, F.slot_str_ascii_iterator_next.lookup, h⟩
variable {a : Expr} {ta : TE} {tg : Expr}
def iJ (K : W.Frag) (tl : TE) : TI := fun σ H R => tl σ H fun x H1 => match x with
 | .str z => z.cps.all (· < 128) = true ∧ R (Its z) H1
 | x => ∃ a, x = .ref a ∧ (((∃ xs, SqL K H1 a xs) ∧ R (Itl K a) H1) ∨ ((∃ xs, SqT K H1 a xs) ∧ R (Itt K a) H1))
theorem jR (h : QE X a ta) : QI X tg a (iJ X.K ta) := ⟨fun pins s σ H R I hw => by
  refine thn (h.out pins s σ H _ I hw) fun v s1 ⟨x, H1, I1, r1, q1⟩ => ?_
  cases x with
  | str z =>
    obtain ⟨t, rfl⟩ := r1
    refine wpAny_pyIter_ascii q1.1 ?_
    refine ⟨s1.heap.objs.size, [s1.heap.objs.size], _, _, H1, rfl, I1.kept (t' := s1.toks) fun b o e => Heap.get?_push_of_some _ e, iz z t _, ⟨_, Heap.get?_push_size _ rfl, rfl, rfl⟩, fun b hb => ?_, q1.2⟩
    have e : b = s1.heap.objs.size := by simpa using hb
    subst e
    exact I1.fpOk (Nat.le_refl _) (I1.hok.fresh (Nat.le_refl _))
  | ref c =>
    obtain ⟨a, e, q⟩ := q1
    cases e
    cases r1
    rcases q with ⟨⟨xs, hq⟩, q⟩ | ⟨⟨xs, hq⟩, q⟩
    · obtain ⟨its, rv, p, hz⟩ := I1.list hq
      refine wpAny_pyIter_list (iA p) ?_
      refine ⟨s1.heap.objs.size, [s1.heap.objs.size], _, _, H1, rfl, I1.kept (t' := s1.toks) fun b o e => Heap.get?_push_of_some _ e, gK _ _, ⟨_, Heap.get?_push_size _ rfl, rfl, rfl⟩, fun b hb => ?_, q⟩
      have e : b = s1.heap.objs.size := by simpa using hb
      subst e
      exact I1.fpOk (Nat.le_refl _) (I1.hok.fresh (Nat.le_refl _))
    · obtain ⟨its, rv, p, hz⟩ := I1.tuple hq
      refine wpAny_pyIter_tuple (show s1.heap.IsTuple c its.toArray from p) ?_
      refine ⟨s1.heap.objs.size, [s1.heap.objs.size], _, _, H1, rfl, I1.kept (t' := s1.toks) fun b o e => Heap.get?_push_of_some _ e, fY _ _, ⟨_, Heap.get?_push_size _ rfl, rfl, rfl⟩, fun b hb => ?_, q⟩
      have e : b = s1.heap.objs.size := by simpa using hb
      subst e
      exact I1.fpOk (Nat.le_refl _) (I1.hok.fresh (Nat.le_refl _))
  | _ => obtain ⟨_, e, _⟩ := q1; cases e⟩
end
end L2
namespace L2
open PySem PySem.Spec PyProof.Rows
theorem jw {α β : Type} {f : α → β} {l : List α} {i : Nat} {x : β} (h : (l.map f)[i]? = some x) : ∃ a, l[i]? = some a ∧ x = f a := by
 rw [List.getElem?_map] at h
 cases e : l[i]? with
 | none => rw [e] at h; cases h
 | some a => rw [e] at h; cases h; exact ⟨a, rfl, rfl⟩
theorem ixL {K : W.Frag} {H : Hp} {Q : VK} {L : Addr} {xs : List V} {x : V} {i : Int} {j : Nat} (hL : H L = some (.lst xs)) (e : i = j) (hx : xs[j]? = some x) (q : Q x H) : gW K (.ref L) (.int i) H Q := by
 subst e
 refine .inl (.inl ⟨L, xs, j, x, rfl, rfl, SqL.of hL, ?_, q⟩)
 have hj := (List.getElem?_eq_some_iff.mp hx).1
 rw [jN (by omega) (by omega)]
 simp [List.getD_eq_getElem?_getD, hx]
def ej (K : W.Frag) (ns : List Str) : Bool := decide ((ns.map fun n => (W.tabIn K n).map (·.2)).Nodup)
theorem ix {l : List Addr} (h : (l.map some).Nodup) : l.Nodup := List.Pairwise.of_map some (fun a b h e => h (congrArg some e)) h
end L2
namespace HT
open PySem PyProof.Rows
end HT
namespace L2
open PySem PySem.Spec PyProof.Rows
section
variable {X : Cx}
end
end L2
namespace L2
open PySem PySem.Spec PyProof.Rows
end L2
namespace L2
open PySem PySem.Spec PyProof.Rows
section
variable {X : Cx}
end
end L2
namespace HT
open PySem PyProof.Rows
theorem sub_tuple_dict : isSubtype (.type "tuple") (.type "dict") = pure false := by rw [isSubtype_type]; kernel_rfl
theorem dF : isSubtype (.type "dict") (.type "tuple") = pure false := by rw [isSubtype_type]; kernel_rfl
theorem gj (l b : Addr) (o : Obj) (hc : o.cls = .type "dict") (o2 : Obj) (hc2 : o2.cls = .type "tuple") :
  Meets (Builtin.«dict.__eq__» ⟨[.ref l, .ref b], []⟩) (fun _ R s => s.heap.get? l = some o ∧ s.heap.get? b = some o2 ∧ R (.ok (.ret .notImplemented)) s) :=
 .of_wp fun prog w A R s h => by
  obtain ⟨hp, g, d, tk, os⟩ := s; obtain ⟨hl, hb, h⟩ := h; obtain ⟨cls, dd, data, sl⟩ := o; obtain ⟨cls2, dd2, data2, sl2⟩ := o2
  simp only at hc hc2; subst hc hc2
  have f1 := sub_tuple_dict; wp_walk using wpAny_loadPart' hl, wpAny_loadPart' hb; exact ⟨_, rfl, h⟩
theorem eZ (l b : Addr) (o : Obj) (hc : o.cls = .type "tuple") (o2 : Obj) (hc2 : o2.cls = .type "dict") :
  Meets (Builtin.«tuple.__eq__» ⟨[.ref l, .ref b], []⟩) (fun _ R s => s.heap.get? l = some o ∧ s.heap.get? b = some o2 ∧ R (.ok (.ret .notImplemented)) s) :=
 .of_wp fun prog w A R s h => by
  obtain ⟨hp, g, d, tk, os⟩ := s; obtain ⟨hl, hb, h⟩ := h; obtain ⟨cls, dd, data, sl⟩ := o; obtain ⟨cls2, dd2, data2, sl2⟩ := o2
  simp only at hc hc2; subst hc hc2
  have f1 := dF; wp_walk using wpAny_loadPart' hl, wpAny_loadPart' hb; exact ⟨_, rfl, h⟩
end HT
namespace L2
open PySem PySem.Spec PyProof.Rows
section
variable {X : Cx}
def iV (K : W.Frag) : R2 := fun x y H Q => ∃ a b ys, x = .ref a ∧ y = .ref b ∧ ((∃ kvs, H a = some (.dK kvs)) ∨ ∃ kvs, H a = some (.dT kvs)) ∧ SqT K H b ys ∧ Q (.bl false) H
theorem iX (hu : X.A.units < cLine) : OpR X (compareOp .Eq) (iV X.K) := by
 intro pins s σ H x y v u Q I rx ry h
 obtain ⟨a, b, ys, rfl, rfl, ha, hb, q⟩ := h
 cases rx
 cases ry
 obtain ⟨its, _, p1, _⟩ := I.tuple hb
 obtain ⟨o2, ho2, hc2, _⟩ := id p1
 obtain ⟨o, ho, hc⟩ : ∃ o, s.heap.get? a = some o ∧ o.cls = .type "dict" := by
  rcases ha with ⟨kvs, e⟩ | ⟨kvs, e⟩
  · obtain ⟨_, _, _, _, o, _, _, h1, h2, _⟩ := (show aM X.prog X.w H s.heap a (.dK kvs) from I.hok a _ e)
    exact ⟨o, h1, h2.1⟩
  · obtain ⟨_, _, _, _, o, _, _, h1, h2, _⟩ := (show aM X.prog X.w H s.heap a (.dT kvs) from I.hok a _ e)
    exact ⟨o, h1, h2.1⟩
 have hne : a ≠ b := fun e => by
  subst e
  rw [ho] at ho2; cases ho2
  rw [hc] at hc2; exact absurd hc2 (by simp)
 show wpAny _ _ (richCompare .Eq (.ref a) (.ref b)) _ _ s
 exact SeqAt.rc_eq_decline_or (k := false) ⟨_, ho, hc⟩ ⟨_, ho2, hc2⟩ (by decide) F.sub_tuple_dict F.slot_dict_eq F.slot_tuple_eq_refl
  (fun _ hq => call_meets F.slot_dict_eq ⟨_, ho, hc⟩ F.entry_dict_eq (F.args_dict_eq_2 _ _) (HT.gj a b o hc o2 hc2) ⟨ho, ho2, hq⟩)
  (fun _ hq => call_meets F.slot_tuple_eq_refl ⟨_, ho2, hc2⟩ F.entry_tuple_eq (F.args_tuple_eq_2 _ _) (HT.eZ b a o2 hc2 o hc) ⟨ho2, ho, hq⟩)
  (fun _ hq => wpAny_isSame_ref_other hne ho ho2 (by rw [hc]; simp) hq) (.inr hu) ⟨.bl false, H, I, rfl, q⟩
def ba (K : W.Frag) : R2 := fun x y H Q => match x, y with
 | .ref a, .ref b => kA K (.ref a) (.ref b) H Q ∨ fJ K (.ref a) (.ref b) H Q ∨ iV K (.ref a) (.ref b) H Q
 | .ref a, y => fJ K (.ref a) y H Q
 | x, .ref b => fJ K x (.ref b) H Q
 | x, y => mEq x y H Q
theorem bo (hu : X.A.units + 150 < cLine) : OpR X (compareOp .Eq) (ba X.K) := ((kH (by omega)).or ((kL hu).or ((iX (by omega)).or oEq))).imp fun x y H Q q => by
 unfold ba at q
 split at q
 · exact q.elim .inl fun z => z.elim (fun z => .inr (.inl z)) fun z => .inr (.inr (.inl z))
 · exact .inr (.inl q)
 · exact .inr (.inl q)
 · exact .inr (.inr (.inr q))
end
end L2
namespace HT
open PySem PyProof.Rows
section
variable {prog : Program} {w : World} {A : Around} {E : Value → Shared → Prop} {s : Shared}
end
end HT
namespace L2
open PySem PySem.Spec PyProof.Rows
section
variable {X : Cx} {a : Expr} {t : TA} {p pos : Pos} {tg : Expr}
theorem gX : OpR X (binaryOp .FloorDiv) (rI (fun _ j => 0 < j ∧ j < 1267650600228229401496703205376) fun i j => .int (i / j)) := opI fun i j _ _ _ _ _ hc q => by
 have h1 : (0 : Int) < j := hc.1
 have h2 : j < 1267650600228229401496703205376 := hc.2
 have h3 : j.natAbs.log2 < 100 := (Nat.log2_lt (by omega)).mpr (Nat.lt_of_lt_of_eq (m := 1267650600228229401496703205376) (by omega) (by decide))
 exact floordiv_int (by omega) (by rw [Int.fdiv_eq_ediv_of_nonneg i (by omega)]; exact q) (.inl (PyProof.noPylong_of_log2 (by omega)))
def eX : R2 := fun x y H Q => match x, y with | .int i, .int j => (0 < j ∧ j < 1267650600228229401496703205376) ∧ Q (.int (i / j)) H | _, _ => False
theorem kU : OpR X (binaryOp .FloorDiv) eX := gX.imp fun x y H Q q => by
 unfold eX at q
 split at q
 · exact ⟨_, _, rfl, rfl, q.1, q.2⟩
 · exact q.elim
end
end L2
namespace L2
open PySem PySem.Spec PyProof.Rows
section
variable {X : Cx}
end
section
variable {α : Type} {l : List α}
theorem ln (h : l.length = 0) : l = [] := List.length_eq_zero_iff.mp h
theorem iS (h : l.length = 1) : ∃ a0, l = [a0] := by
  cases l with
  | nil => simp at h
  | cons a l =>
    obtain rfl := ln (l := l) (by simpa using h)
    exact ⟨a, rfl⟩
theorem iU (h : l.length = 2) : ∃ a0 a1, l = [a0, a1] := by
  cases l with
  | nil => simp at h
  | cons a l =>
    obtain ⟨b0, rfl⟩ := iS (l := l) (by simpa using h)
    exact ⟨a, b0, rfl⟩
theorem lq (h : l.length = 3) : ∃ a0 a1 a2, l = [a0, a1, a2] := by
  cases l with
  | nil => simp at h
  | cons a l =>
    obtain ⟨b0, b1, rfl⟩ := iU (l := l) (by simpa using h)
    exact ⟨a, b0, b1, rfl⟩
end
end L2
namespace L2
open PySem PySem.Spec PyProof.Rows
section
variable {X : Cx}
end
end L2
namespace L2
open PySem PySem.Spec PyProof.Rows
end L2
namespace L2
open PySem PySem.Spec PyProof.Rows
section
variable {X : Cx} {pos ep px py pz : Pos} {ek : Nat} {x y z : Str} {iter : Expr} {wi : TI} {tS : TS}
end
end L2
namespace L2
open PySem PySem.Spec PyProof.Rows
theorem aE.le {A : Around} {m n : Nat} (h : aE m A) (d : n ≤ m := by first | decide | omega) : aE n A := h.mono d
theorem scF {N P : List Str} {sc : Scope} (h1 : sc.kind = .function := by rfl) (h2 : sc.isCoroutine = false := by rfl) (h3 : sc.isGenerator = false := by rfl) (h4 : N.Nodup := by decide +kernel) (h5 : N.take P.length = P := by rfl)
 (h6 : ∀ x ∈ P, sc.names.lookup x = some .local ∨ sc.names.lookup x = some .cell := by decide +kernel) (h7 : ∀ y ∈ sc.names, y.2 ≠ .free := by decide +kernel) : aJ N P sc := ⟨h1, h2, h3, h4, h5, h6, h7⟩
structure Fm (K : W.Frag) (mg : Str → Option Value) (x qual : Str) (st : Stmt) (a : Addr) (d : FuncData) (ps : List Str) : Prop where
 f : Fun K x qual st a d
 m : mg x = some (.ref a)
 b : bv K d ps []
structure Fa (K : W.Frag) (x qual : Str) (st : Stmt) (a : Addr) (d : FuncData) : Prop where
 m : W.nsIn K mainGlobals x = some (some (.ref a))
 f : Fun K x qual st a d
section
variable {P : Program} {w : World} {K : W.Frag} {mg : Str → Option Value} {base h : Heap} {x qual : Str} {st : Stmt} {a : Addr} {d : FuncData} {ps : List Str}
theorem bJ {oc : Value} {od an : Option Addr} {osl : Array (Option Value)} {kV doc pm cdv ct : Value} (m : W.nsIn K mainGlobals x = some (some (.ref a))) (l : K.lookup a = some ⟨oc, od, .func (W.fnOf x qual (bb st) (aD st) (ai st) .none kV doc pm an cdv ct), osl⟩)
 (c : W.codeIn K cdv qual = true) (k : W.keepIn K (.ref a) = true) : Fa K x qual st a (W.fnOf x qual (bb st) (aD st) (ai st) .none kV doc pm an cdv ct) := ⟨m, di l c k⟩
theorem Fun.bt {p : Str} (F : Fun K x qual st a d) (hb : ∀ (kV doc pm : Value) (an : Option Addr) (cdv ct v : Value), bindArgs (W.fnOf x qual (bb st) (aD st) (ai st) .none kV doc pm an cdv ct) ⟨[v], []⟩ = pure [(p, v)] := by intros; rfl) (s : Shared) (v : Value) : BindsTo s d ⟨[v], []⟩ [(p, v)] := by
 obtain ⟨oc, od, kV, doc, pm, an, cdv, ct, osl, rfl, lk, hcd⟩ := F.ex
 exact .of_eq (hb kV doc pm an cdv ct v)
theorem Fun.b1 {p0 : Str} (F : Fun K x qual st a d) (hb : ∀ (kV doc pm : Value) (an : Option Addr) (cdv ct u0 : Value), bindArgs (W.fnOf x qual (bb st) (aD st) (ai st) .none kV doc pm an cdv ct) ⟨[u0], []⟩ = pure (List.zip [p0] [u0]) := by intros; rfl) : bv K d [p0] [] := F.binds fun kV doc pm an cdv ct us hl => by
 obtain ⟨u0, rfl⟩ := L2.iS hl
 exact hb kV doc pm an cdv ct u0
theorem Fa.fm1 {p0 : Str} (F : Fa K x qual st a d) (X : K.In h) (G : h.Ns mainGlobals mg) (hb : ∀ (kV doc pm : Value) (an : Option Addr) (cdv ct u0 : Value), bindArgs (W.fnOf x qual (bb st) (aD st) (ai st) .none kV doc pm an cdv ct) ⟨[u0], []⟩ = pure (List.zip [p0] [u0]) := by intros; rfl) : Fm K mg x qual st a d [p0] := ⟨F.f, W.mg_of X G F.m, F.f.b1 hb⟩
theorem Fun.b2 {p0 p1 : Str} (F : Fun K x qual st a d) (hb : ∀ (kV doc pm : Value) (an : Option Addr) (cdv ct u0 u1 : Value), bindArgs (W.fnOf x qual (bb st) (aD st) (ai st) .none kV doc pm an cdv ct) ⟨[u0, u1], []⟩ = pure (List.zip [p0, p1] [u0, u1]) := by intros; rfl) : bv K d [p0, p1] [] := F.binds fun kV doc pm an cdv ct us hl => by
 obtain ⟨u0, u1, rfl⟩ := L2.iU hl
 exact hb kV doc pm an cdv ct u0 u1
theorem Fa.fm2 {p0 p1 : Str} (F : Fa K x qual st a d) (X : K.In h) (G : h.Ns mainGlobals mg) (hb : ∀ (kV doc pm : Value) (an : Option Addr) (cdv ct u0 u1 : Value), bindArgs (W.fnOf x qual (bb st) (aD st) (ai st) .none kV doc pm an cdv ct) ⟨[u0, u1], []⟩ = pure (List.zip [p0, p1] [u0, u1]) := by intros; rfl) : Fm K mg x qual st a d [p0, p1] := ⟨F.f, W.mg_of X G F.m, F.f.b2 hb⟩
theorem Fun.b3 {p0 p1 p2 : Str} (F : Fun K x qual st a d) (hb : ∀ (kV doc pm : Value) (an : Option Addr) (cdv ct u0 u1 u2 : Value), bindArgs (W.fnOf x qual (bb st) (aD st) (ai st) .none kV doc pm an cdv ct) ⟨[u0, u1, u2], []⟩ = pure (List.zip [p0, p1, p2] [u0, u1, u2]) := by intros; rfl) : bv K d [p0, p1, p2] [] := F.binds fun kV doc pm an cdv ct us hl => by
 obtain ⟨u0, u1, u2, rfl⟩ := L2.lq hl
 exact hb kV doc pm an cdv ct u0 u1 u2
theorem Fa.fm3 {p0 p1 p2 : Str} (F : Fa K x qual st a d) (X : K.In h) (G : h.Ns mainGlobals mg) (hb : ∀ (kV doc pm : Value) (an : Option Addr) (cdv ct u0 u1 u2 : Value), bindArgs (W.fnOf x qual (bb st) (aD st) (ai st) .none kV doc pm an cdv ct) ⟨[u0, u1, u2], []⟩ = pure (List.zip [p0, p1, p2] [u0, u1, u2]) := by intros; rfl) : Fm K mg x qual st a d [p0, p1, p2] := ⟨F.f, W.mg_of X G F.m, F.f.b3 hb⟩
theorem Fun.okS {CX : CXT} {N : List Str} {k : Nat} {sp : Sp} {t : TS} (F : Fun K x qual st a d) (S : aJ N ps (ai st)) (len : ∀ vs H Q E, sp vs H Q E → vs.length = ps.length)
  (hrd : ∀ (vs : List V) (H : Hp) (Q : VK) (E : XK), sp vs H Q E → t { nx := fun _ H' => Q .non H', rt := Q } (aZ N vs) H)
  (hq : ∀ (cdv : Value) (A : Around) (outer : List Env) (s : Shared) (H : Hp) (E : XK), aE k (A.deeper (envOfC qual (ai st) s.heap.objs.size a cdv)) → QSs (bg CX P w K mg base N qual (ai st) a cdv A outer s H E).nox (aD st) t) : bh P w K mg base CX (k + 1) a d ps sp :=
 F.okN S len fun cdv A outer s H vs Q E hr h => ⟨t, (hq cdv A outer s H E hr).out, hrd vs H Q E h⟩
end
section
variable {X : Cx} {x q : Str} {e : Expr} {es : List Expr} {t : TA} {p pos : Pos} {st : Stmt} {f : Addr} {fd : FuncData} {ps : List Str} {k : Nat} {sp : Sp}
theorem eO {P : Program} {w : World} (F : bh X.prog X.w X.K X.mg X.base (CX1 P w) k f fd ps sp) (hr : aE k X.A) (M : Fm X.K X.mg x q st f fd ps)
 (ha : QA X (e :: es) t) (hg : Gl X x := by rfl) (hdb : (x == ("__debug__" : Str)) = false := by decide) (hs : aP (e :: es) = true := by rfl) : QE X (.Call (.Name x p) (e :: es) [] pos) (aW sp (fun _ => E0) t) := bA F hr M.m M.f.kp M.b iN ha hg hdb hs
end
end L2
namespace L2
open PySem PySem.Spec PyProof.Rows
section
variable {X : Cx}
end
end L2
namespace L2
open PySem PySem.Spec PyProof.Rows
section
variable {K : W.Frag} {mg : Str → Option Value} {h : Heap} {x qual : Str} {st : Stmt} {a : Addr} {d : FuncData}
end
end L2
namespace L2
open PySem PySem.Spec PyProof.Rows
section
variable {X : Cx} {pins : List (Addr × Obj)} {σ : St} {H : Hp} {s : Shared} {A : Around} {E : Value → Shared → Prop} {a C dx : Addr} {fs : List (Str × V)} {v : V}
end
section
variable {X : Cx} {k : Nat} {C : Addr} {E : St → XK} {m : Str} {pos apos : Pos} {e o : Expr} {es : List Expr} {ta : TE} {t : TA}
end
end L2
namespace HT
open PySem PyProof.Rows
section
variable {prog : Program} {w : World} {A : Around} {s : Shared} {R : Result → Shared → Prop}
variable {I : Addr} {fp wr : List Addr} {G : Array GenState → Array GenState → Prop} {n : Nat} {P : Nat → Value → Prop} {St : Nat → Shared → Prop}
end
section
variable {prog : Program} {w : World} {A : Around} {E : Value → Shared → Prop} {s : Shared}
variable {I : Addr} {fp wr : List Addr} {G : Array GenState → Array GenState → Prop} {n : Nat} {P : Nat → Value → Prop} {St : Nat → Shared → Prop}
end
end HT
namespace L2
open PySem PySem.Spec PyProof.Rows
section
variable {X : Cx} {pins : List (Addr × Obj)} {σ : St} {H : Hp} {s : Shared}
end
section
variable {X : Cx} {a : Expr} {t : TA} {p1 p2 pos1 pos2 : Pos}
end
end L2
namespace L2
open PySem PySem.Spec PyProof.Rows
section
variable {X : Cx} {tg : Expr}
end
section
variable {X : Cx} {a b : Expr} {t : TA} {p pos ep : Pos} {elts : List Expr} {ek : Nat}
end
end L2
namespace HT
open PySem PyProof.Rows
section
variable {prog : Program} {w : World} {A : Around} {E : Value → Shared → Prop} {s : Shared}
end
section
variable {prog : Program} {w : World} {A : Around} {s : Shared} {R : Result → Shared → Prop} {xs ys : Array Value}
end
end HT
namespace HT
open PySem PyProof.Rows
section
variable {prog : Program} {w : World} {A : Around} {s : Shared} {R : Result → Shared → Prop} {xs ys : Array Value} {z TI TO i1 i2 l t S : Addr}
end
section
variable {prog : Program} {w : World} {A : Around} {E : Value → Shared → Prop} {s : Shared} {xs ys : Array Value} {z TI TO i1 i2 l t : Addr}
end
end HT
namespace L2
open PySem PySem.Spec PyProof.Rows
section
variable {X : Cx} {pins : List (Addr × Obj)} {σ : St} {H : Hp} {s : Shared} {h' : Heap}
end
section
variable {X : Cx} {a b : Expr} {t : TA} {p1 p2 pos1 pos2 : Pos}
end
section
variable {X : Cx} {a : Expr} {t : TA} {p pos : Pos} {tg : Expr}
end
end L2
namespace HT
open PySem PySem.W PyProof.Rows
abbrev de (C t : Addr) (d : Option Addr) : Obj := { cls := .ref C, dict := d, data := .fields #[.ref t, .none, .none, .none, .bool false, .none] }
abbrev bX (h : Heap) (C : Addr) (us : List Value) : Heap := (h.push { cls := .type "tuple", data := .seq us.toArray }).push (de C h.objs.size none)
section
variable {prog : Program} {w : World} {A : Around} {K : Frag} {C f : Addr} {R : Result → Shared → Prop} {h : Heap} {g : Array GenState} {d : Drawn} {t : Nat} {os : OsState}
theorem ii {us : List Value} (X : K.In h) (hC : L2.av K C) (hi : findIn K (.ref C) "__init__" = some (some (.ref f))) (hf : typeIn K (.ref f) = some (.type "function")) (hus : us.length ≤ sizeLine)
  (hq : codeAny (model prog w) (A.under (.builtin "type.__call__" ⟨.ref C :: us, []⟩)) (.call (.ref f) ⟨.ref (h.objs.size + 1) :: us, []⟩) (InitBack (h.objs.size + 1) R) ⟨bX h C us, g, d, t, os⟩) :
  codeAny (model prog w) A (.call (.ref C) ⟨us, []⟩) R ⟨h, g, d, t, os⟩ := by
 obtain ⟨bm, N, nm, qn, bs, hdct, sn, sub, ab, col, dd, k0, k1, k2, k3, k5, mN, oC, hN, _, T, _⟩ := L2.bz X hC
 have f1 := tc_lookup
 have f2 := tc_bind (.ref C)
 have hT : (⟨h, g, d, t, os⟩ : Shared).TypeIs (.ref C) "type" := ⟨_, oC, rfl⟩
 have FB := F.excBase_ValueError
 have hBn : (L2.veM).contains (.type "ValueError") = true := by decide +kernel
 refine codeAny_of_tree ?_
 show wpAny _ _ (callAny (.ref C) _) _ _ _
 repeat (any_goals (first | assumption | with_reducible refine wpAny_loadPart_at oC ?_ | wp_step))
 refine ⟨rfl, ?_⟩
 refine codeAny_call_builtin_at (Code.quiet_builtin _ (by decide +kernel)) entry_typeCall (wpAny_check_type_call_sub oC ?_)
 repeat (first | with_reducible refine wpAny_loadPart_at oC ?_ | with_reducible refine wpAny_madeBy_exc oC ?_ | wp_step)
 refine codeAny_call_builtin_code (Code.quiet_builtin _ FB.quiet) (wpAny_check_new_subU FB hBn T oC ?_)
 refine codeAny_exc_new_subU FB hBn FB T oC ?_ hus
 show wpAny _ _ _ _ _ _
 have k : ∀ b o, h.get? b = some o → (bX h C us).get? b = some o := fun b o e => Heap.get?_push_of_some _ (Heap.get?_push_of_some _ e)
 have hx : (bX h C us).get? (h.objs.size + 1) = some (de C h.objs.size none) := by heap_get
 have oC1 := k _ _ oC
 have hcC : (Value.ref C :: bm).contains (.ref C) = true := by simp
 have t1 : Looks (model prog w) (bX h C us) (typeOf (.ref (h.objs.size + 1))) (.ref C) := (Looks.ld hx).andThen .now
 have i1 := (looks_findIn (M := model prog w) X hi).keeps k
 have b1 := (bind_fn (M := model prog w) X (.ref (h.objs.size + 1)) hf).keeps k
 unfold isInstance
 repeat (first | with_reducible refine wpAny_loadPart_at hx ?_ | (with_reducible refine wpAny_isSubtype_exc oC1 ?_; rw [hcC]) | wp_step)
 show wpAny _ _ (isSubtype (.ref C) (.ref C)) _ _ ⟨bX h C us, g, d, t, os⟩
 refine wpAny_isSubtype_exc oC1 ?_
 rw [hcC, if_neg (by decide)]
 unfold callSpecial? specialOf
 repeat (first | with_reducible refine wpAny_call ?_ | lk)
 refine codeAny_mono hq fun r s' z => ?_
 rcases r with e | (v | _ | _ | _) <;> first | exact z | exact z.elim | skip
 obtain ⟨rfl, z⟩ := z
 exact wpAny_pure (wpAny_pure z)
end
end HT
namespace HT
open PySem PySem.W PyProof.Rows
open Builtin Builtin.ObjectAttr
theorem fk (self : Value) {h : Heap} {bm : List Value} (T : OwnTail h L2.veM bm) : refuseLoop self "__setattr__" bm = pure () := by
 induction T with
 | base => exact PySem.F.store_ValueError.passes self
 | own _ _ _ _ ih => rw [refuseLoop_ref]; exact ih
structure br (K : Frag) (C : Addr) (name : Str) : Prop where
 ok : L2.av K C
 sa : findIn K (.ref C) "__setattr__" = some (some (.builtin "object.__setattr__"))
 eg : L2.ay K C
 no : findIn K (.ref C) name = some none
 hd : hasDictIn K C = true
section
variable {prog : Program} {w : World} {A : Around} {E : Value → Shared → Prop} {s : Shared} {K : Frag} {x C : Addr} {name : Str} {v : Value}
theorem fy {ox : Obj} {od : Option Obj} {tk : Tok} {R : Result → Shared → Prop} (X : K.In s.heap) (I : InstAt s.heap x ox C od) (G : br K C name)
  (h : wpAny (model prog w) A.in1 (storeInOwnDict (.ref x) (.ref C) (.str name tk) name v false)
   (fun fin s' => match fin with | .done f => R (.ok f) s' | .again c' => c'.quiet = true ∧ codeAny (model prog w) A c' R s') (fun e s' => R (.error e) s') s) :
  codeAny (model prog w) A (.call (.builtin "object.__setattr__") ⟨[.ref x, .str name tk, v], []⟩) R s := by
 have SF := PySem.F.store_object
 obtain ⟨bm, N, nm, qn, bs, hdct, sn, sub, ab, col, dd, k0, k1, k2, k3, k5, mN, oC, hN, _, T, _⟩ := L2.bz X G.ok
 have hm : Looks (model prog w) s.heap (mroOf (.ref C)) (.ref C :: bm) := ((Looks.ld (part := none) oC).andThen .now).andThen .now
 have hsub : Looks (model prog w) s.heap (isSubtype (.ref C) (.type "object")) true := fun A' Q' E' s' k q => by
  obtain ⟨hh, g, d, t, os⟩ := s'
  refine wpAny_isSubtype_exc (k _ _ oC) ?_
  rw [List.contains_cons, T.hasType (X := "object") (b := true) (by decide +kernel), Bool.or_true]; exact q
 have hsub' : Looks (model prog w) s.heap (isInstance (.ref x) (.type "object")) true := I.type.andThen hsub
 refine codeAny_call_builtin SF.slot.plain SF.entry (@check_slot (model prog w) _ _ s "object.__setattr__" "object" "__setattr__" (.ref x) [.str name tk, v] [] _ SF.kind SF.split hsub' (SF.args (.ref x) (.str name tk) v) ?_)
 rw [osa_eq, refuse_eq]
 refine wpAny_bind (wpAny_bind (I.type.here (wpAny_bind (hm.here ?_))))
 rw [refuseLoop_ref, fk _ T]
 exact wpAny_pure (wpAny_bind (I.type.here (wpAny_bind ((looks_findIn X G.no).here (wpAny_bind (wpAny_pure h))))))
theorem ju {ox : Obj} {dx : Addr} {mA : Str → Option Value} {ns : List Str} {Q : Unit → Shared → Prop} (X : K.In s.heap) (hx : s.heap.get? x = some ox) (hc : ox.cls = .ref C) (hdx : ox.dict = some dx) (hf : ∃ vs, ox.data = .fields vs) (hn : s.heap.Ns1 dx mA) (ne : dx ≠ x) (G : br K C name)
  (hw : Within mA ns) (hsz : ns.length ≤ sizeLine) (h : ∀ h' t', h'.Ns1 dx (fun y => if y = name then some v else mA y) → Heap.SameBut dx s.heap h' → Q () { s with heap := h', toks := t' }) : wpAny (model prog w) A (setAttr (.ref x) name v) Q E s := by
 obtain ⟨vs, hvs⟩ := hf
 obtain ⟨oc, od, odt, osl⟩ := ox
 dsimp only at hc hdx hvs
 subst hc hdx hvs
 obtain ⟨oD0, esD0, epD0, hoD0, _⟩ := id hn
 have J : InstAt s.heap x _ C (some oD0) := ⟨hx, rfl, rfl, hoD0⟩
 refine set_plain X J G.sa (fy (s := { s with toks := s.toks + 1 }) X J G ?_)
 obtain ⟨cd, hcc, hd'⟩ := any_some G.hd
 refine wpAny_bind (wpAny_pure (wpAny_bind (wpAny_bind (wpAny_loadPart hx (wpAny_bind (Looks.here (s := { s with toks := s.toks + 1 }) (looks_clsIn X hcc) ?_))))))
 rw [hd']
 refine wpAny_pure (a := some dx) (wpAny_bind (wpAny_pure (wpAny_bind ?_)))
 refine wpAny_nsSet1 (s := { s with toks := s.toks + 1 }) hn fun h' hn2 hs2 => ?_
 obtain ⟨oD, esD, epD, hoD, hdD, hcD⟩ := hn2.count (Within.cons name v hw)
 refine wpAny_bind (wpAny_lookBehind hoD (by rw [hdD]; exact pastItsLine_dict (Nat.le_trans hcD (by rw [List.length_cons]; omega))) ?_)
 exact wpAny_pure (h _ _ hn2 hs2)
theorem iw {ox : Obj} {Q : Unit → Shared → Prop} (X : K.In s.heap) (hx : s.heap.get? x = some ox) (hc : ox.cls = .ref C) (hdx : ox.dict = none) (hf : ∃ vs, ox.data = .fields vs) (G : br K C name)
  (h : ∀ h' t', h'.get? x = some { ox with dict := some s.heap.objs.size } → h'.Ns1 s.heap.objs.size (fun y => if y = name then some v else none) → (∀ b o, b ≠ x → s.heap.get? b = some o → h'.get? b = some o) → Q () { s with heap := h', toks := t' }) :
  wpAny (model prog w) A (setAttr (.ref x) name v) Q E s := by
 obtain ⟨vs, hvs⟩ := hf
 obtain ⟨oc, od, odt, osl⟩ := ox
 dsimp only at hc hdx hvs
 subst hc hdx hvs
 have J : InstAt s.heap x _ C none := ⟨hx, rfl, rfl, trivial⟩
 refine set_plain X J G.sa (fy (s := { s with toks := s.toks + 1 }) X J G ?_)
 obtain ⟨cd, hcc, hd'⟩ := any_some G.hd
 refine wpAny_bind (wpAny_pure (wpAny_bind (wpAny_bind (wpAny_loadPart hx (wpAny_bind (Looks.here (s := { s with toks := s.toks + 1 }) (looks_clsIn X hcc) ?_))))))
 rw [hd']
 show wpAny _ _ (alloc { cls := .type "dict", data := .dict #[] } >>= fun d => update x (fun o => { o with dict := some d }) >>= fun _ => pure (some d)) _ _ _
 have xs : x ≠ s.heap.objs.size := Nat.ne_of_lt (Heap.lt_size hx)
 have hx1 : (s.heap.push { cls := .type "dict", data := .dict #[] }).get? x = some _ := Heap.get?_push_of_some _ hx
 refine wpAny_bind (wpAny_alloc' (wpAny_bind (wpAny_update' hx1 (wpAny_pure ?_))))
 generalize hh2 : ((s.heap.push { cls := .type "dict", data := .dict #[] }).update x fun o => { o with dict := some s.heap.objs.size }) = h2
 have hx2 : h2.get? x = some ⟨.ref C, some s.heap.objs.size, .fields vs, osl⟩ := by rw [← hh2]; exact Heap.get?_update_self _ hx1 rfl
 have hd2 : h2.get? s.heap.objs.size = some { cls := .type "dict", data := .dict #[] } := by rw [← hh2]; exact (Heap.get?_update_ne _ _ _ _ xs.symm).trans (Heap.get?_push_at rfl rfl)
 have k2 : ∀ b o, b ≠ x → s.heap.get? b = some o → h2.get? b = some o := fun b o nb e => by rw [← hh2]; exact (Heap.get?_update_ne _ _ _ _ nb).trans (Heap.get?_push_of_some _ e)
 have n2 : h2.Ns s.heap.objs.size (fun _ => none) := ⟨_, #[], _, hd2, rfl, fun e he => absurd he (by simp), fun _ => rfl⟩
 show wpAny _ _ (storeInDict s.heap.objs.size (.str name s.toks) name v) _ _ { s with heap := h2, toks := s.toks + 1 }
 unfold storeInDict newKeyGuard
 refine wpAny_bind (wpAny_pure (wpAny_bind (wpAny_nsSet1 (s := { s with heap := h2, toks := s.toks + 1 }) (Heap.Ns1.of_empty n2) fun h' hn' hs => ?_)))
 obtain ⟨oD, esD, epD, hoD, hdD, hcD⟩ := hn'.count (Within.cons name v Within.nil)
 refine wpAny_bind (wpAny_lookBehind hoD (by rw [hdD]; exact pastItsLine_dict (Nat.le_trans hcD (by rw [List.length_cons, List.length_nil, sizeLine_eq]; omega))) ?_)
 exact wpAny_pure (h _ _ ((hs.2 x xs).trans hx2) hn' fun b o nb e => (hs.2 b (Nat.ne_of_lt (Heap.lt_size e))).trans (k2 b o nb e))
end
end HT
namespace HT
open PySem PySem.W PyProof.Rows
open Builtin Builtin.ObjectAttr
section
variable {prog : Program} {w : World} {A : Around} {E : Value → Shared → Prop} {h : Heap} {g : Array GenState} {d : Drawn} {t : Nat} {os : OsState} {K : Frag} {a C : Addr} {o : Obj} {od : Option Obj} {name : Str} {v : Value}
theorem ie {tk : Tok} {Q : Fin → Shared → Prop} (X : K.In h) (I : InstAt h a o C od) (hf : findObj K C od name = some (.value v)) (hq : Q (.done (.ret v)) ⟨h, g, d, t, os⟩) :
  wpAny (model prog w) A (Builtin.«object.__getattribute__» ⟨[.ref a, .str name tk], []⟩) Q E ⟨h, g, d, t, os⟩ := by
 have L0 := I.type (M := model prog w)
 have L1 := looks_find (M := model prog w) X I hf
 unfold Builtin.«object.__getattribute__»
 refine wpAny_bind (wpAny_pure (wpAny_bind (wpAny_pure (wpAny_bind (L0.at (wpAny_bind (L1.at ?_)))))))
 exact wpAny_pure hq
theorem jF {tk : Tok} {R : Result → Shared → Prop} (X : K.In h) (G : L2.ay K C) (I : InstAt h a o C od) (hf : findObj K C od name = some (.value v)) (hq : R (.ok (.ret v)) ⟨h, g, d, t, os⟩) :
  codeAny (model prog w) A (.call (.builtin "BaseException.__getattribute__") ⟨[.ref a, .str name tk], []⟩) R ⟨h, g, d, t, os⟩ :=
 codeAny_call_builtin F.excAttr_ValueError.ga.plain F.entry_bexc_ga (L2.eP X G I.at_ I.cls (ie X I hf hq))
theorem lO {tk : Tok} {fill expr : Bool} {Q : Value → Shared → Prop} (X : K.In h) (G : L2.ay K C) (I : InstAt h a o C od) (hf : findObj K C od name = some (.value v)) (hh : handedIn v = true) (hq : Q v ⟨h, g, d, t, os⟩) :
  wpAny (model prog w) A (getAttrBy (.ref a) (.str name tk) fill expr) Q E ⟨h, g, d, t, os⟩ := by
 have f3 := F.excAttr_ValueError.ga.bind (.ref a)
 have L0 := I.type (M := model prog w)
 have L1 := looks_findIn (M := model prog w) X G.ga
 have L2' := looks_findIn (M := model prog w) X G.na
 have hx2 : (Value.builtin "BaseException.__getattribute__" == Value.builtin "object.__getattribute__") = false := by decide +kernel
 have hx0 : (expr && onTheHeap (Value.builtin "BaseException.__getattribute__")) = false := by cases expr <;> rfl
 unfold getAttrBy
 refine wpAny_holding (wpAny_bind (L0.at (wpAny_bind (L1.at ?_))))
 show wpAny _ _ (if (onTheHeap (Value.ref C) && Value.builtin "BaseException.__getattribute__" == Value.builtin "object.__getattribute__") = true then _ else _) _ _ _
 rw [hx2, Bool.and_false, if_neg Bool.false_ne_true]
 unfold getAttrByItsOwn
 refine wpAny_bind ?_
 show wpAny _ _ (typeLookup (.ref C) "__getattr__") _ _ _
 refine L2'.at (wpAny_bind (wpAny_attempt (wpAny_holding ?_)))
 unfold callGetattribute
 rw [hx0, if_neg Bool.false_ne_true]
 unfold boundAndCalled
 rw [f3]
 refine wpAny_bind (wpAny_pure (wpAny_call (jF X G I hf ?_)))
 show wpAny _ _ (handedOut v) _ _ _
 rw [handedOut_of hh]; exact wpAny_pure hq
theorem iZ {dx : Addr} {mA : Str → Option Value} {expr : Bool} {Q : Value → Shared → Prop} (X : K.In h) (hx : h.get? a = some o) (hc : o.cls = .ref C) (hdx : o.dict = some dx) (hfl : ∃ vs, o.data = .fields vs) (hn : h.Ns1 dx mA) (G : br K C name)
  (hv : mA name = some v) (hh : handedIn v = true) (hq : Q v ⟨h, g, d, t + 1, os⟩) : wpAny (model prog w) A (getAttr (.ref a) name expr) Q E ⟨h, g, d, t, os⟩ := by
 obtain ⟨vs, hvs⟩ := hfl
 obtain ⟨oc, odd, odt, osl⟩ := o
 dsimp only at hc hdx hvs
 subst hc hdx hvs
 obtain ⟨od, ho, hl⟩ := L2.gB hn
 have J : InstAt h a _ C (some od) := ⟨hx, rfl, rfl, ho⟩
 unfold getAttr
 exact wpAny_bind (wpAny_mkText (lO X G.eg J (findObj_own G.hd G.no rfl (by rw [hl, hv])) hh hq))
end
end HT
namespace L2
open PySem PySem.Spec PyProof.Rows
def bc (C a : Addr) (d : Option Addr) : HO := .ext fun h => ∃ t, h.get? a = some (HT.de C t d)
theorem fA {P : Program} {w : World} {H : Hp} {h : Heap} {C a t : Addr} {d : Option Addr} (e : h.get? a = some (HT.de C t d)) : aM P w H h a (bc C a d) := ⟨⟨t, e⟩, ⟨_, e⟩, fun h1 h2 ⟨t1, e1⟩ k => ⟨t1, k _ e1⟩⟩
theorem dI {P : Program} {w : World} {H : Hp} {h : Heap} {C a : Addr} {d : Option Addr} (x : aM P w H h a (bc C a d)) : ∃ t, h.get? a = some (HT.de C t d) := x.1
def bi (fs : List (Str × V)) (dx : Addr) : HO := .ext fun h => ∃ mA, h.Ns1 dx mA ∧ ∀ f, bC (fs.lookup f) (mA f)
theorem fB {P : Program} {w : World} {H : Hp} {h : Heap} {dx : Addr} {fs : List (Str × V)} {mA : Str → Option Value} (n : h.Ns1 dx mA) (r : ∀ f, bC (fs.lookup f) (mA f)) : aM P w H h dx (bi fs dx) := by
 refine ⟨⟨mA, n, r⟩, ?_, fun h1 h2 ⟨m1, n1, r1⟩ k => ⟨m1, ?_, r1⟩⟩
 · obtain ⟨o, es, ep, e, _⟩ := n
   exact ⟨o, e⟩
 · obtain ⟨o, es, ep, e, c⟩ := n1
   exact ⟨o, es, ep, k _ e, c⟩
theorem ft {P : Program} {w : World} {H : Hp} {h : Heap} {dx : Addr} {fs : List (Str × V)} (x : aM P w H h dx (bi fs dx)) : ∃ mA, h.Ns1 dx mA ∧ ∀ f, bC (fs.lookup f) (mA f) := x.1
theorem fj {fs : List (Str × V)} {mA : Str → Option Value} (r : ∀ f, bC (fs.lookup f) (mA f)) : PySem.Within mA (fs.map (·.1)) := fun y h => by
  have ry := r y
  cases e : fs.lookup y with
  | none =>
    rw [e] at ry
    cases q : mA y with
    | none => exact absurd q h
    | some u => rw [q] at ry; exact ry.elim
  | some v =>
    have : ∀ (l : List (Str × V)), l.lookup y = some v → y ∈ l.map (·.1) := by
      intro l
      induction l with
      | nil => intro z; cases z
      | cons p l ih =>
        intro z
        obtain ⟨k, x⟩ := p
        rw [List.lookup_cons] at z
        by_cases hk : (y == k) = true
        · rw [List.map_cons]; exact List.mem_cons.mpr (.inl (beq_iff_eq.mp hk))
        · rw [Bool.not_eq_true] at hk
          rw [hk] at z
          exact List.mem_cons_of_mem _ (ih z)
    exact this fs e
def cq (K : W.Frag) (C : Addr) (ta tv : TE) (f : Str) : TS := fun D σ H => tv σ H fun y H1 => ta σ H1 fun x H2 => ∃ a, x = .ref a ∧ HT.br K C f ∧
  ((H2 a = some (bc C a none) ∧ ∀ dx, H2 dx = none → dx ≠ a → D.nx σ (upd (upd H2 a (bc C a (some dx))) dx (bi [(f, y)] dx))) ∨
   (∃ dx fs, H2 a = some (bc C a (some dx)) ∧ H2 dx = some (bi fs dx) ∧ dx ≠ a ∧ fs.length < 1000 ∧ D.nx σ (upd H2 dx (bi (bx f y fs) dx))))
def cy (K : W.Frag) (ta : TE) (f : Str) : TE := fun σ H Q => ta σ H fun x H1 => ∃ a C dx fs v, x = .ref a ∧ H1 a = some (aR C (some dx) a) ∧ H1 dx = some (bi fs dx) ∧ HT.br K C f ∧ fs.lookup f = some v ∧ Q v H1
section
variable {X : Cx} {o value : Expr} {ta tv : TE} {f : Str} {pos pos' : Pos} {C : Addr}
theorem ci (ho : QE X o ta) (hv : QE X value tv) (hs : swapsWith value (some (.Attribute o f pos')) pos.line X.env = pure false := by rfl) : QS X (.Assign [.Attribute o f pos'] value pos) (cq X.K C ta tv f) := by
 refine ⟨fun pins s σ H D I h => ?_⟩
 refine plainObj_wpAny_Assign_Attribute (thn (hv.out pins s σ H _ I h) fun u s1 ⟨y, H1, I1, ry, q⟩ => thn (ho.out pins s1 σ H1 _ I1 q) fun ov s2 ⟨x, H2, I2, rx, a, ex, G, q2⟩ => ?_) hs
 subst ex
 obtain rfl : ov = Value.ref a := rx
 rcases q2 with ⟨ea, q2⟩ | ⟨dx, fs, ea, ed, ne, hl, q2⟩
 · obtain ⟨t, et⟩ := dI (P := X.prog) (w := X.w) (I2.hok a _ ea)
   refine HT.iw I2.kIn et rfl rfl ⟨_, rfl⟩ G fun h' t' e1 e2 k => ?_
   have I3 : Inv X pins σ (upd H2 a (bc C a (some s2.heap.objs.size))) { s2 with heap := h', toks := t' } := I2.write (x := a) (e := a) (by rw [ea]; exact True.intro) (.inl rfl) (fun b u nb e => k b u nb e) ⟨_, e1⟩ (fA e1)
   have na : s2.heap.objs.size ≠ a := Nat.ne_of_gt (Heap.lt_size et)
   have hn : upd H2 a (bc C a (some s2.heap.objs.size)) s2.heap.objs.size = none := by rw [ak na]; exact I2.hok.fresh (Nat.le_refl _)
   exact ⟨σ, _, Inv.track2 I2 I3 (Nat.le_refl _) hn (fB e2 fun g => by
    show bC (List.lookup g [(f, y)]) (if g = f then some u else none)
    by_cases hg : g = f
    · rw [if_pos hg, hg]
      simp only [List.lookup, beq_self_eq_true]; exact ry
    · have hb : (g == f) = false := beq_eq_false_iff_ne.mpr hg
      rw [if_neg hg]
      simp only [List.lookup, hb]; exact True.intro), q2 _ (I2.hok.fresh (Nat.le_refl _)) na⟩
 · obtain ⟨t, et⟩ := dI (P := X.prog) (w := X.w) (I2.hok a _ ea)
   obtain ⟨mA, n1, r1⟩ := ft (P := X.prog) (w := X.w) (I2.hok dx _ ed)
   refine HT.ju (ns := fs.map (·.1)) I2.kIn et rfl rfl ⟨_, rfl⟩ n1 ne G (fj r1) (by rw [List.length_map, sizeLine_eq]; omega) fun h' t' e2 sb => ?_
   have hd : ∃ u, h'.get? dx = some u := let ⟨o, _, _, e', _⟩ := e2; ⟨o, e'⟩
   exact ⟨σ, _, I2.write (x := dx) (e := dx) (by rw [ed]; exact True.intro) (.inl rfl) (fun b u nb e => (sb.2 b nb).trans e) hd (fB e2 fun g => by
    rw [cX]
    by_cases hg : g = f
    · rw [if_pos hg, if_pos hg]; exact ry
    · rw [if_neg hg, if_neg hg]; exact r1 g), q2⟩
theorem bY (he : QE X o ta) (hb : attributeBase o f X.env (eval o X.env) = eval o X.env := by rfl) : QE X (.Attribute o f pos) (cy X.K ta f) := by
 refine ⟨fun pins s σ H Q I h => ?_⟩
 refine ja hb (thn (he.out pins s σ H _ I h) fun u s1 ⟨x, H1, I1, rx, a, C, dx, fs, v, ex, ea, ed, G, l, q⟩ => ?_)
 subst ex
 obtain rfl : u = Value.ref a := rx
 obtain ⟨oe, vs, e1, e2, e3, e4, _⟩ := dP (P := X.prog) (w := X.w) (I1.hok a _ ea)
 obtain ⟨mA, n1, r1⟩ := ft (P := X.prog) (w := X.w) (I1.hok dx _ ed)
 obtain ⟨u, hu, ru⟩ := bC.some_of (v := v) (o := mA f) (by rw [← l]; exact r1 f)
 obtain ⟨hp, g, d, tk, os⟩ := s1
 exact HT.iZ I1.kIn e1 e2 e3 ⟨_, e4⟩ n1 G hu (gP ru) ⟨v, H1, I1.tok _, ru, q⟩
end
def cp (a : Addr) (H : Hp) : Hp := fun b => if b = a then none else H b
theorem cO {a : Addr} {H : Hp} : cp a H a = none := by unfold cp; rw [if_pos rfl]
theorem bw {a b : Addr} {H : Hp} (h : b ≠ a) : cp a H b = H b := by unfold cp; rw [if_neg h]
theorem HOk.off {P : Program} {w : World} {H : Hp} {h : Heap} {a : Addr} {φ : Heap → Prop} (k : HOk P w H h) (ha : H a = some (.ext φ)) : HOk P w (cp a H) h := fun b o e => by
 by_cases hb : b = a
 · subst hb; rw [cO] at e; cases e
 · rw [bw hb] at e
   exact (k b o e).stay (fun c u _ q => q) (fun c q => by rw [bw (fun z => by rw [z, ha] at q; cases q)]; exact q) fun c xs q => by rw [bw (fun z => by rw [z, ha] at q; cases q)]; exact q
theorem Un.off {fs : List Addr} {H H' : Hp} {h h' : Heap} {a : Addr} (u : Un fs [] H H' h h') (ha : H a = none) : Un fs [] H (cp a H') h h' where
 keep := u.keep
 slot := u.slot
 free := fun b o e n hx => by
  by_cases hb : b = a
  · rw [hb]; exact cO
  · rw [bw hb]; exact u.free b o e n hx
 there := u.there
 tups := fun b xs e => by rw [bw (al e ha)]; exact u.tups b xs e
 frzs := fun b o v e => by rw [bw (al e ha)]; exact u.frzs b o v e
 tbls := fun b ps e => by rw [bw (al e ha)]; exact u.tbls b ps e
end L2
namespace HT
open PySem PyProof.Rows
section
variable {M : Model} {A : Around} {E : Value → Shared → Prop} {env : Env} {K : W.Frag} {C : Addr}
theorem gu {s : Shared} {x : Sem Value} {Q : Flow → Shared → Prop} (hC : L2.av K C) (hh : A.handled = none)
  (h : wpAny M A x (fun v s₁ => ∃ e t d, v = .ref e ∧ K.In s₁.heap ∧ s₁.heap.get? e = some (de C t d) ∧ E (.ref e) s₁) E s) : wpAny M A (raiseStmt env (some x) none) Q E s := by
 unfold raiseStmt
 refine wpAny_bind (wpAny_mono h (fun v s₁ h₁ => ?_) fun _ _ x => x)
 obtain ⟨e, t, d, rfl, X, he, hE⟩ := h₁
 obtain ⟨bm, N, nm, qn, bs, hdct, sn, sub, ab, col, dd, k0, k1, k2, k3, k5, mN, oC, hN, _, T, _⟩ := L2.bz X hC
 have hcB : (Value.ref C :: bm).contains (.type "BaseException") = true := by rw [List.contains_cons, T.hasType (X := "BaseException") (b := true) (by decide +kernel), Bool.or_true]
 obtain ⟨hp, g, dr, tk, os⟩ := s₁
 repeat (first | with_reducible refine wpAny_loadPart_at he ?_ | with_reducible refine wpAny_loadPart_at oC ?_ | (with_reducible refine wpAny_isSubtype_exc oC ?_; rw [hcB]) | wp_step)
 exact wpAny_raiseNew_none hh hE
theorem gx {prog : Program} {w : World} {A : Around} {K : W.Frag} {C f : Addr} {R : Result → Shared → Prop} {s : Shared} {us : List Value} (X : K.In s.heap) (hC : L2.av K C) (hi : W.findIn K (.ref C) "__init__" = some (some (.ref f))) (hf : W.typeIn K (.ref f) = some (.type "function")) (hus : us.length ≤ sizeLine)
  (hq : codeAny (model prog w) (A.under (.builtin "type.__call__" ⟨.ref C :: us, []⟩)) (.call (.ref f) ⟨.ref (s.heap.objs.size + 1) :: us, []⟩) (W.InitBack (s.heap.objs.size + 1) R) { s with heap := bX s.heap C us }) :
  codeAny (model prog w) A (.call (.ref C) ⟨us, []⟩) R s := by
 obtain ⟨h, g, d, t, os⟩ := s
 exact ii X hC hi hf hus hq
end
end HT
namespace L2
open PySem PySem.Spec PyProof.Rows
def cS (C : Addr) (sp : Sp) (E : St → XK) (t : TA) : TS := fun _ σ H => t σ H fun vs H1 => ∀ a, H1 a = none → sp (.ref a :: vs) (upd H1 a (bc C a none)) (fun v H2 => v = .non ∧ ∃ d, H2 a = some (bc C a d) ∧ E σ (.ref C) d (cp a H2)) E0
structure eB (K : W.Frag) (C f : Addr) : Prop where
 ok : av K C
 init : W.findIn K (.ref C) "__init__" = some (some (.ref f))
 fn : W.isFn K (.ref f) = true
 kp : W.keepIn K (.ref C) = true
section
variable {X : Cx} {k : Nat} {f C : Addr} {fd : FuncData} {ps : List Str} {sp : Sp} {E : St → XK} {x : Str} {np cpos pos : Pos} {e : Expr} {es : List Expr} {t : TA}
theorem cY (Y : eB X.K C f) (F : bh X.prog X.w X.K X.mg X.base (CX1 X.prog X.w) k f fd ps sp) (hr : aE (k + 1) X.A) (hb : bv X.K fd ps []) (hm : X.mg x = some (.ref C)) (hR : eY X E) (ha : QA X (e :: es) t)
    (hc : X.calm = true := by rfl) (hg : Gl X x := by rfl) (hdb : (x == ("__debug__" : Str)) = false := by decide) (hs : aP (e :: es) = true := by rfl) (hps : ps.length ≤ 1000 := by decide) : QS X (.Raise (some (.Call (.Name x np) (e :: es) [] cpos)) none pos) (cS C sp E t) := by
  refine ⟨fun pins s σ H D I h => ?_⟩
  have h' : (bf e && aP es) = true := hs
  rw [arm_exec_Raise]
  refine wpAny_bind (wpAny_standAt (HT.gu Y.ok (I.ok.hd hc) ?_))
  refine wpAny_bind (wpAny_mono ?_ (fun v s₃ h₃ => wpAny_bind (wpAny_standAt (wpAny_pure h₃))) fun _ _ x => x)
  refine wpAny_Call_Name_kw (cc I hg hm ?_ hdb)
  refine W.callWith_K (h₀ := X.base) I.ok.mod.kin Y.kp (thn (ha.out cpos pins s σ H _ I h) fun us s1 ⟨vs, H1, I1, r, q⟩ => ⟨I1.kIn, ?_⟩) (aL (Bool.and_eq_true_iff.mp h').1 es X.env) (bu (Bool.and_eq_true_iff.mp h').2)
  have ka : ∀ b u, s1.heap.get? b = some u → (HT.bX s1.heap C us).get? b = some u := fun b u eb => Heap.get?_push_of_some _ (Heap.get?_push_of_some _ eb)
  have ex : (HT.bX s1.heap C us).get? (s1.heap.objs.size + 1) = some (HT.de C s1.heap.objs.size none) := by heap_get
  have hfr : H1 (s1.heap.objs.size + 1) = none := I1.hok.fresh (Nat.le_succ _)
  have I2 : Inv X pins σ (upd H1 (s1.heap.objs.size + 1) (bc C (s1.heap.objs.size + 1) none)) { s1 with heap := HT.bX s1.heap C us, toks := s1.toks } := I1.laid ka (Nat.le_succ _) (fA ex)
  have hq := q (s1.heap.objs.size + 1) hfr
  have r2 : au (V.ref (s1.heap.objs.size + 1) :: vs) (Value.ref (s1.heap.objs.size + 1) :: us) := .cons rfl r
  have hl : (Value.ref (s1.heap.objs.size + 1) :: us).length = ps.length := by rw [← r2.length]; exact F.len _ _ _ _ hq
  have hb' := hb { s1 with heap := HT.bX s1.heap C us } (Value.ref (s1.heap.objs.size + 1) :: us) I2.kIn (by rw [List.append_nil]; exact hl)
  rw [List.append_nil] at hb'
  have husz : us.length ≤ sizeLine := by
    rw [List.length_cons] at hl
    rw [sizeLine_eq]; omega
  refine wpAny_call (HT.gx I1.kIn Y.ok Y.init (beq_iff_eq.mp Y.fn) husz (codeAny_mono (F.run _ X.stack _ _ ⟨Value.ref (s1.heap.objs.size + 1) :: us, []⟩ (Value.ref (s1.heap.objs.size + 1) :: us) _ _ _ (hr.make C us []) (I2.env0.make C us []) hb' r2 hq) fun rr s' hq' => ?_))
  cases rr with
  | error e' =>
    obtain ⟨_, _, _, _, _, _, z⟩ := hq'
    exact z.elim
  | ok fl =>
    cases fl with
    | next => exact False.elim hq'
    | brk => exact False.elim hq'
    | cont => exact False.elim hq'
    | ret u =>
      obtain ⟨v, H', os, bare, un, hok, rv, rfl, d, hd, hE⟩ := hq'
      obtain ⟨t, et⟩ := dI (P := X.prog) (w := X.w) (hok _ _ hd)
      have u1 : Un (frs X.stack) [] H1 H' s1.heap s'.heap := (Un.laid (o := bc C (s1.heap.objs.size + 1) none) ka (Nat.le_succ _) hfr).trans un
      have kin : X.K.In s'.heap := by
        have I3 : Inv X pins σ H' s' := I1.call' (ch := []) os u1 hok bare fun b z => absurd z (by simp)
        exact I3.kIn
      refine ⟨rv, s1.heap.objs.size + 1, t, d, rfl, kin, et, hR pins σ H1 s1 C (s1.heap.objs.size + 1) d (cp (s1.heap.objs.size + 1) H') s' I1 ⟨os, bare, u1.off hfr, hok.off hd, Heap.get?_none_of_le (Nat.le_succ _), cO, ⟨_, _, .ref t, et, rfl, rfl, rfl, ⟨rfl, rfl⟩, rfl⟩⟩ hE⟩
end
end L2
namespace HT
open PySem PySem.Spec PyProof.Rows
section
variable {prog : Program} {w : World} {A : Around} {E : Value → Shared → Prop} {s : Shared} {I : Addr} {fp wr : List Addr} {G : Array GenState → Array GenState → Prop} {n : Nat} {P : Nat → Value → Prop} {St : Nat → Shared → Prop}
end
end HT
namespace L2
open PySem PySem.Spec PyProof.Rows
section
variable {X : Cx} {pins : List (Addr × Obj)} {σ : St} {H : Hp} {s : Shared}
end
section
variable {X : Cx} {a : Expr} {t : TA} {p1 p2 pos1 pos2 : Pos}
end
end L2
namespace HT
open PySem PyProof.Rows
theorem er : entryFor table "proto.unchain" = some Builtin.«proto.unchain» := entryFor_of_fast (by kernel_rfl)
section
variable {prog : Program} {w : World} {A : Around} {E : Value → Shared → Prop} {s : Shared}
theorem gQ {α : Type} {e a : Addr} {Q : α → Shared → Prop} {oe oa : Obj} {ve va : Array Value} (hh : A.handled = some (.ref a)) (ne : a ≠ e) (he : s.heap.get? e = some oe) (hde : oe.data = .fields ve) (hz : 2 < ve.size) (ha : s.heap.get? a = some oa) (hda : oa.data = .fields va) (h2 : va[2]? = some .none)
  (h : E (.ref e) { s with heap := s.heap.update e (Obj.mapFields (·.setIfInBounds 2 (.ref a))) }) : wpAny (model prog w) A (raiseNew (.ref e) : Sem α) Q E s := by
 simp only [raiseNew]
 refine wpAny_bind (wpAny_handled ?_)
 rw [hh]
 have hne : (Value.ref a != Value.ref e) = true := by simp [ne]
 show wpAny _ _ (if (Value.ref a != Value.ref e) = true then _ else _) _ _ s
 rw [if_pos hne]
 refine wpAny_bind (wpAny_holding (wpAny_runValue (codeAny_builtin er ?_)))
 show wpAny _ _ (field (.ref a) 2 >>= _) _ _ s
 refine wpAny_bind (wpAny_field ha hda h2 ?_)
 show wpAny _ _ (if (Value.none == Value.none) = true then _ else _) _ _ s
 rw [if_pos (show (Value.none == Value.none) = true from by decide)]
 refine wpAny_pure ?_
 refine wpAny_bind ?_
 show wpAny _ _ (updateField e 2 (.ref a)) _ _ s
 unfold updateField
 refine wpAny_bind (wpAny_load he ?_)
 rw [hde]
 show wpAny _ _ (if 2 < ve.size then _ else _) _ _ s
 rw [if_pos hz]
 refine wpAny_update he ?_
 exact wpAny_throw h
theorem fM {it a : Addr} {x left step : Int} {Q : Option Value → Shared → Prop} {oa : Obj} {va : Array Value} (hh : A.handled = some (.ref a)) (ha : s.heap.get? a = some oa) (hda : oa.data = .fields va) (h2 : va[2]? = some .none) (hit : IsRangeIter s.heap it x left step) (hleft : left ≤ 0)
   (hQ : ∀ h', Heap.ExtBut it s.heap h' → Q none { s with heap := h' }) : wpAny (model prog w) A (pyNext (.ref it)) Q E s := by
 have hT : s.TypeIs (.ref it) "range_iterator" := ⟨_, hit, rfl⟩
 unfold pyNext
 refine wpAny_bind (wpAny_attempt (wpAny_callSpecial?_slot (name := Str.ofString "__next__") hT F.slot_range_iterator_next
   (wpAny_call_entry F.slot_range_iterator_next hT F.entry_range_iterator_next ?_ (F.args_range_iterator_next_1 _))))
 show wpAny _ _ (field (.ref it) 0 >>= _) _ _ s
 refine wpAny_bind (wpAny_field hit rfl (x := rawInt x) rfl ?_)
 show wpAny _ _ (field (.ref it) 1 >>= _) _ _ s
 refine wpAny_bind (wpAny_field hit rfl (x := rawInt left) rfl ?_)
 show wpAny _ _ (field (.ref it) 2 >>= _) _ _ s
 refine wpAny_bind (wpAny_field hit rfl (x := rawInt step) rfl ?_)
 show wpAny _ _ (if left ≤ 0 then _ else _) _ _ s
 rw [if_pos hleft]
 refine wpAny_bind (wpAny_rule ?_)
 refine wpAny_bind ?_
 show wpAny _ _ (newExc (.type "StopIteration") [] >>= _) _ _ _
 refine wpAny_bind ?_
 simp only [newExc, newTuple]
 refine wpAny_bind (wpAny_newObj_type ?_ (by size_fits))
 refine wpAny_bind (m := firstArgMember _ _) (wpAny_of_eq (a := Value.none) (by first | rfl | (simp only [firstArgMember]; rfl)) ?_)
 refine wpAny_newObj_type ?_ (by size_fits)
 refine gQ (oe := { cls := .type "StopIteration", data := .fields (#[.ref s.heap.objs.size, .none, .none, .none, .bool false, .none] ++ ownMembersOf (.type "StopIteration") []) }) (show A.in1.handled = some (.ref a) from hh) ?_ ?_ rfl (by rw [Array.size_append]; exact Nat.lt_of_lt_of_le (by decide : 2 < 6) (Nat.le_add_right _ _)) (Heap.get?_push_of_some _ (Heap.get?_push_of_some _ ha)) hda h2 ?_
 · exact Nat.ne_of_lt (Nat.lt_of_lt_of_le (Heap.lt_size ha) (by simp))
 · exact Heap.get?_push_size _ rfl
 · refine wpAny_bind (wpAny_isInstance (T := "StopIteration") (b := true) ⟨_, Heap.get?_update_self _ (Heap.get?_push_size _ rfl) rfl, rfl⟩ isSubtype_stop ?_)
   refine wpAny_pure (hQ _ fun b o hb e => ?_)
   exact (Heap.get?_update_other _ _ (Nat.ne_of_gt (Nat.lt_of_lt_of_le (Heap.lt_size e) (by simp)))).trans (Heap.get?_push_of_some _ (Heap.get?_push_of_some _ e))
end
end HT
namespace L2
open PySem PySem.Spec PyProof.Rows
structure bV (k : Nat) (A : Around) : Prop where
 dp : A.depth + 3 * k + 5 < recursionLimit
 un : A.units + 16 * k + 200 < cLine
theorem aE.h {k : Nat} {A : Around} (r : aE k A) {v : Option Value} : bV k (A.mark v) := ⟨r.dp, r.un⟩
theorem bV.deeper {k : Nat} {A : Around} (r : bV (k + 1) A) (env : Env) : bV k (A.deeper env) :=
 ⟨by have := r.dp; show A.depth + 1 + 3 * k + 5 < _; omega, by have := r.un; show A.units + 3 + 16 * k + 200 < _; omega⟩
structure dB (P : Program) (w : World) (K : W.Frag) (mg : Str → Option Value) (base : Heap) (k : Nat) (f : Addr) (fd : FuncData) (ps : List Str) (sp : Sp) : Prop where
 len : ∀ vs H Q E, sp vs H Q E → vs.length = ps.length
 run : ∀ (A : Around) (outer : List Env) (s : Shared) (H : Hp) (args : Args) (us : List Value) (vs : List V) (Q : VK), bV k A → cB P w K mg base A outer s H → BindsTo s fd args (ps.zip us) → au vs us → sp vs H Q E0 →
  codeAny (model P w) A (.call (.ref f) args) (CR (CX1 P w) outer P w H s Q E0) s
def Cx.wild (X : Cx) : Cx := { X with calm := false }
section
variable {CX : CXT} {P : Program} {w : World} {K : W.Frag} {mg : Str → Option Value} {base : Heap} {k : Nat} {f : Addr} {N ps : List Str} {sp : Sp}
theorem gk {qual : Str} {scope : Scope} {cd : Value} {A : Around} {outer : List Env} {s s1 : Shared} {H : Hp} {E : XK} {us : List Value} {vs : List V}
  (S : aJ N ps scope) (e0 : cB P w K mg base A outer s H) (hl : vs.length = ps.length) (r : au vs us)
  (x : InCallC s s.heap.objs.size (bindL (envOfC qual scope s.heap.objs.size f cd).kindOf (ps.zip us) fun _ => none) (cellsFrom (s.heap.objs.size + 1) scope.names []) (bindC (envOfC qual scope s.heap.objs.size f cd).kindOf (ps.zip us) fun _ => none) s1) :
  Inv (bg CX P w K mg base N qual scope f cd A outer s H E).wild [] (aZ N vs) H s1 := by
 have I := ei (CX := CX) (E := E) (A := { A with handled := none }) S rfl ⟨e0.frames, e0.mod, e0.bs, e0.bsz, e0.funs, e0.frf, e0.hok, e0.bare⟩ hl r x
 have ok := I.ok
 exact ⟨⟨ok.mod, ok.kind, ok.glob, ok.blt, ok.above, ok.inj, ok.has, ok.cab, fun h => absurd (show false = true from h) Bool.false_ne_true, Around.frames_deeper e0.frames, ok.stk, ok.exf, ok.bs, ok.bsz, ok.noex, ok.exfs, ok.funs, ok.frf⟩, I.os, I.bare, I.base, I.loc, I.cell, I.free, I.freeC, I.pin, I.hok, I.len⟩
theorem Fun.okH {x qual : Str} {st : Stmt} {fd : FuncData} {t : TS} (F : Fun K x qual st f fd) (S : aJ N ps (ai st)) (len : ∀ vs H Q E, sp vs H Q E → vs.length = ps.length)
    (hrd : ∀ (vs : List V) (H : Hp) (Q : VK) (E : XK), sp vs H Q E → t { nx := fun _ H' => Q .non H', rt := Q } (aZ N vs) H)
    (hq : ∀ (cdv : Value) (A : Around) (outer : List Env) (s : Shared) (H : Hp) (E : XK), bV k (A.deeper (envOfC qual (ai st) s.heap.objs.size f cdv)) → QSs (bg (CX1 P w) P w K mg base N qual (ai st) f cdv A outer s H E).wild.nox (aD st) t) : dB P w K mg base (k + 1) f fd ps sp := by
  obtain ⟨oc, od, kV, doc, pm, an, cdv, ct, osl, rfl, lk, hcd⟩ := F.ex
  refine ⟨len, fun A outer s H args us vs Q hr e0 hb r hsp => ?_⟩
  have hl := len _ _ _ _ hsp
  have KX : K.In s.heap := e0.mod.kin.keeps fun b o e => (e0.bs b o e).1
  have lim : s.heap.NoLimit := e0.mod.nolimit.keeps fun b o e => (e0.bs b o e).1
  have hkind : ∀ y ∈ ps.zip us, (ai st).names.lookup y.1 = some .local ∨ ((ai st).names.lookup y.1 = some .cell ∧ ((cellsFrom (s.heap.objs.size + 1) (ai st).names []).lookup y.1).isSome = true) := fun ⟨n, v⟩ hy => by
    rcases S.par n (List.of_mem_zip hy).1 with q | q
    · exact .inl q
    · exact .inr ⟨q, W.cellsFrom_some _ _ _ (.inl q)⟩
  have hdep : A.depth < recursionLimit := by have := hr.dp; omega
  refine codeAny_call_function hdep (KX _ _ lk) rfl S.co S.gen rfl (W.codeRec_of KX hcd) (hb _ _ _ _ ?_)
  refine wpAny_newFunctionEnv_cells S.kind hkind fun env he s1 x => ?_
  subst he
  refine ⟨lim.keeps x.toInCall.keep, codeAny_func ?_⟩
  have ht : PSs (bg (CX1 P w) P w K mg base N qual (ai st) f cdv A outer s H E0).wild (aD st) t := (hq cdv A outer s H E0 (hr.deeper _)).out.nox
  have I : Inv (bg (CX1 P w) P w K mg base N qual (ai st) f cdv A outer s H E0).wild [] (aZ N vs) H s1 := gk S e0 hl r x
  refine wpAny_mono (ht [] s1 (aZ N vs) H _ I (hrd vs H Q E0 hsp)) (fun fl s' hs => ?_) fun e s' hs => hs
  have fin : ∀ {σ' : St} {H' : Hp} {v : V} {u : Value}, Inv (bg (CX1 P w) P w K mg base N qual (ai st) f cdv A outer s H E0).wild [] σ' H' s' → aw v u → Q v H' → CE outer P w H s Q u s' :=
    fun {σ' H' v u} J rv q => ⟨v, H', J.os, J.bare, J.base, J.hok, rv, q⟩
  cases fl with
  | ret u =>
    obtain ⟨v, σ', H', J, rv, q⟩ := hs
    exact fin J rv q
  | next =>
    obtain ⟨σ', H', J, q⟩ := hs
    exact fin (v := V.non) (u := Value.none) J rfl q
  | brk =>
    obtain ⟨_, _, _, q⟩ := hs
    exact False.elim q
  | cont =>
    obtain ⟨_, _, _, q⟩ := hs
    exact False.elim q
end
section
variable {X : Cx} {k : Nat} {f : Addr} {fd : FuncData} {ps : List Str} {sp : Sp} {x q : Str} {p pos : Pos} {e : Expr} {es : List Expr} {t : TA} {st : Stmt}
theorem jf {pins : List (Addr × Obj)} {σ : St} {H : Hp} {s : Shared} {Q : VK} {us : List Value} {vs : List V} (F : dB X.prog X.w X.K X.mg X.base k f fd ps sp) (hr : bV k X.A) (hb : bv X.K fd ps [])
    (I : Inv X pins σ H s) (r : au vs us) (h : sp vs H Q E0) : wpAny (model X.prog X.w) X.A (call (.ref f) us) (EP X pins σ Q) X.xe s := by
  have hl : us.length = ps.length := by rw [← r.length]; exact F.len _ _ _ _ h
  have hb' := hb s us I.kIn (by rw [List.append_nil]; exact hl)
  rw [List.append_nil] at hb'
  refine wpAny_call (codeAny_mono (F.run X.A X.stack s H ⟨us, []⟩ us vs Q hr I.env0 hb' r h) fun r s' hq => ?_)
  cases r with
  | error e => exact iN (X := X) pins σ H s e s' I hq
  | ok fl =>
    cases fl with
    | ret u => exact I.after hq
    | next => exact False.elim hq
    | brk => exact False.elim hq
    | cont => exact False.elim hq
theorem iE (F : dB X.prog X.w X.K X.mg X.base k f fd ps sp) (hr : bV k X.A) (M : Fm X.K X.mg x q st f fd ps)
  (ha : QA X (e :: es) t) (hg : Gl X x := by rfl) (hdb : (x == ("__debug__" : Str)) = false := by decide) (hs : aP (e :: es) = true := by rfl) : QE X (.Call (.Name x p) (e :: es) [] pos) (aW sp (fun _ => E0) t) := by
 refine ⟨fun pins s σ H Q I h => ?_⟩
 have h' : (bf e && aP es) = true := hs
 refine wpAny_Call_Name_kw (cc I hg M.m ?_ hdb)
 refine W.callWith_K (h₀ := X.base) I.ok.mod.kin M.f.kp (thn (ha.out pos pins s σ H _ I h) fun us s1 ⟨vs, H1, I1, r, q⟩ => ⟨I1.kIn, ?_⟩) (aL (Bool.and_eq_true_iff.mp h').1 es X.env) (bu (Bool.and_eq_true_iff.mp h').2)
 exact jf F hr M.b I1 r q
end
structure fU (ah : Addr) (P : Program) (w : World) (K : W.Frag) (tg : Expr) (J : It) (fp : List Addr) (it : Addr) (tn : Nat → Heap → Prop) : Prop where
 mem : it ∈ fp
 obj : ∀ i h, tn i h → ∀ b ∈ fp, ∃ o, h.get? b = some o ∧ ∀ v, o.data ≠ .cell v
 keep : ∀ i h h', tn i h → (∀ b ∈ fp, ∀ o, h.get? b = some o → h'.get? b = some o) → tn i h'
 item : ∀ (X : Cx), X.prog = P → X.w = w → X.K = K → X.A.handled = some (.ref ah) → ∀ (i : Nat) (pins : List (Addr × Obj)) (s : Shared) (σ : St) (H : Hp) (E : Value → Shared → Prop), Inv X pins σ H s → (∀ b ∈ fp, bN X pins H b) → tn i s.heap → J.go i H →
  wpAny (model P w) X.A (pyNext (.ref it)) (fun r s1 => ∃ u, r = some u ∧
   wpAny (model P w) X.A (letOwnedTupleGo tg (.ref it) u) (fun _ s2 => ∃ x H', Inv X pins σ H' s2 ∧ aw x u ∧ J.yld i H x H' ∧ tn (i + 1) s2.heap ∧ ∀ b ∈ fp, H' b = none) E s1) E s
 done : ∀ (X : Cx), X.prog = P → X.w = w → X.K = K → X.A.handled = some (.ref ah) → ∀ (i : Nat) (pins : List (Addr × Obj)) (s : Shared) (σ : St) (H : Hp) (E : Value → Shared → Prop), Inv X pins σ H s → (∀ b ∈ fp, bN X pins H b) → tn i s.heap → J.stop i H →
  wpAny (model P w) X.A (pyNext (.ref it)) (fun r s1 => r = none ∧ Inv X pins σ H s1) E s
 self : ∀ (A : Around) (i : Nat) (s : Shared) (Q : Value → Shared → Prop) (E : Value → Shared → Prop), tn i s.heap → Q (.ref it) s → wpAny (model P w) A (pyIter (.ref it)) Q E s
def lb (ah : Addr) (X : Cx) (pins : List (Addr × Obj)) (σ : St) (tg : Expr) (R : It → Hp → Prop) (itv : Value) (s2 : Shared) : Prop :=
 ∃ (it : Addr) (fp : List Addr) (tn : Nat → Heap → Prop) (J : It) (H' : Hp), itv = .ref it ∧ Inv X pins σ H' s2 ∧ fU ah X.prog X.w X.K tg J fp it tn ∧ tn 0 s2.heap ∧ (∀ b ∈ fp, bN X pins H' b) ∧ R J H'
def PIH (ah : Addr) (X : Cx) (tg iter : Expr) (wi : TI) : Prop :=
 ∀ (pins : List (Addr × Obj)) (s : Shared) (σ : St) (H : Hp) (R : It → Hp → Prop), Inv X pins σ H s → wi σ H R →
  wpAny (model X.prog X.w) X.A (eval iter X.env) (fun v s1 => wpAny (model X.prog X.w) X.A (pyIter v) (lb ah X pins σ tg R) X.xe s1) X.xe s
def fO (ah : Addr) (lo : Int) (n : Nat) : It := ⟨(Itr lo n).go, (Itr lo n).yld, fun i H => (Itr lo n).stop i H ∧ ∃ C d, H ah = some (aR C d ah)⟩
theorem fh {P : Program} {w : World} {K : W.Frag} {tg : Expr} (ah it : Addr) (lo : Int) (n : Nat) : fU ah P w K tg (fO ah lo n) [it] it (fun i h => IsRangeIter h it (lo + (i : Nat) * 1) ((n : Int) - (i : Nat)) 1) where
 mem := by simp
 obj := fun i h st b hb => by
  have e : b = it := by simpa using hb
  subst e
  exact ⟨_, st, fun v z => by
   have z' : Data.fields _ = Data.cell v := z
   cases z'⟩
 keep := fun i h h' st k => k it (by simp) _ st
 item := by
  intro X hP hw hK hc i pins s σ H E I hf st hg
  subst hP hw hK
  obtain ⟨f0, f1, f2, f3, f4, f5⟩ := hf it (by simp)
  have hi : i < n := hg
  refine wpAny_pyNext_range_item st (by omega) fun h' st0 hs' => ?_
  have e1 : lo + ((i + 1 : Nat) : Int) * 1 = lo + (i : Int) * 1 + 1 := by push_cast; omega
  have e2 : (n : Int) - ((i + 1 : Nat) : Int) = (n : Int) - (i : Int) - 1 := by push_cast; omega
  have st' : IsRangeIter h' it (lo + ((i + 1 : Nat) : Int) * 1) ((n : Int) - ((i + 1 : Nat) : Int)) 1 := by rw [e1, e2]; exact st0
  have I1 : Inv X pins σ H { s with heap := h', toks := s.toks + 1 } := I.turned (fun b o hb e => hs'.extBut b o hb e) f0 f1 f3 f4 f5
  refine ⟨_, rfl, dy (s := { s with heap := h', toks := s.toks + 1 }) (n := "range_iterator") st' rfl rfl (by decide) ⟨.int (lo + i), H, I1, ⟨s.toks, ?_⟩, ⟨rfl, rfl⟩, st', fun b hb => (hf b hb).1⟩⟩
  rw [Int.mul_one]
 done := by
  intro X hP hw hK hc i pins s σ H E I hf st hg
  subst hP hw hK
  obtain ⟨f0, f1, f2, f3, f4, f5⟩ := hf it (by simp)
  obtain ⟨hg, C, d, he⟩ := hg
  obtain ⟨o, vs, h1, h2, h3, h4, h5⟩ := dP (P := X.prog) (w := X.w) (I.hok ah _ he)
  exact HT.fM hc h1 h4 h5 st (by have : n ≤ i := hg; omega) fun h' eb => ⟨rfl, I.turned (t' := s.toks) (fun b o hb e => eb b o hb e) f0 f1 f3 f4 f5⟩
 self := fun _ _ _ _ _ st h => wpAny_pyIter_rangeiter st h
section
variable {X : Cx} {tg : Expr} {ah : Addr}
theorem gL {pins : List (Addr × Obj)} {σ : St} {H : Hp} {s : Shared} {R : It → Hp → Prop} {E : Value → Shared → Prop} {lo hi : Int} {t u v : Tok} {tk : Nat} (I : Inv X pins σ H s) (h1 : -(2 ^ 62) ≤ lo) (h2 : lo < 2 ^ 62) (h3 : -(2 ^ 62) ≤ hi) (h4 : hi < 2 ^ 62)
   (q : R (fO ah lo (hi - lo).toNat) H) : wpAny (model X.prog X.w) X.A (pyIter (.ref s.heap.objs.size)) (lb ah X pins σ tg R) E { s with heap := s.heap.push { cls := .type "range", data := .fields #[.int lo t, .int hi u, .int 1 v] }, toks := tk } := by
 refine wpAny_pyIter_range (IsRange.new ..) (small_one h1 h2 h3 h4) ?_
 have I1 : Inv X pins σ H { s with heap := s.heap.push { cls := .type "range", data := .fields #[.int lo t, .int hi u, .int 1 v] }, toks := tk } := I.kept fun b o e => Heap.get?_push_of_some _ e
 refine ⟨(s.heap.push { cls := .type "range", data := .fields #[.int lo t, .int hi u, .int 1 v] }).objs.size, [(s.heap.push { cls := .type "range", data := .fields #[.int lo t, .int hi u, .int 1 v] }).objs.size], _, _, H, rfl,
   I1.kept (t' := tk) fun b o e => Heap.get?_push_of_some _ e, fh ah _ lo (hi - lo).toNat, ?_, fun b hb => ?_, q⟩
 · have e1 : lo + ((0 : Nat) : Int) * 1 = lo := by simp
   have e2 : (((hi - lo).toNat : Nat) : Int) - ((0 : Nat) : Int) = Builtin.Range.rangeSize lo hi 1 := by rw [rangeSize_one]; split <;> omega
   show IsRangeIter _ _ (lo + ((0 : Nat) : Int) * 1) ((((hi - lo).toNat : Nat) : Int) - ((0 : Nat) : Int)) 1
   rw [e1, e2]
   exact Heap.get?_push_size _ rfl
 · have e : b = (s.heap.push { cls := .type "range", data := .fields #[.int lo t, .int hi u, .int 1 v] }).objs.size := by simpa using hb
   subst e
   exact I1.fpOk (Nat.le_refl _) (I1.hok.fresh (Nat.le_refl _))
def gr (ah : Addr) (ta : TA) : TI := fun σ H R => ta σ H fun vs H1 => ∃ j : Int, vs = [.int j] ∧ -(2 ^ 62) ≤ j ∧ j < 2 ^ 62 ∧ R (fO ah 0 j.toNat) H1
theorem gG {a : Expr} {ta : TA} {p pos : Pos} (hg : Gl X "range") (hm : X.mg "range" = none) (ha : PA X [a] ta) (hs : starEach [a] X.env = [(false, eval a X.env)] := by rfl) : PIH ah X tg (.Call (.Name "range" p) [a] [] pos) (gr ah ta) := by
  intro pins s σ H R I h
  refine Call_ (cI I hg hm boot_range (PyProof.Rows.callWith_type1 (thn (ha pos pins s σ H _ I h) fun us s1 ⟨vs, H1, I1, r1, q1⟩ => ?_) hs rfl))
  obtain ⟨j, e, q1, q2, q⟩ := q1
  subst e
  cases r1 with
  | cons r rr =>
    cases rr
    obtain ⟨t, rfl⟩ := r
    exact call_range_1 (gL I1 (by omega) (by omega) q1 q2 (by simpa using q))
theorem fD {ah : Addr} {elt iter : Expr} {ifs : List Expr} {x : Str} {px pos : Pos} {scope : Scope} {ys : List Str} {is : List Nat} {tc : TT} {te : TE} {pins : List (Addr × Obj)} {σ : St} {H2 : Hp} {s2 : Shared} {it : Addr} {fp : List Addr} {tn : Nat → Heap → Prop} {J : It} {E : Value → Shared → Prop} {Q : VK} {RR : Value → Addr → Result → Shared → Prop}
    (hc : X.A.handled = some (.ref ah)) (S : bU scope x ys) (hcap : bW X scope ys is)
    (hif : ∀ C s H fp, kl (aF X scope C (x :: ys) s H fp) ifs tc) (he : ∀ C s H fp, PE (aF X scope C (x :: ys) s H fp) elt te)
    (I2 : Inv X pins σ H2 s2) (T : fU ah X.prog X.w X.K (.Name x px) J fp it tn) (st2 : tn 0 s2.heap) (f2 : ∀ b ∈ fp, bN X pins H2 b)
    (hW : ∀ D, H2 D = none → ∃ W : Nat → Nat → List V → Hp → Prop, (∃ m, W 0 m [] (upd H2 D (.lst []))) ∧
      ∀ i m ys H2, W i m ys H2 → (J.stop i H2 ∧ Q (.ref D) H2) ∨ (J.go i H2 ∧ ∀ x H3, J.yld i H2 x H3 → tc (some x :: aG σ is) H3 fun b H4 => if b = true then
        te (some x :: aG σ is) H4 fun y H5 => H5 D = some (.lst ys) ∧ ys.length < sizeLine ∧ ∃ m', m' < m ∧ W (i + 1) m' (ys ++ [y]) (upd H5 D (.lst (ys ++ [y])))
        else ∃ m', m' < m ∧ W (i + 1) m' ys H4))
    (hRR : ∀ D C H' s', (X.s₀.heap.objs.size ≤ C ∧ ∀ p ∈ X.pn ++ pins, p.1 ≠ C) → (∃ m, s'.heap.Ns C m) → C ≠ X.env.locals → H' C = none → Inv X pins σ H' s' → (∀ h', Heap.SameBut C s'.heap h' → Inv X pins σ H' { s' with heap := h' }) → Q (.ref D) H' → RR (.ref D) C (.ok .next) s') :
    wpAny (model X.prog X.w) X.A (newList []) (fun acc s₃ => wpAny (model X.prog X.w) X.A (newFunctionEnv scope X.env.globals (bq scope.names X.env.cells []) [] X.env.qual none .none (some X.env)) (fun cenv s₄ =>
      codeAny (model X.prog X.w) X.A (.compStart (.ListComp elt [⟨.Name x px, iter, ifs, 0⟩] scope pos) 0 (.ref it) acc { cenv with scope := relabel scope X.env }) (RR acc cenv.locals) s₄) E s₃) E s2 := by
  have hf2 : H2 s2.heap.objs.size = none := I2.fresh
  refine wpAny_newObj_type (wpAny_newFunctionEnv S.nocell (by intro y hy; simp at hy) (fun h₁ hns₁ hsb₁ => ?_) S.kind)
  dsimp only at hns₁ hsb₁ ⊢
  have I3 : Inv X pins σ (upd H2 s2.heap.objs.size (.lst [])) { s2 with heap := s2.heap.push { cls := .type "list", data := .seq ([] : List Value).toArray } } := I2.lnew (t' := s2.toks) (ys := []) .nil (Nat.zero_le _)
  obtain ⟨W, ⟨m0, w0⟩, turn⟩ := hW _ hf2
  generalize hD : s2.heap.objs.size = D at I3 w0 turn hf2 ⊢
  generalize hs3 : ({ s2 with heap := s2.heap.push { cls := .type "list", data := .seq ([] : List Value).toArray } } : Shared) = s3 at I3
  have hp3 : s2.heap.push { cls := .type "list", dict := none, data := .seq ([] : List Value).toArray } = s3.heap := by rw [← hs3]
  rw [hp3] at hns₁ hsb₁ ⊢
  have tk3 : s2.toks = s3.toks := by rw [← hs3]
  generalize hH3 : upd H2 D (.lst []) = H3 at I3 w0
  generalize hC : s3.heap.objs.size = C at hns₁ hsb₁ ⊢
  have keep2 : ∀ b o, s2.heap.get? b = some o → s3.heap.get? b = some o := fun b o e => by rw [← hp3]; exact Heap.get?_push_of_some _ e
  have keep3 : ∀ b o, s3.heap.get? b = some o → h₁.get? b = some o := fun b o e => hsb₁.extBut b o (by rw [← hC]; exact Nat.ne_of_lt (Heap.lt_size e)) (Heap.get?_push_of_some _ e)
  have st3 : tn 0 s3.heap := T.keep _ _ _ st2 fun b _ o e => keep2 b o e
  have st4 : tn 0 h₁ := T.keep _ _ _ st3 fun b _ o e => keep3 b o e
  have fp3 : ∀ b ∈ fp, H3 b = none ∧ b < C := fun b hb => by
    obtain ⟨o, e, _⟩ := T.obj _ _ st2 b hb
    refine ⟨?_, by rw [← hC]; exact Heap.lt_size (keep2 b o e)⟩
    rw [← hH3, ak (by rw [← hD]; exact Nat.ne_of_lt (Heap.lt_size e))]
    exact (f2 b hb).1
  have hcells : ∀ {z : Str} {c : Addr}, (bq scope.names X.env.cells []).lookup z = some c → X.env.cells.lookup z = some c := fun h => dX (fun _ _ q => by cases q) h
  have hX : (aF X scope C (x :: ys) s3 H3 fp).Ok := by
    refine ⟨I3.ok.mod, S.kind, I3.ok.glob, I3.ok.blt, Nat.le_of_eq hC, fun y z c h1 h2 => I3.ok.inj y z c (hcells h1) (hcells h2), fun y hy => ?_, fun y c h _ => absurd (show false = true from h) Bool.false_ne_true, I3.ok.hd, I3.ok.frames, .inl rfl, fun b hb => ⟨Nat.ne_of_lt (fp3 b hb).2, fun y c h => (f2 b hb).2.2.2.2.1 y c (hcells h)⟩, fun b o e => I3.bs b o e, Nat.le_trans I3.ok.bsz I3.sz, fun b o e hb => ?_, fun b hb z => ?_, I3.stack, I3.stkFree⟩
    · have hy : (relabel scope X.env).names.lookup y = some .cell ∨ (relabel scope X.env).names.lookup y = some .free := hy
      have hm : (y, NameKind.free) ∈ scope.names := by
        rcases hy with q | q
        · exact cg S.nocell q (.inl rfl)
        · exact cg S.nocell q (.inr rfl)
      have hs : ∃ c, X.env.cells.lookup y = some c := by
        by_cases hk : X.env.kindOf y = some .cell ∨ X.env.kindOf y = some .free
        · exact I3.ok.has y hk
        · exact absurd (dU hcap (S.all _ hm rfl)) hk
      exact Option.isSome_iff_exists.mp (cJ hm (Option.isSome_iff_exists.mpr hs))
    · rcases (f2 b hb).2.2.2.1 with z | z
      · exact I3.ok.noex b o e z
      · exact absurd (Nat.lt_of_lt_of_le (Heap.lt_size e) (Nat.le_trans I3.ok.bsz z)) (Nat.lt_irrefl _)
    · rcases List.mem_cons.mp (I3.stkSub b z) with q | q
      · exact (f2 b hb).2.1 q
      · exact (f2 b hb).2.2.1 q
  have I4 : Inv (aF X scope C (x :: ys) s3 H3 fp) [] (none :: aG σ is) H3 { s2 with heap := h₁, toks := s2.toks + ([] : List (Str × Value)).length } := by
    obtain ⟨m3, hm3, hl3⟩ := id I3.loc
    refine ⟨hX, ?_, ?_, Un.kept keep3, ⟨_, hns₁, fun i y v e1 e2 e3 => ?_⟩, fun y c e => ?_, ?_, fun y c e => I3.freeC y c (hcells e), fun p hp => absurd (show p ∈ ([] : List (Addr × Obj)) from hp) (by simp), I3.hok.kept keep3, ?_⟩
    · show s2.os = s3.os
      rw [← hs3]
    · have := I2.bare; exact this
    · cases i with
      | zero => simp at e2
      | succ j =>
        obtain ⟨u, r, hfr, c, ec, ic⟩ := gw hcap hl3 trivial j y v (by have e1' : (x :: ys)[j + 1]? = some y := e1; simpa using e1') (by simpa using e2)
        have hk := eR (env := X.env) hfr
        obtain ⟨c', ec'⟩ := Option.isSome_iff_exists.mp (cJ (cs := []) (du hfr) (by rw [ec]; rfl) (cells := X.env.cells))
        have : c' = c := by have := hcells ec'; rw [ec] at this; exact (Option.some.inj this).symm
        subst this
        obtain ⟨o, ho, hd⟩ := ic
        exact ⟨u, r, .inr ⟨hk, c', ec', o, keep3 _ _ ho, hd⟩⟩
    · obtain ⟨v, o, ho, hd⟩ := I3.cell y c (hcells e)
      exact ⟨v, o, keep3 _ _ ho, hd⟩
    · have := I3.hok.fresh (a := C) (Nat.le_of_eq hC)
      exact this
    · have := gS hcap
      show (none :: aG σ is).length = (x :: ys).length
      simp [aG, this]
  have lenσ : ∀ v : Option V, (v :: aG σ is).set 0 = fun w => w :: aG σ is := fun v => rfl
  have hown : (relabel scope X.env).names.lookup x = some .local := eu S.own
  have loop : codeAny (model X.prog X.w) X.A (.compLoop (.ListComp elt [⟨.Name x px, iter, ifs, 0⟩] scope pos) 0 (.ref it) (.ref D) (compEnvC scope (bq scope.names X.env.cells []) C X.env)) (RR (.ref D) C)
      { s2 with heap := h₁, toks := s2.toks + ([] : List (Str × Value)).length } := by
    have fin : ∀ {H' : Hp} {v : Option V} {s' : Shared}, Inv (aF X scope C (x :: ys) s3 H3 fp) [] (v :: aG σ is) H' s' → Q (.ref D) H' → RR (.ref D) C (.ok .next) s' := fun {H' v s'} J q => by
      obtain ⟨m', hm', _⟩ := J.loc
      have hCL : C ≠ X.env.locals := Ne.symm (by rw [← hC]; exact Nat.ne_of_lt I3.lt)
      have back : ∀ h', Heap.SameBut C s'.heap h' → Inv X pins σ H' { s' with heap := h' } := fun h' hs' => by
        have os' : s'.os = s3.os := J.os
        refine I3.call' (s' := { s' with heap := h' }) (ch := fp) os' ⟨fun b o e n hb hx => ?_, fun b o e n hb hx => ?_, fun b o e n hx => J.base.free b o e n hx, fun b o e hx => ?_, J.base.tups, J.base.frzs, J.base.tbls⟩ (fun b o e => ?_) J.bare fun b hb => ?_
        · exact hs'.extBut b o (by rw [← hC]; exact Nat.ne_of_lt (Heap.lt_size e)) (J.base.keep b o e n hb hx)
        · obtain ⟨sl, e1⟩ := J.base.slot b o e n hb hx
          exact ⟨sl, hs'.extBut b _ (by rw [← hC]; exact Nat.ne_of_lt (Heap.lt_size e)) e1⟩
        · obtain ⟨o', e1⟩ := J.base.there b o e hx
          exact ⟨o', hs'.extBut b _ (by rw [← hC]; exact Nat.ne_of_lt (Heap.lt_size e)) e1⟩
        · refine (J.hok b o e).stay (fun c w' hc q => (hs'.2 c ?_).trans q) (fun _ q => q) fun _ _ q => q
          have fC : H' C = none := J.free
          rintro rfl
          rcases hc with rfl | hc
          · rw [fC] at e; cases e
          · rw [fC] at hc; cases hc
        · obtain ⟨_, a1, _, a2, a3, a4⟩ := f2 b hb
          exact ⟨a2, a1, a3, a4⟩
      refine hRR D C H' s' ⟨by rw [← hC]; exact I3.sz, fun p hp => by rw [← hC]; exact Nat.ne_of_lt (Heap.lt_size (I3.pin p hp).1)⟩ ⟨m', hm'⟩ hCL J.free ?_ back q
      have := back s'.heap (.refl ..)
      exact this
    have stat : ∀ {H' : Hp}, (∀ b ∈ fp, H' b = none) → ∀ b ∈ fp, bN (aF X scope C (x :: ys) s3 H3 fp) [] H' b := fun hn b hb => by
      obtain ⟨_, a1, a5, a2, a3, a4⟩ := f2 b hb
      refine ⟨hn b hb, Nat.ne_of_lt (fp3 b hb).2, fun z => ?_, .inl hb, fun y c e => a3 y c (hcells e), fun p hp => absurd (show p ∈ ([] : List (Addr × Obj)) from hp) (by simp)⟩
      rcases List.mem_cons.mp (I3.stkSub b z) with q | q
      · exact a1 q
      · exact a5 q
    have turnAt : ∀ n s, (∃ i v ys' H', Inv (aF X scope C (x :: ys) s3 H3 fp) [] (v :: aG σ is) H' s ∧ tn i s.heap ∧ (∀ b ∈ fp, H' b = none) ∧ W i n ys' H') →
        wpAny (model X.prog X.w) X.A (pyNext (.ref it)) (fun r s₁ => match r with
          | none => RR (.ref D) C (.ok .next) s₁
          | some u => wpAny (model X.prog X.w) X.A (letOwnedTupleGo (.Name x px) (.ref it) u) (fun _ s₁ => wpAny (model X.prog X.w) X.A (assign (.Name x px) (compEnvC scope (bq scope.names X.env.cells []) C X.env) u) (fun _ s₂ =>
            ∃ (xx : V) (i : Nat) (ys' : List V) (H3' H6 : Hp) (pl : List (Addr × Obj)), Inv (aF X scope C (x :: ys) s3 H3 fp) ([] ++ pl) (some xx :: aG σ is) H6 s₂ ∧
              (∀ s7 v7 H7, Inv (aF X scope C (x :: ys) s3 H3 fp) ([] ++ pl) (v7 :: aG σ is) H7 s7 → Inv (aF X scope C (x :: ys) s3 H3 fp) [] (v7 :: aG σ is) H7 s7 ∧ tn (i + 1) s7.heap ∧ ∀ b ∈ fp, H7 b = none) ∧
              (tc (some xx :: aG σ is) H6 fun b H4 => if b = true then te (some xx :: aG σ is) H4 fun y H5 => H5 D = some (.lst ys') ∧ ys'.length < sizeLine ∧ ∃ m', m' < n ∧ W (i + 1) m' (ys' ++ [y]) (upd H5 D (.lst (ys' ++ [y])))
                else ∃ m', m' < n ∧ W (i + 1) m' ys' H4)) (fun _ _ => False) s₁) (fun _ _ => False) s₁) (fun _ _ => False) s := by
      rintro n s ⟨i, v, ys', H', J, st, fr, w'⟩
      rcases turn i n ys' H' w' with ⟨stop, qn⟩ | ⟨go, step⟩
      · refine thn (T.done (aF X scope C (x :: ys) s3 H3 fp) rfl rfl rfl hc i [] s _ H' (fun _ _ => False) J (stat fr) st stop) fun r s4 ⟨hr, J4⟩ => ?_
        subst hr
        exact fin J4 qn
      · refine thn (T.item (aF X scope C (x :: ys) s3 H3 fp) rfl rfl rfl hc i [] s _ H' (fun _ _ => False) J (stat fr) st go) fun r s4 ⟨u, hr, h4⟩ => ?_
        subst hr
        refine thn h4 fun _ s5 ⟨xx, H5, J5, r5, y5, st5, fr5⟩ => ?_
        have J5' := J5.pinned (stat fr5) (T.obj _ _ st5)
        refine wpAny_assign_Name (bQ (i := 0) J5' S.nd rfl (.inl hown) r5 (fun s6 J6 => ?_) (.inr hown))
        refine ⟨xx, i, ys', H5, H5, cL fp s5.heap, J6, fun s7 v7 H7 J7 => ⟨J7.unpinned, T.keep _ _ _ st5 fun b hb o e => (J7.pin (b, o) (List.mem_append_right _ (List.mem_append_right _ (bL hb e)))).1, fun b hb => ?_⟩, step xx H5 y5⟩
        obtain ⟨o, e, d⟩ := T.obj _ _ st5 b hb
        exact (J7.pin (b, o) (List.mem_append_right _ (List.mem_append_right _ (bL hb e)))).2.1
    have start0 : ∃ i v ys' H', Inv (aF X scope C (x :: ys) s3 H3 fp) [] (v :: aG σ is) H' { s2 with heap := h₁, toks := s2.toks + ([] : List (Str × Value)).length } ∧ tn i h₁ ∧ (∀ b ∈ fp, H' b = none) ∧ W i m0 ys' H' :=
      ⟨0, none, [], H3, I4, st4, fun b hb => (fp3 b hb).1, w0⟩
    have emit : ∀ (n : Nat) (xx : V) (i : Nat) (ys' : List V) (H4 : Hp) (pl : List (Addr × Obj)) (s₂ : Shared), Inv (aF X scope C (x :: ys) s3 H3 fp) ([] ++ pl) (some xx :: aG σ is) H4 s₂ →
        (∀ s7 v7 H7, Inv (aF X scope C (x :: ys) s3 H3 fp) ([] ++ pl) (v7 :: aG σ is) H7 s7 → Inv (aF X scope C (x :: ys) s3 H3 fp) [] (v7 :: aG σ is) H7 s7 ∧ tn (i + 1) s7.heap ∧ ∀ b ∈ fp, H7 b = none) →
        (te (some xx :: aG σ is) H4 fun y H5 => H5 D = some (.lst ys') ∧ ys'.length < sizeLine ∧ ∃ m', m' < n ∧ W (i + 1) m' (ys' ++ [y]) (upd H5 D (.lst (ys' ++ [y])))) →
        wpAny (model X.prog X.w) X.A (eval elt (compEnvC scope (bq scope.names X.env.cells []) C X.env)) (fun y s₃ => wpAny (model X.prog X.w) X.A (call (.builtin "list.append") [.ref D, y]) (fun _ s₄ =>
          ∃ m, m < n ∧ ∃ i v ys' H', Inv (aF X scope C (x :: ys) s3 H3 fp) [] (v :: aG σ is) H' s₄ ∧ tn i s₄.heap ∧ (∀ b ∈ fp, H' b = none) ∧ W i m ys' H') (fun _ _ => False) s₃) (fun _ _ => False) s₂ := by
      intro n xx i ys' H4 pl s₂ J2 back q
      refine thn (he C s3 H3 fp ([] ++ pl) s₂ _ H4 _ J2 q) fun y s₃ ⟨yv, H5, J3, r3, q1, q2, q3⟩ => ?_
      refine thn (gv (X := aF X scope C (x :: ys) s3 H3 fp) ([] ++ pl) s₃ _ H5 (.ref D) [yv] (.ref D) [y] (fun v H7 => v = .non ∧ H7 = upd H5 D (.lst (ys' ++ [yv]))) J3 rfl (.cons r3 .nil) ⟨D, ys', yv, rfl, rfl, q1, q2, rfl, rfl⟩) fun _ s₄ ⟨_, H7, J4, _, _, e7⟩ => ?_
      subst e7
      obtain ⟨m', hm', w'⟩ := q3
      obtain ⟨b1, b2, b3⟩ := back s₄ _ _ J4
      exact ⟨m', hm', i + 1, some xx, ys' ++ [yv], _, b1, b2, b3, w'⟩
    have ex0 : ∀ {α : Type} {t : Sem α} {Q' : α → Shared → Prop} {E' : Value → Shared → Prop} {s : Shared}, wpAny (model X.prog X.w) X.A t Q' (fun _ _ => False) s → wpAny (model X.prog X.w) X.A t Q' E' s := fun h => wpAny_mono h (fun _ _ q => q) fun _ _ q => q.elim
    cases ifs with
    | nil =>
      have htc : tc = fun _ H Q => Q true H := hif C s3 H3 fp
      subst htc
      refine cE (fun n s => ∃ i v ys' H', Inv (aF X scope C (x :: ys) s3 H3 fp) [] (v :: aG σ is) H' s ∧ tn i s.heap ∧ (∀ b ∈ fp, H' b = none) ∧ W i n ys' H') (fun n s hI => ?_) m0 start0
      refine wpAny_mono (turnAt n s hI) (fun r s₁ h₁ => ?_) fun _ _ q => q.elim
      cases r with
      | none => exact h₁
      | some u =>
        refine wpAny_mono h₁ (fun _ s₁ h₁ => wpAny_mono h₁ (fun _ s₂ h₂ => ?_) fun _ _ q => q.elim) fun _ _ q => q.elim
        obtain ⟨xx, i, ys', _, H6, pl, J2, back, q⟩ := h₂
        dsimp only at q
        rw [if_pos rfl] at q
        exact wpAny_mono (emit n xx i ys' H6 pl s₂ J2 back q) (fun y s₃ h₃ => ex0 h₃) fun _ _ q => q.elim
    | cons c r0 =>
      cases r0 with
      | cons _ _ => exact (hif C s3 H3 fp).elim
      | nil =>
        have hpt : PT (aF X scope C (x :: ys) s3 H3 fp) c tc := hif C s3 H3 fp
        refine cD (fun n s => ∃ i v ys' H', Inv (aF X scope C (x :: ys) s3 H3 fp) [] (v :: aG σ is) H' s ∧ tn i s.heap ∧ (∀ b ∈ fp, H' b = none) ∧ W i n ys' H') (fun n s hI => ?_) m0 start0
        refine wpAny_mono (turnAt n s hI) (fun r s₁ h₁ => ?_) fun _ _ q => q.elim
        cases r with
        | none => exact h₁
        | some u =>
          refine wpAny_mono h₁ (fun _ s₁ h₁ => wpAny_mono h₁ (fun _ s₂ h₂ => ?_) fun _ _ q => q.elim) fun _ _ q => q.elim
          obtain ⟨xx, i, ys', _, H6, pl, J2, back, q⟩ := h₂
          refine wpAny_mono (hpt ([] ++ pl) s₂ _ H6 _ J2 q) (fun b s₃ h₃ => ?_) fun _ _ q => q.elim
          obtain ⟨H4, J4, q4⟩ := h₃
          cases b with
          | true =>
            rw [if_pos rfl] at q4 ⊢
            exact wpAny_mono (emit n xx i ys' H4 pl s₃ J4 back q4) (fun y s₃ h₃ => ex0 h₃) fun _ _ q => q.elim
          | false =>
            rw [if_neg Bool.false_ne_true] at q4 ⊢
            obtain ⟨m', hm', w'⟩ := q4
            obtain ⟨b1, b2, b3⟩ := back s₃ _ _ J4
            exact ⟨m', hm', i + 1, some xx, ys', _, b1, b2, b3, w'⟩
  exact codeAny_compStart_list loop (T.self X.A 0 _ _ _ st4 loop)
theorem fb {ah : Addr} {elt iter : Expr} {ifs : List Expr} {x y : Str} {px py pos spos : Pos} {scope : Scope} {ys : List Str} {is : List Nat} {wi : TI} {tc : TT} {te : TE} {j : Nat}
  (hN : X.N.Nodup) (hj : X.N[j]? = some y) (hy : Loc X.env.scope y)
  (hc : X.A.handled = some (.ref ah)) (S : bU scope x ys) (hcap : bW X scope ys is) (hi : PIH ah X (.Name x px) iter wi)
  (hif : ∀ C s H fp, kl (aF X scope C (x :: ys) s H fp) ifs tc) (he : ∀ C s H fp, PE (aF X scope C (x :: ys) s H fp) elt te)
  (hsw : swapsWith (.ListComp elt [⟨.Name x px, iter, ifs, 0⟩] scope pos) (some (.Name y py)) spos.line X.env = pure true := by rfl)
  (hf : X.fn y = true ∨ X.env.scope.names.lookup y = some .local := by first | exact .inl rfl | exact .inr rfl | assumption)
  (hs : ∀ x, foldedSetIterable iter X.env x = pure x := by intro _; rfl) : PS X (.Assign [.Name y py] (.ListComp elt [⟨.Name x px, iter, ifs, 0⟩] scope pos) spos) (bP (fH is wi tc te) (bj j)) := by
 intro pins s σ H D I h
 rw [exec_Assign_Name_used _ _ _ _ hsw]
 refine wpAny_bind (wpAny_standAt (wpAny_bind ?_))
 show wpAny _ X.A (do let _ ← comprehension (.ListComp elt [⟨.Name x px, iter, ifs, 0⟩] scope pos) scope X.env _ (newList []) false (eval iter X.env) (some (assign (.Name y py) X.env))) _ _ s
 refine wpAny_bind (wpAny_mono (wpAny_comprehension_free (use := some (assign (.Name y py) X.env)) (Q := fun _ s' => SP X pins D .next s') rfl hs (je I.ok S hcap) S.kind S.names
  (thn (hi pins s σ H _ I h) fun v s1 h1 => thn h1 fun itv s2 h2 => ?_)) (fun _ s' hq => wpAny_pure (wpAny_pure hq)) fun _ _ e => e)
 obtain ⟨it, fp, tn, J, H2, rfl, I2, T, st2, f2, hW⟩ := h2
 refine fD (Q := fun x H1 => bj j x σ H1 D.nx) (RR := fun acc C => compPost (model X.prog X.w) X.A X.xe (some (assign (.Name y py) X.env)) (fun _ s' => SP X pins D .next s') acc C) hc S hcap hif he I2 T st2 f2 hW ?_
 intro Da C H' s' hlt hns hne hfr I' back q
 show wpAny _ X.A (assign (.Name y py) X.env (.ref Da)) _ _ _
 obtain ⟨m, hm⟩ := hns
 refine wpAny_assign_Name (dR I' hN hj hy (v := .ref Da) rfl (fun s2 I2' ⟨a, hsb, ha⟩ => ?_) hf)
 have hCa : C ≠ a := by
  rcases ha with e | e
  · rw [e]; exact hne
  · rintro rfl
    obtain ⟨v, o, ho, hd⟩ := I'.cell y C e
    obtain ⟨o2, es, ep, ho2, hd2, _⟩ := hm
    rw [ho] at ho2; cases ho2; rw [hd] at hd2; cases hd2
 refine ⟨m, hm.sameBut hsb hCa, fun h' hs' => ?_⟩
 have hCn : ∀ y c, X.env.cells.lookup y = some c → c ≠ C := fun z c e q => by
  subst q
  obtain ⟨v, o, ho, hd⟩ := I'.cell z c e
  obtain ⟨o2, es, ep, ho2, hd2, _⟩ := hm
  rw [ho] at ho2; cases ho2; rw [hd] at hd2; cases hd2
 have I3 : Inv X pins (σ.set j (some (.ref Da))) H' { s2 with heap := h' } := by
  refine I2'.step (g' := s2.gens) (d' := s2.drawn) (t' := s2.toks) (ch := [C]) (fun b hb => ?_) (fun b o _ _ hb e _ => (hs'.2 b (fun z => hb (by simp [z]))).trans e) (fun b o _ _ hb e _ => ⟨o.slots, (hs'.2 b (fun z => hb (by simp [z]))).trans e⟩) (fun _ _ _ _ n => n) (fun b o hb e => ⟨o, (hs'.2 b (fun z => hb (by simp [z]))).trans e⟩)
    (fun _ _ e => e) (fun _ _ _ e => e) (fun b ps e => ⟨#[], by rw [e]; simp⟩) (fun m' hm' => hm'.sameBut hs' (Ne.symm hne)) (fun b o e => ?_) I2'.bare
  · have e : b = C := by simpa using hb
    subst e
    exact ⟨.inr hlt.1, hne, fun z c e => hCn z c e, hlt.2⟩
  · refine (I2'.hok b o e).stay (fun c w' hc q => (hs'.2 c ?_).trans q) (fun _ q => q) fun _ _ q => q
    rintro rfl
    rcases hc with rfl | hc
    · rw [hfr] at e; cases e
    · rw [hfr] at hc; cases hc
 exact ⟨_, H', I3, q⟩
variable {x y : Str} {elt a : Expr} {t : TA} {te : TE} {scope : Scope} {ys : List Str} {is : List Nat} {px py p pos pos2 spos : Pos}
theorem gH (j : Nat) (hh : X.A.handled = some (.ref ah)) (hN : X.N.Nodup) (S : bU scope x ys) (hcap : bW X scope ys is) (hm : X.mg "range" = none) (ha : QA X [a] t)
  (he : ∀ C s H fp, QE (aF X scope C (x :: ys) s H fp) elt te) (hg : Gl X "range" := by rfl) (hst : bf a = true := by rfl)
  (hj : X.N[j]? = some y := by rfl) (hy : Loc X.env.scope y := by first | exact .inl rfl | exact .inr rfl)
  (hsw : swapsWith (.ListComp elt [⟨.Name x px, .Call (.Name "range" p) [a] [] pos2, [], 0⟩] scope pos) (some (.Name y py)) spos.line X.env = pure true := by rfl) (hf : X.fn y = true ∨ X.env.scope.names.lookup y = some .local := by first | exact .inl rfl | exact .inr rfl)
  (hs : ∀ x, foldedSetIterable (.Call (.Name "range" p) [a] [] pos2) X.env x = pure x := by intro _; rfl) : QS X (.Assign [.Name y py] (.ListComp elt [⟨.Name x px, .Call (.Name "range" p) [a] [] pos2, [], 0⟩] scope pos) spos) (bP (fH is (gr ah t) (fun _ H Q => Q true H) te) (bj j)) :=
 ⟨fb hN hj hy hh S hcap (gG hg hm ha.out (aL hst [] X.env)) (fun C s H fp => rfl) (fun C s H fp => (he C s H fp).out) hsw hf hs⟩
end
end L2
namespace Rs
open PySem PySem.Spec PyProof.Rows L2
def fR (s : Stmt) (j : Nat) : Stmt := match s with
 | .ClassDef _ _ _ b _ _ _ _ _ _ _ => b.getD j (.Pass ⟨0, 0, 0, 0⟩)
 | _ => .Pass ⟨0, 0, 0, 0⟩
def top (i : Nat) : Stmt := PySem.Challenge.pw_rootstamp_k07_refusals.main.body.getD i (.Pass ⟨0, 0, 0, 0⟩)
abbrev s_4 : Stmt := top 22
abbrev s_9 : Stmt := top 23
abbrev s_1 : Stmt := fR (top 18) 0
abbrev s_0 : Stmt := fR (top 19) 0
abbrev s_2 : Stmt := fR (top 20) 0
abbrev dQ : Stmt := top 24
abbrev s_7 : Stmt := top 25
abbrev s_5 : Stmt := top 26
abbrev s_6 : Stmt := top 27
abbrev s_8 : Stmt := top 28
abbrev s_3 : Stmt := top 29
abbrev hU : Stmt := top 30
set_option genInjectivity false in
set_option genSizeOf false in
abbrev Rd (sp : Sp) (t : TS) (N : List Str) : Prop := ∀ (vs : List V) (H : Hp) (Q : VK) (E : XK), sp vs H Q E → t { nx := fun _ H' => Q .non H', rt := Q } (L2.aZ N vs) H
abbrev Ln (sp : Sp) (n : Nat) : Prop := ∀ vs H Q E, sp vs H Q E → vs.length = n
structure Adr where
 a_4 : Addr
 d_4 : FuncData
 a_9 : Addr
 d_9 : FuncData
 a_1 : Addr
 d_1 : FuncData
 a_0 : Addr
 d_0 : FuncData
 a_2 : Addr
 d_2 : FuncData
 a_10 : Addr
 d_10 : FuncData
 a_7 : Addr
 d_7 : FuncData
 a_5 : Addr
 d_5 : FuncData
 a_6 : Addr
 d_6 : FuncData
 a_8 : Addr
 d_8 : FuncData
 a_3 : Addr
 d_3 : FuncData
 a_11 : Addr
 d_11 : FuncData
 c_NoStamp : Addr
 c_NoPlace : Addr
 c_NoPaper : Addr
 c_NoStretch : Addr
 c_Missing : Addr
 c_NoValue : Addr
 c_NoKey : Addr
 c_NoBits : Addr
 c_NoTerm : Addr
 c_NoRow : Addr
 c_NoName : Addr
 c_NoWay : Addr
 c_Silent : Addr
 c_Elder : Addr
 c_Unsealed : Addr
 c_NoHead : Addr
 c_NoPart : Addr
 c_Broken : Addr
 c_Parted : Addr
 c_StampError : Addr
set_option genInjectivity false in
set_option genSizeOf false in
structure Txt (K : W.Frag) (mg : Str → Option Value) (A : Adr) : Prop where
 f_4 : Fm K mg "_law_first" "_law_first" s_4 A.a_4 A.d_4 ["_law_k"]
 f_9 : Fm K mg "_law_second" "_law_second" s_9 A.a_9 A.d_9 ["_law_k"]
 f_1 : Fun K "__init__" "NoPart.__init__" s_1 A.a_1 A.d_1
 b_1 : bv K A.d_1 ["self", "depth", "begin"] []
 f_0 : Fun K "__init__" "Broken.__init__" s_0 A.a_0 A.d_0
 b_0 : bv K A.d_0 ["self", "due", "came"] []
 f_2 : Fun K "__init__" "Parted.__init__" s_2 A.a_2 A.d_2
 b_2 : bv K A.d_2 ["self", "due", "came"] []
 f_10 : Fm K mg "_law_third" "_law_third" dQ A.a_10 A.d_10 ["_law_k", "_law_one", "_law_other"]
 f_7 : Fm K mg "_law_raised" "_law_raised" s_7 A.a_7 A.d_7 ["_law_k", "_law_one", "_law_other"]
 f_5 : Fm K mg "_law_of_first" "_law_of_first" s_5 A.a_5 A.d_5 ["_law_e"]
 f_6 : Fm K mg "_law_of_second" "_law_of_second" s_6 A.a_6 A.d_6 ["_law_e"]
 f_8 : Fm K mg "_law_right" "_law_right" s_8 A.a_8 A.d_8 ["_law_k", "_law_one", "_law_other"]
 f_3 : Fm K mg "_law_fields" "_law_fields" s_3 A.a_3 A.d_3 ["_law_one", "_law_other"]
 f_11 : Fm K mg "law" "law" hU A.a_11 A.d_11 ["_law_script"]
 z_ValueError : mg "ValueError" = none
 z_isinstance : mg "isinstance" = none
 z_range : mg "range" = none
 z_str : mg "str" = none
 mc_NoStamp : mg "NoStamp" = some (.ref A.c_NoStamp)
 eo_NoStamp : av K A.c_NoStamp
 mc_NoPlace : mg "NoPlace" = some (.ref A.c_NoPlace)
 eo_NoPlace : av K A.c_NoPlace
 mc_NoPaper : mg "NoPaper" = some (.ref A.c_NoPaper)
 eo_NoPaper : av K A.c_NoPaper
 mc_NoStretch : mg "NoStretch" = some (.ref A.c_NoStretch)
 eo_NoStretch : av K A.c_NoStretch
 mc_Missing : mg "Missing" = some (.ref A.c_Missing)
 eo_Missing : av K A.c_Missing
 mc_NoValue : mg "NoValue" = some (.ref A.c_NoValue)
 eo_NoValue : av K A.c_NoValue
 mc_NoKey : mg "NoKey" = some (.ref A.c_NoKey)
 eo_NoKey : av K A.c_NoKey
 mc_NoBits : mg "NoBits" = some (.ref A.c_NoBits)
 eo_NoBits : av K A.c_NoBits
 mc_NoTerm : mg "NoTerm" = some (.ref A.c_NoTerm)
 eo_NoTerm : av K A.c_NoTerm
 mc_NoRow : mg "NoRow" = some (.ref A.c_NoRow)
 eo_NoRow : av K A.c_NoRow
 mc_NoName : mg "NoName" = some (.ref A.c_NoName)
 eo_NoName : av K A.c_NoName
 mc_NoWay : mg "NoWay" = some (.ref A.c_NoWay)
 eo_NoWay : av K A.c_NoWay
 mc_Silent : mg "Silent" = some (.ref A.c_Silent)
 eo_Silent : av K A.c_Silent
 mc_Elder : mg "Elder" = some (.ref A.c_Elder)
 eo_Elder : av K A.c_Elder
 mc_Unsealed : mg "Unsealed" = some (.ref A.c_Unsealed)
 eo_Unsealed : av K A.c_Unsealed
 mc_NoHead : mg "NoHead" = some (.ref A.c_NoHead)
 eo_NoHead : av K A.c_NoHead
 mc_NoPart : mg "NoPart" = some (.ref A.c_NoPart)
 eo_NoPart : av K A.c_NoPart
 mc_Broken : mg "Broken" = some (.ref A.c_Broken)
 eo_Broken : av K A.c_Broken
 mc_Parted : mg "Parted" = some (.ref A.c_Parted)
 eo_Parted : av K A.c_Parted
 mc_StampError : mg "StampError" = some (.ref A.c_StampError)
 eo_StampError : av K A.c_StampError
 er_NoStamp : ap K A.c_NoStamp
 er_NoPlace : ap K A.c_NoPlace
 er_NoPaper : ap K A.c_NoPaper
 er_NoStretch : ap K A.c_NoStretch
 er_Missing : ap K A.c_Missing
 er_NoValue : ap K A.c_NoValue
 er_NoKey : ap K A.c_NoKey
 er_NoBits : ap K A.c_NoBits
 er_NoTerm : ap K A.c_NoTerm
 er_NoRow : ap K A.c_NoRow
 er_NoName : ap K A.c_NoName
 er_NoWay : ap K A.c_NoWay
 er_Silent : ap K A.c_Silent
 er_Elder : ap K A.c_Elder
 er_Unsealed : ap K A.c_Unsealed
 er_NoHead : ap K A.c_NoHead
 eg_NoStamp : ay K A.c_NoStamp
 eg_NoPlace : ay K A.c_NoPlace
 eg_NoPaper : ay K A.c_NoPaper
 eg_NoStretch : ay K A.c_NoStretch
 eg_Missing : ay K A.c_Missing
 eg_NoValue : ay K A.c_NoValue
 eg_NoKey : ay K A.c_NoKey
 eg_NoBits : ay K A.c_NoBits
 eg_NoTerm : ay K A.c_NoTerm
 eg_NoRow : ay K A.c_NoRow
 eg_NoName : ay K A.c_NoName
 eg_NoWay : ay K A.c_NoWay
 eg_Silent : ay K A.c_Silent
 eg_Elder : ay K A.c_Elder
 eg_Unsealed : ay K A.c_Unsealed
 eg_NoHead : ay K A.c_NoHead
 eg_NoPart : ay K A.c_NoPart
 eg_Broken : ay K A.c_Broken
 eg_Parted : ay K A.c_Parted
 ef_NoPart_begin : HT.br K A.c_NoPart "begin"
 ef_NoPart_depth : HT.br K A.c_NoPart "depth"
 ef_Broken_came : HT.br K A.c_Broken "came"
 ef_Broken_due : HT.br K A.c_Broken "due"
 ef_Parted_came : HT.br K A.c_Parted "came"
 ef_Parted_due : HT.br K A.c_Parted "due"
 em_Parted : eB K A.c_Parted A.a_2
 em_Broken : eB K A.c_Broken A.a_0
 em_NoPart : eB K A.c_NoPart A.a_1
 sb_NoStamp_StampError : ag K A.c_NoStamp A.c_StampError = some true
 sb_NoStamp_Parted : ag K A.c_NoStamp A.c_Parted = some false
 sb_NoStamp_Broken : ag K A.c_NoStamp A.c_Broken = some false
 sb_NoStamp_NoPart : ag K A.c_NoStamp A.c_NoPart = some false
 sb_NoPlace_StampError : ag K A.c_NoPlace A.c_StampError = some true
 sb_NoPlace_Parted : ag K A.c_NoPlace A.c_Parted = some false
 sb_NoPlace_Broken : ag K A.c_NoPlace A.c_Broken = some false
 sb_NoPlace_NoPart : ag K A.c_NoPlace A.c_NoPart = some false
 sb_NoPaper_StampError : ag K A.c_NoPaper A.c_StampError = some true
 sb_NoPaper_Parted : ag K A.c_NoPaper A.c_Parted = some false
 sb_NoPaper_Broken : ag K A.c_NoPaper A.c_Broken = some false
 sb_NoPaper_NoPart : ag K A.c_NoPaper A.c_NoPart = some false
 sb_NoStretch_StampError : ag K A.c_NoStretch A.c_StampError = some true
 sb_NoStretch_Parted : ag K A.c_NoStretch A.c_Parted = some false
 sb_NoStretch_Broken : ag K A.c_NoStretch A.c_Broken = some false
 sb_NoStretch_NoPart : ag K A.c_NoStretch A.c_NoPart = some false
 sb_Missing_StampError : ag K A.c_Missing A.c_StampError = some true
 sb_Missing_Parted : ag K A.c_Missing A.c_Parted = some false
 sb_Missing_Broken : ag K A.c_Missing A.c_Broken = some false
 sb_Missing_NoPart : ag K A.c_Missing A.c_NoPart = some false
 sb_NoValue_StampError : ag K A.c_NoValue A.c_StampError = some true
 sb_NoValue_Parted : ag K A.c_NoValue A.c_Parted = some false
 sb_NoValue_Broken : ag K A.c_NoValue A.c_Broken = some false
 sb_NoValue_NoPart : ag K A.c_NoValue A.c_NoPart = some false
 sb_NoKey_StampError : ag K A.c_NoKey A.c_StampError = some true
 sb_NoKey_Parted : ag K A.c_NoKey A.c_Parted = some false
 sb_NoKey_Broken : ag K A.c_NoKey A.c_Broken = some false
 sb_NoKey_NoPart : ag K A.c_NoKey A.c_NoPart = some false
 sb_NoBits_StampError : ag K A.c_NoBits A.c_StampError = some true
 sb_NoBits_Parted : ag K A.c_NoBits A.c_Parted = some false
 sb_NoBits_Broken : ag K A.c_NoBits A.c_Broken = some false
 sb_NoBits_NoPart : ag K A.c_NoBits A.c_NoPart = some false
 sb_NoTerm_StampError : ag K A.c_NoTerm A.c_StampError = some true
 sb_NoTerm_Parted : ag K A.c_NoTerm A.c_Parted = some false
 sb_NoTerm_Broken : ag K A.c_NoTerm A.c_Broken = some false
 sb_NoTerm_NoPart : ag K A.c_NoTerm A.c_NoPart = some false
 sb_NoRow_StampError : ag K A.c_NoRow A.c_StampError = some true
 sb_NoRow_Parted : ag K A.c_NoRow A.c_Parted = some false
 sb_NoRow_Broken : ag K A.c_NoRow A.c_Broken = some false
 sb_NoRow_NoPart : ag K A.c_NoRow A.c_NoPart = some false
 sb_NoName_StampError : ag K A.c_NoName A.c_StampError = some true
 sb_NoName_Parted : ag K A.c_NoName A.c_Parted = some false
 sb_NoName_Broken : ag K A.c_NoName A.c_Broken = some false
 sb_NoName_NoPart : ag K A.c_NoName A.c_NoPart = some false
 sb_NoWay_StampError : ag K A.c_NoWay A.c_StampError = some true
 sb_NoWay_Parted : ag K A.c_NoWay A.c_Parted = some false
 sb_NoWay_Broken : ag K A.c_NoWay A.c_Broken = some false
 sb_NoWay_NoPart : ag K A.c_NoWay A.c_NoPart = some false
 sb_Silent_StampError : ag K A.c_Silent A.c_StampError = some true
 sb_Silent_Parted : ag K A.c_Silent A.c_Parted = some false
 sb_Silent_Broken : ag K A.c_Silent A.c_Broken = some false
 sb_Silent_NoPart : ag K A.c_Silent A.c_NoPart = some false
 sb_Elder_StampError : ag K A.c_Elder A.c_StampError = some true
 sb_Elder_Parted : ag K A.c_Elder A.c_Parted = some false
 sb_Elder_Broken : ag K A.c_Elder A.c_Broken = some false
 sb_Elder_NoPart : ag K A.c_Elder A.c_NoPart = some false
 sb_Unsealed_StampError : ag K A.c_Unsealed A.c_StampError = some true
 sb_Unsealed_Parted : ag K A.c_Unsealed A.c_Parted = some false
 sb_Unsealed_Broken : ag K A.c_Unsealed A.c_Broken = some false
 sb_Unsealed_NoPart : ag K A.c_Unsealed A.c_NoPart = some false
 sb_NoHead_StampError : ag K A.c_NoHead A.c_StampError = some true
 sb_NoHead_Parted : ag K A.c_NoHead A.c_Parted = some false
 sb_NoHead_Broken : ag K A.c_NoHead A.c_Broken = some false
 sb_NoHead_NoPart : ag K A.c_NoHead A.c_NoPart = some false
 sb_NoPart_StampError : ag K A.c_NoPart A.c_StampError = some true
 sb_NoPart_Parted : ag K A.c_NoPart A.c_Parted = some false
 sb_NoPart_Broken : ag K A.c_NoPart A.c_Broken = some false
 sb_NoPart_NoPart : ag K A.c_NoPart A.c_NoPart = some true
 sb_Broken_StampError : ag K A.c_Broken A.c_StampError = some true
 sb_Broken_Parted : ag K A.c_Broken A.c_Parted = some false
 sb_Broken_Broken : ag K A.c_Broken A.c_Broken = some true
 sb_Broken_NoPart : ag K A.c_Broken A.c_NoPart = some false
 sb_Parted_StampError : ag K A.c_Parted A.c_StampError = some true
 sb_Parted_Parted : ag K A.c_Parted A.c_Parted = some true
 sb_Parted_Broken : ag K A.c_Parted A.c_Broken = some false
 sb_Parted_NoPart : ag K A.c_Parted A.c_NoPart = some false
 ki_NoStamp_NoStamp : W.kitOne K (.ref A.c_NoStamp) (.ref A.c_NoStamp) = some true
 ki_NoStamp_NoPlace : W.kitOne K (.ref A.c_NoStamp) (.ref A.c_NoPlace) = some false
 ki_NoStamp_NoPaper : W.kitOne K (.ref A.c_NoStamp) (.ref A.c_NoPaper) = some false
 ki_NoStamp_NoStretch : W.kitOne K (.ref A.c_NoStamp) (.ref A.c_NoStretch) = some false
 ki_NoStamp_Missing : W.kitOne K (.ref A.c_NoStamp) (.ref A.c_Missing) = some false
 ki_NoStamp_NoValue : W.kitOne K (.ref A.c_NoStamp) (.ref A.c_NoValue) = some false
 ki_NoStamp_NoKey : W.kitOne K (.ref A.c_NoStamp) (.ref A.c_NoKey) = some false
 ki_NoStamp_NoBits : W.kitOne K (.ref A.c_NoStamp) (.ref A.c_NoBits) = some false
 ki_NoStamp_NoTerm : W.kitOne K (.ref A.c_NoStamp) (.ref A.c_NoTerm) = some false
 ki_NoStamp_Parted : W.kitOne K (.ref A.c_NoStamp) (.ref A.c_Parted) = some false
 ki_NoStamp_Broken : W.kitOne K (.ref A.c_NoStamp) (.ref A.c_Broken) = some false
 ki_NoStamp_NoPart : W.kitOne K (.ref A.c_NoStamp) (.ref A.c_NoPart) = some false
 ki_NoStamp_NoRow : W.kitOne K (.ref A.c_NoStamp) (.ref A.c_NoRow) = some false
 ki_NoStamp_NoName : W.kitOne K (.ref A.c_NoStamp) (.ref A.c_NoName) = some false
 ki_NoStamp_NoWay : W.kitOne K (.ref A.c_NoStamp) (.ref A.c_NoWay) = some false
 ki_NoStamp_Silent : W.kitOne K (.ref A.c_NoStamp) (.ref A.c_Silent) = some false
 ki_NoStamp_Elder : W.kitOne K (.ref A.c_NoStamp) (.ref A.c_Elder) = some false
 ki_NoStamp_Unsealed : W.kitOne K (.ref A.c_NoStamp) (.ref A.c_Unsealed) = some false
 ki_NoStamp_NoHead : W.kitOne K (.ref A.c_NoStamp) (.ref A.c_NoHead) = some false
 ki_NoStamp_ValueError : W.kitOne K (.ref A.c_NoStamp) (.type "ValueError") = some true
 ki_NoPlace_NoStamp : W.kitOne K (.ref A.c_NoPlace) (.ref A.c_NoStamp) = some false
 ki_NoPlace_NoPlace : W.kitOne K (.ref A.c_NoPlace) (.ref A.c_NoPlace) = some true
 ki_NoPlace_NoPaper : W.kitOne K (.ref A.c_NoPlace) (.ref A.c_NoPaper) = some false
 ki_NoPlace_NoStretch : W.kitOne K (.ref A.c_NoPlace) (.ref A.c_NoStretch) = some false
 ki_NoPlace_Missing : W.kitOne K (.ref A.c_NoPlace) (.ref A.c_Missing) = some false
 ki_NoPlace_NoValue : W.kitOne K (.ref A.c_NoPlace) (.ref A.c_NoValue) = some false
 ki_NoPlace_NoKey : W.kitOne K (.ref A.c_NoPlace) (.ref A.c_NoKey) = some false
 ki_NoPlace_NoBits : W.kitOne K (.ref A.c_NoPlace) (.ref A.c_NoBits) = some false
 ki_NoPlace_NoTerm : W.kitOne K (.ref A.c_NoPlace) (.ref A.c_NoTerm) = some false
 ki_NoPlace_Parted : W.kitOne K (.ref A.c_NoPlace) (.ref A.c_Parted) = some false
 ki_NoPlace_Broken : W.kitOne K (.ref A.c_NoPlace) (.ref A.c_Broken) = some false
 ki_NoPlace_NoPart : W.kitOne K (.ref A.c_NoPlace) (.ref A.c_NoPart) = some false
 ki_NoPlace_NoRow : W.kitOne K (.ref A.c_NoPlace) (.ref A.c_NoRow) = some false
 ki_NoPlace_NoName : W.kitOne K (.ref A.c_NoPlace) (.ref A.c_NoName) = some false
 ki_NoPlace_NoWay : W.kitOne K (.ref A.c_NoPlace) (.ref A.c_NoWay) = some false
 ki_NoPlace_Silent : W.kitOne K (.ref A.c_NoPlace) (.ref A.c_Silent) = some false
 ki_NoPlace_Elder : W.kitOne K (.ref A.c_NoPlace) (.ref A.c_Elder) = some false
 ki_NoPlace_Unsealed : W.kitOne K (.ref A.c_NoPlace) (.ref A.c_Unsealed) = some false
 ki_NoPlace_NoHead : W.kitOne K (.ref A.c_NoPlace) (.ref A.c_NoHead) = some false
 ki_NoPlace_ValueError : W.kitOne K (.ref A.c_NoPlace) (.type "ValueError") = some true
 ki_NoPaper_NoStamp : W.kitOne K (.ref A.c_NoPaper) (.ref A.c_NoStamp) = some false
 ki_NoPaper_NoPlace : W.kitOne K (.ref A.c_NoPaper) (.ref A.c_NoPlace) = some false
 ki_NoPaper_NoPaper : W.kitOne K (.ref A.c_NoPaper) (.ref A.c_NoPaper) = some true
 ki_NoPaper_NoStretch : W.kitOne K (.ref A.c_NoPaper) (.ref A.c_NoStretch) = some false
 ki_NoPaper_Missing : W.kitOne K (.ref A.c_NoPaper) (.ref A.c_Missing) = some false
 ki_NoPaper_NoValue : W.kitOne K (.ref A.c_NoPaper) (.ref A.c_NoValue) = some false
 ki_NoPaper_NoKey : W.kitOne K (.ref A.c_NoPaper) (.ref A.c_NoKey) = some false
 ki_NoPaper_NoBits : W.kitOne K (.ref A.c_NoPaper) (.ref A.c_NoBits) = some false
 ki_NoPaper_NoTerm : W.kitOne K (.ref A.c_NoPaper) (.ref A.c_NoTerm) = some false
 ki_NoPaper_Parted : W.kitOne K (.ref A.c_NoPaper) (.ref A.c_Parted) = some false
 ki_NoPaper_Broken : W.kitOne K (.ref A.c_NoPaper) (.ref A.c_Broken) = some false
 ki_NoPaper_NoPart : W.kitOne K (.ref A.c_NoPaper) (.ref A.c_NoPart) = some false
 ki_NoPaper_NoRow : W.kitOne K (.ref A.c_NoPaper) (.ref A.c_NoRow) = some false
 ki_NoPaper_NoName : W.kitOne K (.ref A.c_NoPaper) (.ref A.c_NoName) = some false
 ki_NoPaper_NoWay : W.kitOne K (.ref A.c_NoPaper) (.ref A.c_NoWay) = some false
 ki_NoPaper_Silent : W.kitOne K (.ref A.c_NoPaper) (.ref A.c_Silent) = some false
 ki_NoPaper_Elder : W.kitOne K (.ref A.c_NoPaper) (.ref A.c_Elder) = some false
 ki_NoPaper_Unsealed : W.kitOne K (.ref A.c_NoPaper) (.ref A.c_Unsealed) = some false
 ki_NoPaper_NoHead : W.kitOne K (.ref A.c_NoPaper) (.ref A.c_NoHead) = some false
 ki_NoPaper_ValueError : W.kitOne K (.ref A.c_NoPaper) (.type "ValueError") = some true
 ki_NoStretch_NoStamp : W.kitOne K (.ref A.c_NoStretch) (.ref A.c_NoStamp) = some false
 ki_NoStretch_NoPlace : W.kitOne K (.ref A.c_NoStretch) (.ref A.c_NoPlace) = some false
 ki_NoStretch_NoPaper : W.kitOne K (.ref A.c_NoStretch) (.ref A.c_NoPaper) = some false
 ki_NoStretch_NoStretch : W.kitOne K (.ref A.c_NoStretch) (.ref A.c_NoStretch) = some true
 ki_NoStretch_Missing : W.kitOne K (.ref A.c_NoStretch) (.ref A.c_Missing) = some false
 ki_NoStretch_NoValue : W.kitOne K (.ref A.c_NoStretch) (.ref A.c_NoValue) = some false
 ki_NoStretch_NoKey : W.kitOne K (.ref A.c_NoStretch) (.ref A.c_NoKey) = some false
 ki_NoStretch_NoBits : W.kitOne K (.ref A.c_NoStretch) (.ref A.c_NoBits) = some false
 ki_NoStretch_NoTerm : W.kitOne K (.ref A.c_NoStretch) (.ref A.c_NoTerm) = some false
 ki_NoStretch_Parted : W.kitOne K (.ref A.c_NoStretch) (.ref A.c_Parted) = some false
 ki_NoStretch_Broken : W.kitOne K (.ref A.c_NoStretch) (.ref A.c_Broken) = some false
 ki_NoStretch_NoPart : W.kitOne K (.ref A.c_NoStretch) (.ref A.c_NoPart) = some false
 ki_NoStretch_NoRow : W.kitOne K (.ref A.c_NoStretch) (.ref A.c_NoRow) = some false
 ki_NoStretch_NoName : W.kitOne K (.ref A.c_NoStretch) (.ref A.c_NoName) = some false
 ki_NoStretch_NoWay : W.kitOne K (.ref A.c_NoStretch) (.ref A.c_NoWay) = some false
 ki_NoStretch_Silent : W.kitOne K (.ref A.c_NoStretch) (.ref A.c_Silent) = some false
 ki_NoStretch_Elder : W.kitOne K (.ref A.c_NoStretch) (.ref A.c_Elder) = some false
 ki_NoStretch_Unsealed : W.kitOne K (.ref A.c_NoStretch) (.ref A.c_Unsealed) = some false
 ki_NoStretch_NoHead : W.kitOne K (.ref A.c_NoStretch) (.ref A.c_NoHead) = some false
 ki_NoStretch_ValueError : W.kitOne K (.ref A.c_NoStretch) (.type "ValueError") = some true
 ki_Missing_NoStamp : W.kitOne K (.ref A.c_Missing) (.ref A.c_NoStamp) = some false
 ki_Missing_NoPlace : W.kitOne K (.ref A.c_Missing) (.ref A.c_NoPlace) = some false
 ki_Missing_NoPaper : W.kitOne K (.ref A.c_Missing) (.ref A.c_NoPaper) = some false
 ki_Missing_NoStretch : W.kitOne K (.ref A.c_Missing) (.ref A.c_NoStretch) = some false
 ki_Missing_Missing : W.kitOne K (.ref A.c_Missing) (.ref A.c_Missing) = some true
 ki_Missing_NoValue : W.kitOne K (.ref A.c_Missing) (.ref A.c_NoValue) = some false
 ki_Missing_NoKey : W.kitOne K (.ref A.c_Missing) (.ref A.c_NoKey) = some false
 ki_Missing_NoBits : W.kitOne K (.ref A.c_Missing) (.ref A.c_NoBits) = some false
 ki_Missing_NoTerm : W.kitOne K (.ref A.c_Missing) (.ref A.c_NoTerm) = some false
 ki_Missing_Parted : W.kitOne K (.ref A.c_Missing) (.ref A.c_Parted) = some false
 ki_Missing_Broken : W.kitOne K (.ref A.c_Missing) (.ref A.c_Broken) = some false
 ki_Missing_NoPart : W.kitOne K (.ref A.c_Missing) (.ref A.c_NoPart) = some false
 ki_Missing_NoRow : W.kitOne K (.ref A.c_Missing) (.ref A.c_NoRow) = some false
 ki_Missing_NoName : W.kitOne K (.ref A.c_Missing) (.ref A.c_NoName) = some false
 ki_Missing_NoWay : W.kitOne K (.ref A.c_Missing) (.ref A.c_NoWay) = some false
 ki_Missing_Silent : W.kitOne K (.ref A.c_Missing) (.ref A.c_Silent) = some false
 ki_Missing_Elder : W.kitOne K (.ref A.c_Missing) (.ref A.c_Elder) = some false
 ki_Missing_Unsealed : W.kitOne K (.ref A.c_Missing) (.ref A.c_Unsealed) = some false
 ki_Missing_NoHead : W.kitOne K (.ref A.c_Missing) (.ref A.c_NoHead) = some false
 ki_Missing_ValueError : W.kitOne K (.ref A.c_Missing) (.type "ValueError") = some true
 ki_NoValue_NoStamp : W.kitOne K (.ref A.c_NoValue) (.ref A.c_NoStamp) = some false
 ki_NoValue_NoPlace : W.kitOne K (.ref A.c_NoValue) (.ref A.c_NoPlace) = some false
 ki_NoValue_NoPaper : W.kitOne K (.ref A.c_NoValue) (.ref A.c_NoPaper) = some false
 ki_NoValue_NoStretch : W.kitOne K (.ref A.c_NoValue) (.ref A.c_NoStretch) = some false
 ki_NoValue_Missing : W.kitOne K (.ref A.c_NoValue) (.ref A.c_Missing) = some false
 ki_NoValue_NoValue : W.kitOne K (.ref A.c_NoValue) (.ref A.c_NoValue) = some true
 ki_NoValue_NoKey : W.kitOne K (.ref A.c_NoValue) (.ref A.c_NoKey) = some false
 ki_NoValue_NoBits : W.kitOne K (.ref A.c_NoValue) (.ref A.c_NoBits) = some false
 ki_NoValue_NoTerm : W.kitOne K (.ref A.c_NoValue) (.ref A.c_NoTerm) = some false
 ki_NoValue_Parted : W.kitOne K (.ref A.c_NoValue) (.ref A.c_Parted) = some false
 ki_NoValue_Broken : W.kitOne K (.ref A.c_NoValue) (.ref A.c_Broken) = some false
 ki_NoValue_NoPart : W.kitOne K (.ref A.c_NoValue) (.ref A.c_NoPart) = some false
 ki_NoValue_NoRow : W.kitOne K (.ref A.c_NoValue) (.ref A.c_NoRow) = some false
 ki_NoValue_NoName : W.kitOne K (.ref A.c_NoValue) (.ref A.c_NoName) = some false
 ki_NoValue_NoWay : W.kitOne K (.ref A.c_NoValue) (.ref A.c_NoWay) = some false
 ki_NoValue_Silent : W.kitOne K (.ref A.c_NoValue) (.ref A.c_Silent) = some false
 ki_NoValue_Elder : W.kitOne K (.ref A.c_NoValue) (.ref A.c_Elder) = some false
 ki_NoValue_Unsealed : W.kitOne K (.ref A.c_NoValue) (.ref A.c_Unsealed) = some false
 ki_NoValue_NoHead : W.kitOne K (.ref A.c_NoValue) (.ref A.c_NoHead) = some false
 ki_NoValue_ValueError : W.kitOne K (.ref A.c_NoValue) (.type "ValueError") = some true
 ki_NoKey_NoStamp : W.kitOne K (.ref A.c_NoKey) (.ref A.c_NoStamp) = some false
 ki_NoKey_NoPlace : W.kitOne K (.ref A.c_NoKey) (.ref A.c_NoPlace) = some false
 ki_NoKey_NoPaper : W.kitOne K (.ref A.c_NoKey) (.ref A.c_NoPaper) = some false
 ki_NoKey_NoStretch : W.kitOne K (.ref A.c_NoKey) (.ref A.c_NoStretch) = some false
 ki_NoKey_Missing : W.kitOne K (.ref A.c_NoKey) (.ref A.c_Missing) = some false
 ki_NoKey_NoValue : W.kitOne K (.ref A.c_NoKey) (.ref A.c_NoValue) = some false
 ki_NoKey_NoKey : W.kitOne K (.ref A.c_NoKey) (.ref A.c_NoKey) = some true
 ki_NoKey_NoBits : W.kitOne K (.ref A.c_NoKey) (.ref A.c_NoBits) = some false
 ki_NoKey_NoTerm : W.kitOne K (.ref A.c_NoKey) (.ref A.c_NoTerm) = some false
 ki_NoKey_Parted : W.kitOne K (.ref A.c_NoKey) (.ref A.c_Parted) = some false
 ki_NoKey_Broken : W.kitOne K (.ref A.c_NoKey) (.ref A.c_Broken) = some false
 ki_NoKey_NoPart : W.kitOne K (.ref A.c_NoKey) (.ref A.c_NoPart) = some false
 ki_NoKey_NoRow : W.kitOne K (.ref A.c_NoKey) (.ref A.c_NoRow) = some false
 ki_NoKey_NoName : W.kitOne K (.ref A.c_NoKey) (.ref A.c_NoName) = some false
 ki_NoKey_NoWay : W.kitOne K (.ref A.c_NoKey) (.ref A.c_NoWay) = some false
 ki_NoKey_Silent : W.kitOne K (.ref A.c_NoKey) (.ref A.c_Silent) = some false
 ki_NoKey_Elder : W.kitOne K (.ref A.c_NoKey) (.ref A.c_Elder) = some false
 ki_NoKey_Unsealed : W.kitOne K (.ref A.c_NoKey) (.ref A.c_Unsealed) = some false
 ki_NoKey_NoHead : W.kitOne K (.ref A.c_NoKey) (.ref A.c_NoHead) = some false
 ki_NoKey_ValueError : W.kitOne K (.ref A.c_NoKey) (.type "ValueError") = some true
 ki_NoBits_NoStamp : W.kitOne K (.ref A.c_NoBits) (.ref A.c_NoStamp) = some false
 ki_NoBits_NoPlace : W.kitOne K (.ref A.c_NoBits) (.ref A.c_NoPlace) = some false
 ki_NoBits_NoPaper : W.kitOne K (.ref A.c_NoBits) (.ref A.c_NoPaper) = some false
 ki_NoBits_NoStretch : W.kitOne K (.ref A.c_NoBits) (.ref A.c_NoStretch) = some false
 ki_NoBits_Missing : W.kitOne K (.ref A.c_NoBits) (.ref A.c_Missing) = some false
 ki_NoBits_NoValue : W.kitOne K (.ref A.c_NoBits) (.ref A.c_NoValue) = some false
 ki_NoBits_NoKey : W.kitOne K (.ref A.c_NoBits) (.ref A.c_NoKey) = some false
 ki_NoBits_NoBits : W.kitOne K (.ref A.c_NoBits) (.ref A.c_NoBits) = some true
 ki_NoBits_NoTerm : W.kitOne K (.ref A.c_NoBits) (.ref A.c_NoTerm) = some false
 ki_NoBits_Parted : W.kitOne K (.ref A.c_NoBits) (.ref A.c_Parted) = some false
 ki_NoBits_Broken : W.kitOne K (.ref A.c_NoBits) (.ref A.c_Broken) = some false
 ki_NoBits_NoPart : W.kitOne K (.ref A.c_NoBits) (.ref A.c_NoPart) = some false
 ki_NoBits_NoRow : W.kitOne K (.ref A.c_NoBits) (.ref A.c_NoRow) = some false
 ki_NoBits_NoName : W.kitOne K (.ref A.c_NoBits) (.ref A.c_NoName) = some false
 ki_NoBits_NoWay : W.kitOne K (.ref A.c_NoBits) (.ref A.c_NoWay) = some false
 ki_NoBits_Silent : W.kitOne K (.ref A.c_NoBits) (.ref A.c_Silent) = some false
 ki_NoBits_Elder : W.kitOne K (.ref A.c_NoBits) (.ref A.c_Elder) = some false
 ki_NoBits_Unsealed : W.kitOne K (.ref A.c_NoBits) (.ref A.c_Unsealed) = some false
 ki_NoBits_NoHead : W.kitOne K (.ref A.c_NoBits) (.ref A.c_NoHead) = some false
 ki_NoBits_ValueError : W.kitOne K (.ref A.c_NoBits) (.type "ValueError") = some true
 ki_NoTerm_NoStamp : W.kitOne K (.ref A.c_NoTerm) (.ref A.c_NoStamp) = some false
 ki_NoTerm_NoPlace : W.kitOne K (.ref A.c_NoTerm) (.ref A.c_NoPlace) = some false
 ki_NoTerm_NoPaper : W.kitOne K (.ref A.c_NoTerm) (.ref A.c_NoPaper) = some false
 ki_NoTerm_NoStretch : W.kitOne K (.ref A.c_NoTerm) (.ref A.c_NoStretch) = some false
 ki_NoTerm_Missing : W.kitOne K (.ref A.c_NoTerm) (.ref A.c_Missing) = some false
 ki_NoTerm_NoValue : W.kitOne K (.ref A.c_NoTerm) (.ref A.c_NoValue) = some false
 ki_NoTerm_NoKey : W.kitOne K (.ref A.c_NoTerm) (.ref A.c_NoKey) = some false
 ki_NoTerm_NoBits : W.kitOne K (.ref A.c_NoTerm) (.ref A.c_NoBits) = some false
 ki_NoTerm_NoTerm : W.kitOne K (.ref A.c_NoTerm) (.ref A.c_NoTerm) = some true
 ki_NoTerm_Parted : W.kitOne K (.ref A.c_NoTerm) (.ref A.c_Parted) = some false
 ki_NoTerm_Broken : W.kitOne K (.ref A.c_NoTerm) (.ref A.c_Broken) = some false
 ki_NoTerm_NoPart : W.kitOne K (.ref A.c_NoTerm) (.ref A.c_NoPart) = some false
 ki_NoTerm_NoRow : W.kitOne K (.ref A.c_NoTerm) (.ref A.c_NoRow) = some false
 ki_NoTerm_NoName : W.kitOne K (.ref A.c_NoTerm) (.ref A.c_NoName) = some false
 ki_NoTerm_NoWay : W.kitOne K (.ref A.c_NoTerm) (.ref A.c_NoWay) = some false
 ki_NoTerm_Silent : W.kitOne K (.ref A.c_NoTerm) (.ref A.c_Silent) = some false
 ki_NoTerm_Elder : W.kitOne K (.ref A.c_NoTerm) (.ref A.c_Elder) = some false
 ki_NoTerm_Unsealed : W.kitOne K (.ref A.c_NoTerm) (.ref A.c_Unsealed) = some false
 ki_NoTerm_NoHead : W.kitOne K (.ref A.c_NoTerm) (.ref A.c_NoHead) = some false
 ki_NoTerm_ValueError : W.kitOne K (.ref A.c_NoTerm) (.type "ValueError") = some true
 ki_NoRow_NoStamp : W.kitOne K (.ref A.c_NoRow) (.ref A.c_NoStamp) = some false
 ki_NoRow_NoPlace : W.kitOne K (.ref A.c_NoRow) (.ref A.c_NoPlace) = some false
 ki_NoRow_NoPaper : W.kitOne K (.ref A.c_NoRow) (.ref A.c_NoPaper) = some false
 ki_NoRow_NoStretch : W.kitOne K (.ref A.c_NoRow) (.ref A.c_NoStretch) = some false
 ki_NoRow_Missing : W.kitOne K (.ref A.c_NoRow) (.ref A.c_Missing) = some false
 ki_NoRow_NoValue : W.kitOne K (.ref A.c_NoRow) (.ref A.c_NoValue) = some false
 ki_NoRow_NoKey : W.kitOne K (.ref A.c_NoRow) (.ref A.c_NoKey) = some false
 ki_NoRow_NoBits : W.kitOne K (.ref A.c_NoRow) (.ref A.c_NoBits) = some false
 ki_NoRow_NoTerm : W.kitOne K (.ref A.c_NoRow) (.ref A.c_NoTerm) = some false
 ki_NoRow_Parted : W.kitOne K (.ref A.c_NoRow) (.ref A.c_Parted) = some false
 ki_NoRow_Broken : W.kitOne K (.ref A.c_NoRow) (.ref A.c_Broken) = some false
 ki_NoRow_NoPart : W.kitOne K (.ref A.c_NoRow) (.ref A.c_NoPart) = some false
 ki_NoRow_NoRow : W.kitOne K (.ref A.c_NoRow) (.ref A.c_NoRow) = some true
 ki_NoRow_NoName : W.kitOne K (.ref A.c_NoRow) (.ref A.c_NoName) = some false
 ki_NoRow_NoWay : W.kitOne K (.ref A.c_NoRow) (.ref A.c_NoWay) = some false
 ki_NoRow_Silent : W.kitOne K (.ref A.c_NoRow) (.ref A.c_Silent) = some false
 ki_NoRow_Elder : W.kitOne K (.ref A.c_NoRow) (.ref A.c_Elder) = some false
 ki_NoRow_Unsealed : W.kitOne K (.ref A.c_NoRow) (.ref A.c_Unsealed) = some false
 ki_NoRow_NoHead : W.kitOne K (.ref A.c_NoRow) (.ref A.c_NoHead) = some false
 ki_NoRow_ValueError : W.kitOne K (.ref A.c_NoRow) (.type "ValueError") = some true
 ki_NoName_NoStamp : W.kitOne K (.ref A.c_NoName) (.ref A.c_NoStamp) = some false
 ki_NoName_NoPlace : W.kitOne K (.ref A.c_NoName) (.ref A.c_NoPlace) = some false
 ki_NoName_NoPaper : W.kitOne K (.ref A.c_NoName) (.ref A.c_NoPaper) = some false
 ki_NoName_NoStretch : W.kitOne K (.ref A.c_NoName) (.ref A.c_NoStretch) = some false
 ki_NoName_Missing : W.kitOne K (.ref A.c_NoName) (.ref A.c_Missing) = some false
 ki_NoName_NoValue : W.kitOne K (.ref A.c_NoName) (.ref A.c_NoValue) = some false
 ki_NoName_NoKey : W.kitOne K (.ref A.c_NoName) (.ref A.c_NoKey) = some false
 ki_NoName_NoBits : W.kitOne K (.ref A.c_NoName) (.ref A.c_NoBits) = some false
 ki_NoName_NoTerm : W.kitOne K (.ref A.c_NoName) (.ref A.c_NoTerm) = some false
 ki_NoName_Parted : W.kitOne K (.ref A.c_NoName) (.ref A.c_Parted) = some false
 ki_NoName_Broken : W.kitOne K (.ref A.c_NoName) (.ref A.c_Broken) = some false
 ki_NoName_NoPart : W.kitOne K (.ref A.c_NoName) (.ref A.c_NoPart) = some false
 ki_NoName_NoRow : W.kitOne K (.ref A.c_NoName) (.ref A.c_NoRow) = some false
 ki_NoName_NoName : W.kitOne K (.ref A.c_NoName) (.ref A.c_NoName) = some true
 ki_NoName_NoWay : W.kitOne K (.ref A.c_NoName) (.ref A.c_NoWay) = some false
 ki_NoName_Silent : W.kitOne K (.ref A.c_NoName) (.ref A.c_Silent) = some false
 ki_NoName_Elder : W.kitOne K (.ref A.c_NoName) (.ref A.c_Elder) = some false
 ki_NoName_Unsealed : W.kitOne K (.ref A.c_NoName) (.ref A.c_Unsealed) = some false
 ki_NoName_NoHead : W.kitOne K (.ref A.c_NoName) (.ref A.c_NoHead) = some false
 ki_NoName_ValueError : W.kitOne K (.ref A.c_NoName) (.type "ValueError") = some true
 ki_NoWay_NoStamp : W.kitOne K (.ref A.c_NoWay) (.ref A.c_NoStamp) = some false
 ki_NoWay_NoPlace : W.kitOne K (.ref A.c_NoWay) (.ref A.c_NoPlace) = some false
 ki_NoWay_NoPaper : W.kitOne K (.ref A.c_NoWay) (.ref A.c_NoPaper) = some false
 ki_NoWay_NoStretch : W.kitOne K (.ref A.c_NoWay) (.ref A.c_NoStretch) = some false
 ki_NoWay_Missing : W.kitOne K (.ref A.c_NoWay) (.ref A.c_Missing) = some false
 ki_NoWay_NoValue : W.kitOne K (.ref A.c_NoWay) (.ref A.c_NoValue) = some false
 ki_NoWay_NoKey : W.kitOne K (.ref A.c_NoWay) (.ref A.c_NoKey) = some false
 ki_NoWay_NoBits : W.kitOne K (.ref A.c_NoWay) (.ref A.c_NoBits) = some false
 ki_NoWay_NoTerm : W.kitOne K (.ref A.c_NoWay) (.ref A.c_NoTerm) = some false
 ki_NoWay_Parted : W.kitOne K (.ref A.c_NoWay) (.ref A.c_Parted) = some false
 ki_NoWay_Broken : W.kitOne K (.ref A.c_NoWay) (.ref A.c_Broken) = some false
 ki_NoWay_NoPart : W.kitOne K (.ref A.c_NoWay) (.ref A.c_NoPart) = some false
 ki_NoWay_NoRow : W.kitOne K (.ref A.c_NoWay) (.ref A.c_NoRow) = some false
 ki_NoWay_NoName : W.kitOne K (.ref A.c_NoWay) (.ref A.c_NoName) = some false
 ki_NoWay_NoWay : W.kitOne K (.ref A.c_NoWay) (.ref A.c_NoWay) = some true
 ki_NoWay_Silent : W.kitOne K (.ref A.c_NoWay) (.ref A.c_Silent) = some false
 ki_NoWay_Elder : W.kitOne K (.ref A.c_NoWay) (.ref A.c_Elder) = some false
 ki_NoWay_Unsealed : W.kitOne K (.ref A.c_NoWay) (.ref A.c_Unsealed) = some false
 ki_NoWay_NoHead : W.kitOne K (.ref A.c_NoWay) (.ref A.c_NoHead) = some false
 ki_NoWay_ValueError : W.kitOne K (.ref A.c_NoWay) (.type "ValueError") = some true
 ki_Silent_NoStamp : W.kitOne K (.ref A.c_Silent) (.ref A.c_NoStamp) = some false
 ki_Silent_NoPlace : W.kitOne K (.ref A.c_Silent) (.ref A.c_NoPlace) = some false
 ki_Silent_NoPaper : W.kitOne K (.ref A.c_Silent) (.ref A.c_NoPaper) = some false
 ki_Silent_NoStretch : W.kitOne K (.ref A.c_Silent) (.ref A.c_NoStretch) = some false
 ki_Silent_Missing : W.kitOne K (.ref A.c_Silent) (.ref A.c_Missing) = some false
 ki_Silent_NoValue : W.kitOne K (.ref A.c_Silent) (.ref A.c_NoValue) = some false
 ki_Silent_NoKey : W.kitOne K (.ref A.c_Silent) (.ref A.c_NoKey) = some false
 ki_Silent_NoBits : W.kitOne K (.ref A.c_Silent) (.ref A.c_NoBits) = some false
 ki_Silent_NoTerm : W.kitOne K (.ref A.c_Silent) (.ref A.c_NoTerm) = some false
 ki_Silent_Parted : W.kitOne K (.ref A.c_Silent) (.ref A.c_Parted) = some false
 ki_Silent_Broken : W.kitOne K (.ref A.c_Silent) (.ref A.c_Broken) = some false
 ki_Silent_NoPart : W.kitOne K (.ref A.c_Silent) (.ref A.c_NoPart) = some false
 ki_Silent_NoRow : W.kitOne K (.ref A.c_Silent) (.ref A.c_NoRow) = some false
 ki_Silent_NoName : W.kitOne K (.ref A.c_Silent) (.ref A.c_NoName) = some false
 ki_Silent_NoWay : W.kitOne K (.ref A.c_Silent) (.ref A.c_NoWay) = some false
 ki_Silent_Silent : W.kitOne K (.ref A.c_Silent) (.ref A.c_Silent) = some true
 ki_Silent_Elder : W.kitOne K (.ref A.c_Silent) (.ref A.c_Elder) = some false
 ki_Silent_Unsealed : W.kitOne K (.ref A.c_Silent) (.ref A.c_Unsealed) = some false
 ki_Silent_NoHead : W.kitOne K (.ref A.c_Silent) (.ref A.c_NoHead) = some false
 ki_Silent_ValueError : W.kitOne K (.ref A.c_Silent) (.type "ValueError") = some true
 ki_Elder_NoStamp : W.kitOne K (.ref A.c_Elder) (.ref A.c_NoStamp) = some false
 ki_Elder_NoPlace : W.kitOne K (.ref A.c_Elder) (.ref A.c_NoPlace) = some false
 ki_Elder_NoPaper : W.kitOne K (.ref A.c_Elder) (.ref A.c_NoPaper) = some false
 ki_Elder_NoStretch : W.kitOne K (.ref A.c_Elder) (.ref A.c_NoStretch) = some false
 ki_Elder_Missing : W.kitOne K (.ref A.c_Elder) (.ref A.c_Missing) = some false
 ki_Elder_NoValue : W.kitOne K (.ref A.c_Elder) (.ref A.c_NoValue) = some false
 ki_Elder_NoKey : W.kitOne K (.ref A.c_Elder) (.ref A.c_NoKey) = some false
 ki_Elder_NoBits : W.kitOne K (.ref A.c_Elder) (.ref A.c_NoBits) = some false
 ki_Elder_NoTerm : W.kitOne K (.ref A.c_Elder) (.ref A.c_NoTerm) = some false
 ki_Elder_Parted : W.kitOne K (.ref A.c_Elder) (.ref A.c_Parted) = some false
 ki_Elder_Broken : W.kitOne K (.ref A.c_Elder) (.ref A.c_Broken) = some false
 ki_Elder_NoPart : W.kitOne K (.ref A.c_Elder) (.ref A.c_NoPart) = some false
 ki_Elder_NoRow : W.kitOne K (.ref A.c_Elder) (.ref A.c_NoRow) = some false
 ki_Elder_NoName : W.kitOne K (.ref A.c_Elder) (.ref A.c_NoName) = some false
 ki_Elder_NoWay : W.kitOne K (.ref A.c_Elder) (.ref A.c_NoWay) = some false
 ki_Elder_Silent : W.kitOne K (.ref A.c_Elder) (.ref A.c_Silent) = some false
 ki_Elder_Elder : W.kitOne K (.ref A.c_Elder) (.ref A.c_Elder) = some true
 ki_Elder_Unsealed : W.kitOne K (.ref A.c_Elder) (.ref A.c_Unsealed) = some false
 ki_Elder_NoHead : W.kitOne K (.ref A.c_Elder) (.ref A.c_NoHead) = some false
 ki_Elder_ValueError : W.kitOne K (.ref A.c_Elder) (.type "ValueError") = some true
 ki_Unsealed_NoStamp : W.kitOne K (.ref A.c_Unsealed) (.ref A.c_NoStamp) = some false
 ki_Unsealed_NoPlace : W.kitOne K (.ref A.c_Unsealed) (.ref A.c_NoPlace) = some false
 ki_Unsealed_NoPaper : W.kitOne K (.ref A.c_Unsealed) (.ref A.c_NoPaper) = some false
 ki_Unsealed_NoStretch : W.kitOne K (.ref A.c_Unsealed) (.ref A.c_NoStretch) = some false
 ki_Unsealed_Missing : W.kitOne K (.ref A.c_Unsealed) (.ref A.c_Missing) = some false
 ki_Unsealed_NoValue : W.kitOne K (.ref A.c_Unsealed) (.ref A.c_NoValue) = some false
 ki_Unsealed_NoKey : W.kitOne K (.ref A.c_Unsealed) (.ref A.c_NoKey) = some false
 ki_Unsealed_NoBits : W.kitOne K (.ref A.c_Unsealed) (.ref A.c_NoBits) = some false
 ki_Unsealed_NoTerm : W.kitOne K (.ref A.c_Unsealed) (.ref A.c_NoTerm) = some false
 ki_Unsealed_Parted : W.kitOne K (.ref A.c_Unsealed) (.ref A.c_Parted) = some false
 ki_Unsealed_Broken : W.kitOne K (.ref A.c_Unsealed) (.ref A.c_Broken) = some false
 ki_Unsealed_NoPart : W.kitOne K (.ref A.c_Unsealed) (.ref A.c_NoPart) = some false
 ki_Unsealed_NoRow : W.kitOne K (.ref A.c_Unsealed) (.ref A.c_NoRow) = some false
 ki_Unsealed_NoName : W.kitOne K (.ref A.c_Unsealed) (.ref A.c_NoName) = some false
 ki_Unsealed_NoWay : W.kitOne K (.ref A.c_Unsealed) (.ref A.c_NoWay) = some false
 ki_Unsealed_Silent : W.kitOne K (.ref A.c_Unsealed) (.ref A.c_Silent) = some false
 ki_Unsealed_Elder : W.kitOne K (.ref A.c_Unsealed) (.ref A.c_Elder) = some false
 ki_Unsealed_Unsealed : W.kitOne K (.ref A.c_Unsealed) (.ref A.c_Unsealed) = some true
 ki_Unsealed_NoHead : W.kitOne K (.ref A.c_Unsealed) (.ref A.c_NoHead) = some false
 ki_Unsealed_ValueError : W.kitOne K (.ref A.c_Unsealed) (.type "ValueError") = some true
 ki_NoHead_NoStamp : W.kitOne K (.ref A.c_NoHead) (.ref A.c_NoStamp) = some false
 ki_NoHead_NoPlace : W.kitOne K (.ref A.c_NoHead) (.ref A.c_NoPlace) = some false
 ki_NoHead_NoPaper : W.kitOne K (.ref A.c_NoHead) (.ref A.c_NoPaper) = some false
 ki_NoHead_NoStretch : W.kitOne K (.ref A.c_NoHead) (.ref A.c_NoStretch) = some false
 ki_NoHead_Missing : W.kitOne K (.ref A.c_NoHead) (.ref A.c_Missing) = some false
 ki_NoHead_NoValue : W.kitOne K (.ref A.c_NoHead) (.ref A.c_NoValue) = some false
 ki_NoHead_NoKey : W.kitOne K (.ref A.c_NoHead) (.ref A.c_NoKey) = some false
 ki_NoHead_NoBits : W.kitOne K (.ref A.c_NoHead) (.ref A.c_NoBits) = some false
 ki_NoHead_NoTerm : W.kitOne K (.ref A.c_NoHead) (.ref A.c_NoTerm) = some false
 ki_NoHead_Parted : W.kitOne K (.ref A.c_NoHead) (.ref A.c_Parted) = some false
 ki_NoHead_Broken : W.kitOne K (.ref A.c_NoHead) (.ref A.c_Broken) = some false
 ki_NoHead_NoPart : W.kitOne K (.ref A.c_NoHead) (.ref A.c_NoPart) = some false
 ki_NoHead_NoRow : W.kitOne K (.ref A.c_NoHead) (.ref A.c_NoRow) = some false
 ki_NoHead_NoName : W.kitOne K (.ref A.c_NoHead) (.ref A.c_NoName) = some false
 ki_NoHead_NoWay : W.kitOne K (.ref A.c_NoHead) (.ref A.c_NoWay) = some false
 ki_NoHead_Silent : W.kitOne K (.ref A.c_NoHead) (.ref A.c_Silent) = some false
 ki_NoHead_Elder : W.kitOne K (.ref A.c_NoHead) (.ref A.c_Elder) = some false
 ki_NoHead_Unsealed : W.kitOne K (.ref A.c_NoHead) (.ref A.c_Unsealed) = some false
 ki_NoHead_NoHead : W.kitOne K (.ref A.c_NoHead) (.ref A.c_NoHead) = some true
 ki_NoHead_ValueError : W.kitOne K (.ref A.c_NoHead) (.type "ValueError") = some true
 ki_NoPart_NoStamp : W.kitOne K (.ref A.c_NoPart) (.ref A.c_NoStamp) = some false
 ki_NoPart_NoPlace : W.kitOne K (.ref A.c_NoPart) (.ref A.c_NoPlace) = some false
 ki_NoPart_NoPaper : W.kitOne K (.ref A.c_NoPart) (.ref A.c_NoPaper) = some false
 ki_NoPart_NoStretch : W.kitOne K (.ref A.c_NoPart) (.ref A.c_NoStretch) = some false
 ki_NoPart_Missing : W.kitOne K (.ref A.c_NoPart) (.ref A.c_Missing) = some false
 ki_NoPart_NoValue : W.kitOne K (.ref A.c_NoPart) (.ref A.c_NoValue) = some false
 ki_NoPart_NoKey : W.kitOne K (.ref A.c_NoPart) (.ref A.c_NoKey) = some false
 ki_NoPart_NoBits : W.kitOne K (.ref A.c_NoPart) (.ref A.c_NoBits) = some false
 ki_NoPart_NoTerm : W.kitOne K (.ref A.c_NoPart) (.ref A.c_NoTerm) = some false
 ki_NoPart_Parted : W.kitOne K (.ref A.c_NoPart) (.ref A.c_Parted) = some false
 ki_NoPart_Broken : W.kitOne K (.ref A.c_NoPart) (.ref A.c_Broken) = some false
 ki_NoPart_NoPart : W.kitOne K (.ref A.c_NoPart) (.ref A.c_NoPart) = some true
 ki_NoPart_NoRow : W.kitOne K (.ref A.c_NoPart) (.ref A.c_NoRow) = some false
 ki_NoPart_NoName : W.kitOne K (.ref A.c_NoPart) (.ref A.c_NoName) = some false
 ki_NoPart_NoWay : W.kitOne K (.ref A.c_NoPart) (.ref A.c_NoWay) = some false
 ki_NoPart_Silent : W.kitOne K (.ref A.c_NoPart) (.ref A.c_Silent) = some false
 ki_NoPart_Elder : W.kitOne K (.ref A.c_NoPart) (.ref A.c_Elder) = some false
 ki_NoPart_Unsealed : W.kitOne K (.ref A.c_NoPart) (.ref A.c_Unsealed) = some false
 ki_NoPart_NoHead : W.kitOne K (.ref A.c_NoPart) (.ref A.c_NoHead) = some false
 ki_NoPart_ValueError : W.kitOne K (.ref A.c_NoPart) (.type "ValueError") = some true
 ki_Broken_NoStamp : W.kitOne K (.ref A.c_Broken) (.ref A.c_NoStamp) = some false
 ki_Broken_NoPlace : W.kitOne K (.ref A.c_Broken) (.ref A.c_NoPlace) = some false
 ki_Broken_NoPaper : W.kitOne K (.ref A.c_Broken) (.ref A.c_NoPaper) = some false
 ki_Broken_NoStretch : W.kitOne K (.ref A.c_Broken) (.ref A.c_NoStretch) = some false
 ki_Broken_Missing : W.kitOne K (.ref A.c_Broken) (.ref A.c_Missing) = some false
 ki_Broken_NoValue : W.kitOne K (.ref A.c_Broken) (.ref A.c_NoValue) = some false
 ki_Broken_NoKey : W.kitOne K (.ref A.c_Broken) (.ref A.c_NoKey) = some false
 ki_Broken_NoBits : W.kitOne K (.ref A.c_Broken) (.ref A.c_NoBits) = some false
 ki_Broken_NoTerm : W.kitOne K (.ref A.c_Broken) (.ref A.c_NoTerm) = some false
 ki_Broken_Parted : W.kitOne K (.ref A.c_Broken) (.ref A.c_Parted) = some false
 ki_Broken_Broken : W.kitOne K (.ref A.c_Broken) (.ref A.c_Broken) = some true
 ki_Broken_NoPart : W.kitOne K (.ref A.c_Broken) (.ref A.c_NoPart) = some false
 ki_Broken_NoRow : W.kitOne K (.ref A.c_Broken) (.ref A.c_NoRow) = some false
 ki_Broken_NoName : W.kitOne K (.ref A.c_Broken) (.ref A.c_NoName) = some false
 ki_Broken_NoWay : W.kitOne K (.ref A.c_Broken) (.ref A.c_NoWay) = some false
 ki_Broken_Silent : W.kitOne K (.ref A.c_Broken) (.ref A.c_Silent) = some false
 ki_Broken_Elder : W.kitOne K (.ref A.c_Broken) (.ref A.c_Elder) = some false
 ki_Broken_Unsealed : W.kitOne K (.ref A.c_Broken) (.ref A.c_Unsealed) = some false
 ki_Broken_NoHead : W.kitOne K (.ref A.c_Broken) (.ref A.c_NoHead) = some false
 ki_Broken_ValueError : W.kitOne K (.ref A.c_Broken) (.type "ValueError") = some true
 ki_Parted_NoStamp : W.kitOne K (.ref A.c_Parted) (.ref A.c_NoStamp) = some false
 ki_Parted_NoPlace : W.kitOne K (.ref A.c_Parted) (.ref A.c_NoPlace) = some false
 ki_Parted_NoPaper : W.kitOne K (.ref A.c_Parted) (.ref A.c_NoPaper) = some false
 ki_Parted_NoStretch : W.kitOne K (.ref A.c_Parted) (.ref A.c_NoStretch) = some false
 ki_Parted_Missing : W.kitOne K (.ref A.c_Parted) (.ref A.c_Missing) = some false
 ki_Parted_NoValue : W.kitOne K (.ref A.c_Parted) (.ref A.c_NoValue) = some false
 ki_Parted_NoKey : W.kitOne K (.ref A.c_Parted) (.ref A.c_NoKey) = some false
 ki_Parted_NoBits : W.kitOne K (.ref A.c_Parted) (.ref A.c_NoBits) = some false
 ki_Parted_NoTerm : W.kitOne K (.ref A.c_Parted) (.ref A.c_NoTerm) = some false
 ki_Parted_Parted : W.kitOne K (.ref A.c_Parted) (.ref A.c_Parted) = some true
 ki_Parted_Broken : W.kitOne K (.ref A.c_Parted) (.ref A.c_Broken) = some false
 ki_Parted_NoPart : W.kitOne K (.ref A.c_Parted) (.ref A.c_NoPart) = some false
 ki_Parted_NoRow : W.kitOne K (.ref A.c_Parted) (.ref A.c_NoRow) = some false
 ki_Parted_NoName : W.kitOne K (.ref A.c_Parted) (.ref A.c_NoName) = some false
 ki_Parted_NoWay : W.kitOne K (.ref A.c_Parted) (.ref A.c_NoWay) = some false
 ki_Parted_Silent : W.kitOne K (.ref A.c_Parted) (.ref A.c_Silent) = some false
 ki_Parted_Elder : W.kitOne K (.ref A.c_Parted) (.ref A.c_Elder) = some false
 ki_Parted_Unsealed : W.kitOne K (.ref A.c_Parted) (.ref A.c_Unsealed) = some false
 ki_Parted_NoHead : W.kitOne K (.ref A.c_Parted) (.ref A.c_NoHead) = some false
 ki_Parted_ValueError : W.kitOne K (.ref A.c_Parted) (.type "ValueError") = some true
def lM (A : Adr) (H : Hp) : Prop := ([] : List Addr).Nodup
theorem ms : aJ ["_law_k"] ["_law_k"] (ai s_4) := scF
theorem lY : aJ ["_law_k"] ["_law_k"] (ai s_9) := scF
theorem mj : aJ ["self", "depth", "begin"] ["self", "depth", "begin"] (ai s_1) := scF
theorem lQ : aJ ["self", "due", "came"] ["self", "due", "came"] (ai s_0) := scF
theorem mw : aJ ["self", "due", "came"] ["self", "due", "came"] (ai s_2) := scF
theorem lr : aJ ["_law_k", "_law_one", "_law_other"] ["_law_k", "_law_one", "_law_other"] (ai dQ) := scF
theorem ml : aJ ["_law_k", "_law_one", "_law_other"] ["_law_k", "_law_one", "_law_other"] (ai s_7) := scF
theorem il : aJ ["_law_e", "_law_found"] ["_law_e"] (ai s_5) := scF
theorem ip : aJ ["_law_e", "_law_found"] ["_law_e"] (ai s_6) := scF
theorem hV : aJ ["_law_k", "_law_one", "_law_other", "_law_e", "_law_due"] ["_law_k", "_law_one", "_law_other"] (ai s_8) := scF
theorem gf : aJ ["_law_one", "_law_other", "_law_e"] ["_law_one", "_law_other"] (ai s_3) := scF
theorem dn : aJ ["_law_script", "_law_k", "_law_cell", "_law_one", "_law_other"] ["_law_script"] (ai hU) := scF
end Rs
namespace Rs
open PySem PySem.Spec PyProof.Rows L2
def cA (A : Adr) : Nat → Addr
 | 0 => A.c_NoTerm
 | 1 => A.c_NoBits
 | 2 => A.c_NoKey
 | 3 => A.c_NoValue
 | 4 => A.c_Missing
 | 5 => A.c_NoStretch
 | 6 => A.c_NoPaper
 | 7 => A.c_NoPlace
 | 8 => A.c_NoStamp
 | 9 => A.c_NoHead
 | 10 => A.c_Unsealed
 | 11 => A.c_Elder
 | 12 => A.c_Silent
 | 13 => A.c_NoWay
 | 14 => A.c_NoName
 | 15 => A.c_NoRow
 | 16 => A.c_NoPart
 | 17 => A.c_Broken
 | _ => A.c_Parted
def fN : Nat → Str × Str
 | 16 => ("depth", "begin")
 | _ => ("due", "came")
def gn (K : W.Frag) (A : Adr) : Sp := fun vs H _ E => ∃ k : Nat, k < 9 ∧ vs = [.int (k : Int)] ∧ E (.ref (cA A k)) none H
def fQ (K : W.Frag) (A : Adr) : Sp := fun vs H _ E => ∃ k : Nat, 9 ≤ k ∧ k < 16 ∧ vs = [.int (k : Int)] ∧ E (.ref (cA A k)) none H
def fI (K : W.Frag) (A : Adr) : Sp := fun vs H Q _ => ∃ (a : Addr) (x y : V), vs = [.ref a, x, y] ∧ H a = some (bc A.c_NoPart a none) ∧ ∀ dx, H dx = none → Q .non (upd (upd (upd H a (bc A.c_NoPart a (some dx))) dx (bi [("depth", x)] dx)) dx (bi (bx "begin" y [("depth", x)]) dx))
def fS (K : W.Frag) (A : Adr) : Sp := fun vs H Q _ => ∃ (a : Addr) (x y : V), vs = [.ref a, x, y] ∧ H a = some (bc A.c_Broken a none) ∧ ∀ dx, H dx = none → Q .non (upd (upd (upd H a (bc A.c_Broken a (some dx))) dx (bi [("due", x)] dx)) dx (bi (bx "came" y [("due", x)]) dx))
def fV (K : W.Frag) (A : Adr) : Sp := fun vs H Q _ => ∃ (a : Addr) (x y : V), vs = [.ref a, x, y] ∧ H a = some (bc A.c_Parted a none) ∧ ∀ dx, H dx = none → Q .non (upd (upd (upd H a (bc A.c_Parted a (some dx))) dx (bi [("due", x)] dx)) dx (bi (bx "came" y [("due", x)]) dx))
def cx (K : W.Frag) (A : Adr) : Sp := fun vs H _ E => ∃ (k : Nat) (x y : V), 16 ≤ k ∧ k < 19 ∧ vs = [.int (k : Int), x, y] ∧ ∀ (dx : Addr) (H' : Hp), ar H H' → H' dx = some (bi (bx (fN k).2 y [((fN k).1, x)]) dx) → E (.ref (cA A k)) (some dx) H'
def fK (K : W.Frag) (A : Adr) : Sp := fun vs H _ E => ∃ (k : Nat) (x y : V), k < 19 ∧ vs = [.int (k : Int), x, y] ∧ ∀ (d : Option Addr) (H' : Hp), ar H H' → E (.ref (cA A k)) d H'
def isL (k lo n : Nat) : List V := (List.range' lo n).map fun j => V.bl (decide (j = k))
def fX (K : W.Frag) (A : Adr) : Sp := fun vs H Q _ => ∃ (a : Addr) (k : Nat) (d : Option Addr), vs = [.ref a] ∧ k < 19 ∧ H a = some (aR (cA A k) d a) ∧ ∀ (p : Addr) (H' : Hp), ar H H' → H' p = some (.lst (isL k 0 9)) → Q (.ref p) H'
def gm (K : W.Frag) (A : Adr) : Sp := fun vs H Q _ => ∃ (a : Addr) (k : Nat) (d : Option Addr), vs = [.ref a] ∧ k < 19 ∧ H a = some (aR (cA A k) d a) ∧ ∀ (p : Addr) (H' : Hp), ar H H' → H' p = some (.lst (isL k 9 10)) → Q (.ref p) H'
def eI (K : W.Frag) (A : Adr) : Sp := fun vs H Q _ => ∃ (k : Nat) (x y : V), k < 19 ∧ vs = [.int (k : Int), x, y] ∧ ∀ H', ar H H' → Q (.bl true) H'
def dL (K : W.Frag) (A : Adr) : Sp := fun vs H Q _ => ∃ (x y : Key), vs = [kV x, kV y] ∧ ∀ H', ar H H' → Q (.bl true) H'
def eC (K : W.Frag) (A : Adr) : Sp := fun vs H Q _ => ∃ (a : Addr) (ns : List Int), vs = [.ref a] ∧ SqL K H a (ns.map V.int) ∧ ns.length ≤ 63 ∧ lM A H ∧ ∀ H', Q (.bl true) H'
end Rs
namespace Rs
open PySem PySem.Spec PyProof.Rows L2
def T_4 (K : W.Frag) (A : Adr) (E : XK) : TS := aH (aY (aO (tOp (ba K) (af 0) (tC (.int 0)))) (aV A.c_NoTerm (fun _ => E)) (aK)) (aH (aY (aO (tOp (ba K) (af 0) (tC (.int 1)))) (aV A.c_NoBits (fun _ => E)) (aK)) (aH (aY (aO (tOp (ba K) (af 0) (tC (.int 2)))) (aV A.c_NoKey (fun _ => E)) (aK)) (aH (aY (aO (tOp (ba K) (af 0) (tC (.int 3)))) (aV A.c_NoValue (fun _ => E)) (aK)) (aH (aY (aO (tOp (ba K) (af 0) (tC (.int 4)))) (aV A.c_Missing (fun _ => E)) (aK)) (aH (aY (aO (tOp (ba K) (af 0) (tC (.int 5)))) (aV A.c_NoStretch (fun _ => E)) (aK)) (aH (aY (aO (tOp (ba K) (af 0) (tC (.int 6)))) (aV A.c_NoPaper (fun _ => E)) (aK)) (aH (aY (aO (tOp (ba K) (af 0) (tC (.int 7)))) (aV A.c_NoPlace (fun _ => E)) (aK)) (aV A.c_NoStamp (fun _ => E)))))))))
def T_9 (K : W.Frag) (A : Adr) (E : XK) : TS := aH (aY (aO (tOp (ba K) (af 0) (tC (.int 9)))) (aV A.c_NoHead (fun _ => E)) (aK)) (aH (aY (aO (tOp (ba K) (af 0) (tC (.int 10)))) (aV A.c_Unsealed (fun _ => E)) (aK)) (aH (aY (aO (tOp (ba K) (af 0) (tC (.int 11)))) (aV A.c_Elder (fun _ => E)) (aK)) (aH (aY (aO (tOp (ba K) (af 0) (tC (.int 12)))) (aV A.c_Silent (fun _ => E)) (aK)) (aH (aY (aO (tOp (ba K) (af 0) (tC (.int 13)))) (aV A.c_NoWay (fun _ => E)) (aK)) (aH (aY (aO (tOp (ba K) (af 0) (tC (.int 14)))) (aV A.c_NoName (fun _ => E)) (aK)) (aV A.c_NoRow (fun _ => E)))))))
def T_1 (K : W.Frag) (A : Adr) : TS := aH (cq K A.c_NoPart (af 0) (af 1) "depth") (cq K A.c_NoPart (af 0) (af 2) "begin")
def T_0 (K : W.Frag) (A : Adr) : TS := aH (cq K A.c_Broken (af 0) (af 1) "due") (cq K A.c_Broken (af 0) (af 2) "came")
def T_2 (K : W.Frag) (A : Adr) : TS := aH (cq K A.c_Parted (af 0) (af 1) "due") (cq K A.c_Parted (af 0) (af 2) "came")
def jV (K : W.Frag) (A : Adr) (E : XK) : TS := aH (aY (aO (tOp (ba K) (af 0) (tC (.int 16)))) (cS A.c_NoPart (fI K A) (fun _ => E) (ae (af 1) (ae (af 2) (ax)))) (aK)) (aH (aY (aO (tOp (ba K) (af 0) (tC (.int 17)))) (cS A.c_Broken (fS K A) (fun _ => E) (ae (af 1) (ae (af 2) (ax)))) (aK)) (cS A.c_Parted (fV K A) (fun _ => E) (ae (af 1) (ae (af 2) (ax)))))
def T_7 (K : W.Frag) (A : Adr) (E : XK) : TS := aH (aY (aO (tOp (mLt) (af 0) (tC (.int 9)))) (bM (aW (gn K A) (fun _ => E) (ae (af 0) (ax)))) (aK)) (aH (aY (aO (tOp (mLt) (af 0) (tC (.int 16)))) (bM (aW (fQ K A) (fun _ => E) (ae (af 0) (ax)))) (aK)) (bM (aW (cx K A) (fun _ => E) (ae (af 0) (ae (af 1) (ae (af 2) (ax)))))))
def T_5 (K : W.Frag) (A : Adr) : TS := aH (bP (cn (ae (tCB (aU K) (ae (af 0) (ae (tC (.ref A.c_NoTerm)) (ax)))) (ae (tCB (aU K) (ae (af 0) (ae (tC (.ref A.c_NoBits)) (ax)))) (ae (tCB (aU K) (ae (af 0) (ae (tC (.ref A.c_NoKey)) (ax)))) (ae (tCB (aU K) (ae (af 0) (ae (tC (.ref A.c_NoValue)) (ax)))) (ax)))))) (bj 1)) (aH (bP (tOp (cC K) (af 1) (cn (ae (tCB (aU K) (ae (af 0) (ae (tC (.ref A.c_Missing)) (ax)))) (ae (tCB (aU K) (ae (af 0) (ae (tC (.ref A.c_NoStretch)) (ax)))) (ae (tCB (aU K) (ae (af 0) (ae (tC (.ref A.c_NoPaper)) (ax)))) (ax)))))) (bj 1)) (bE (tOp (cC K) (af 1) (cn (ae (tCB (aU K) (ae (af 0) (ae (tC (.ref A.c_NoPlace)) (ax)))) (ae (tCB (aU K) (ae (af 0) (ae (tC (.ref A.c_NoStamp)) (ax)))) (ax)))))))
def T_6 (K : W.Frag) (A : Adr) : TS := aH (bP (cn (ae (tCB (aU K) (ae (af 0) (ae (tC (.ref A.c_NoHead)) (ax)))) (ae (tCB (aU K) (ae (af 0) (ae (tC (.ref A.c_Unsealed)) (ax)))) (ae (tCB (aU K) (ae (af 0) (ae (tC (.ref A.c_Elder)) (ax)))) (ae (tCB (aU K) (ae (af 0) (ae (tC (.ref A.c_Silent)) (ax)))) (ax)))))) (bj 1)) (aH (bP (tOp (cC K) (af 1) (cn (ae (tCB (aU K) (ae (af 0) (ae (tC (.ref A.c_NoWay)) (ax)))) (ae (tCB (aU K) (ae (af 0) (ae (tC (.ref A.c_NoName)) (ax)))) (ae (tCB (aU K) (ae (af 0) (ae (tC (.ref A.c_NoRow)) (ax)))) (ax)))))) (bj 1)) (bE (tOp (cC K) (af 1) (cn (ae (tCB (aU K) (ae (af 0) (ae (tC (.ref A.c_NoPart)) (ax)))) (ae (tCB (aU K) (ae (af 0) (ae (tC (.ref A.c_Broken)) (ax)))) (ae (tCB (aU K) (ae (af 0) (ae (tC (.ref A.c_Parted)) (ax)))) (ax))))))))
def T_8 (K : W.Frag) (A : Adr) : TS := aH (eG K (fun EH => bM (aW (fK K A) EH (ae (af 0) (ae (af 1) (ae (af 2) (ax)))))) (kz K A.c_StampError 3 (fun ah => aH (bP (fH [0] (gr ah (ae (tC (.int 19)) (ax))) (fun _ H Q => Q true H) (tOp (ba K) (af 0) (af 1))) (bj 4)) (bE (eA (tOp (ba K) (tOp (cC K) (aW (fX K A) (fun _ => E0) (ae (af 3) (ax))) (aW (gm K A) (fun _ => E0) (ae (af 3) (ax)))) (af 4)) (tCB (aU K) (ae (af 3) (ae (tC (.ty "ValueError")) (ax))))))) (dA)) (aK)) (bE (tC (.bl false)))
def T_3 (K : W.Frag) (A : Adr) : TS := aH (eG K (fun EH => bM (aW (cx K A) EH (ae (tC (.int 16)) (ae (af 0) (ae (af 1) (ax)))))) (hAs K A.c_NoPart 2 (aY (mOr (aO (tOp (df K) (cy K (af 2) "depth") (af 0))) (aO (tOp (df K) (cy K (af 2) "begin") (af 1)))) (bE (tC (.bl false))) (aK)) (dA)) (aK)) (aH (eG K (fun EH => bM (aW (cx K A) EH (ae (tC (.int 17)) (ae (af 0) (ae (af 1) (ax)))))) (hAs K A.c_Broken 2 (aY (mOr (aO (tOp (df K) (cy K (af 2) "due") (af 0))) (aO (tOp (df K) (cy K (af 2) "came") (af 1)))) (bE (tC (.bl false))) (aK)) (dA)) (aK)) (aH (eG K (fun EH => bM (aW (cx K A) EH (ae (tC (.int 18)) (ae (af 0) (ae (af 1) (ax)))))) (hAs K A.c_Parted 2 (bE (eA (tOp (ba K) (cy K (af 2) "due") (af 0)) (tOp (ba K) (cy K (af 2) "came") (af 1)))) (dA)) (aK)) (bE (tC (.bl false)))))
def mV (K : W.Frag) (A : Adr) : TS := aH (gd (fW (ae (tC (.int 19)) (ax))) (bj 1) (aY (dH (dJ K (aW (eI K A) (fun _ => E0) (ae (af 1) (ae (af 1) (ae (tC (.str "x")) (ax))))))) (bE (tC (.bl false))) (aK))) (aH (gd (iJ K (tSl (jZ K) (af 0) (dG) (gp (tC (.int 20))))) (bj 2) (aH (bP (tOp (dc) (af 2) (tOp (hZ) (tC (.int 10)) (tC (.int 60)))) (bj 3)) (aH (bP (tOp (gW K) (cn (ae (tCB (iq) (ae (tOp (dc) (af 2) (tC (.int 1000))) (ax))) (ae (tOp (dc) (tOp (eX) (af 2) (tC (.int 2))) (tC (.int 60))) (ax)))) (tOp (dc) (af 2) (tC (.int 2)))) (bj 4)) (aY (mOr (dH (dJ K (aW (eI K A) (fun _ => E0) (ae (tOp (dc) (af 2) (tC (.int 19))) (ae (af 3) (ae (af 4) (ax))))))) (mOr (dH (dJ K (aW (dL K A) (fun _ => E0) (ae (af 3) (ae (af 4) (ax)))))) (dH (dJ K (aW (dL K A) (fun _ => E0) (ae (af 4) (ae (af 3) (ax)))))))) (bE (tC (.bl false))) (aK))))) (bE (aW (dL K A) (fun _ => E0) (ae (tC (.int 3)) (ae (tC (.str "came")) (ax))))))
end Rs
namespace Rs
open PySem PySem.Spec PyProof.Rows L2
variable {K : W.Frag} {mg : Str → Option Value} {A : Adr}
theorem eo (T : Txt K mg A) : ∀ k : Nat, k < 19 → av K (cA A k)
 | 0, _ => T.eo_NoTerm
 | 1, _ => T.eo_NoBits
 | 2, _ => T.eo_NoKey
 | 3, _ => T.eo_NoValue
 | 4, _ => T.eo_Missing
 | 5, _ => T.eo_NoStretch
 | 6, _ => T.eo_NoPaper
 | 7, _ => T.eo_NoPlace
 | 8, _ => T.eo_NoStamp
 | 9, _ => T.eo_NoHead
 | 10, _ => T.eo_Unsealed
 | 11, _ => T.eo_Elder
 | 12, _ => T.eo_Silent
 | 13, _ => T.eo_NoWay
 | 14, _ => T.eo_NoName
 | 15, _ => T.eo_NoRow
 | 16, _ => T.eo_NoPart
 | 17, _ => T.eo_Broken
 | 18, _ => T.eo_Parted
 | k + 19, h => absurd h (by omega)
theorem eg (T : Txt K mg A) : ∀ k : Nat, k < 19 → ay K (cA A k)
 | 0, _ => T.eg_NoTerm
 | 1, _ => T.eg_NoBits
 | 2, _ => T.eg_NoKey
 | 3, _ => T.eg_NoValue
 | 4, _ => T.eg_Missing
 | 5, _ => T.eg_NoStretch
 | 6, _ => T.eg_NoPaper
 | 7, _ => T.eg_NoPlace
 | 8, _ => T.eg_NoStamp
 | 9, _ => T.eg_NoHead
 | 10, _ => T.eg_Unsealed
 | 11, _ => T.eg_Elder
 | 12, _ => T.eg_Silent
 | 13, _ => T.eg_NoWay
 | 14, _ => T.eg_NoName
 | 15, _ => T.eg_NoRow
 | 16, _ => T.eg_NoPart
 | 17, _ => T.eg_Broken
 | 18, _ => T.eg_Parted
 | k + 19, h => absurd h (by omega)
theorem sb (T : Txt K mg A) : ∀ k : Nat, k < 19 → ag K (cA A k) A.c_StampError = some true
 | 0, _ => T.sb_NoTerm_StampError
 | 1, _ => T.sb_NoBits_StampError
 | 2, _ => T.sb_NoKey_StampError
 | 3, _ => T.sb_NoValue_StampError
 | 4, _ => T.sb_Missing_StampError
 | 5, _ => T.sb_NoStretch_StampError
 | 6, _ => T.sb_NoPaper_StampError
 | 7, _ => T.sb_NoPlace_StampError
 | 8, _ => T.sb_NoStamp_StampError
 | 9, _ => T.sb_NoHead_StampError
 | 10, _ => T.sb_Unsealed_StampError
 | 11, _ => T.sb_Elder_StampError
 | 12, _ => T.sb_Silent_StampError
 | 13, _ => T.sb_NoWay_StampError
 | 14, _ => T.sb_NoName_StampError
 | 15, _ => T.sb_NoRow_StampError
 | 16, _ => T.sb_NoPart_StampError
 | 17, _ => T.sb_Broken_StampError
 | 18, _ => T.sb_Parted_StampError
 | k + 19, h => absurd h (by omega)
theorem kv (T : Txt K mg A) : ∀ k : Nat, k < 19 → W.kitOne K (.ref (cA A k)) (.type "ValueError") = some true
 | 0, _ => T.ki_NoTerm_ValueError
 | 1, _ => T.ki_NoBits_ValueError
 | 2, _ => T.ki_NoKey_ValueError
 | 3, _ => T.ki_NoValue_ValueError
 | 4, _ => T.ki_Missing_ValueError
 | 5, _ => T.ki_NoStretch_ValueError
 | 6, _ => T.ki_NoPaper_ValueError
 | 7, _ => T.ki_NoPlace_ValueError
 | 8, _ => T.ki_NoStamp_ValueError
 | 9, _ => T.ki_NoHead_ValueError
 | 10, _ => T.ki_Unsealed_ValueError
 | 11, _ => T.ki_Elder_ValueError
 | 12, _ => T.ki_Silent_ValueError
 | 13, _ => T.ki_NoWay_ValueError
 | 14, _ => T.ki_NoName_ValueError
 | 15, _ => T.ki_NoRow_ValueError
 | 16, _ => T.ki_NoPart_ValueError
 | 17, _ => T.ki_Broken_ValueError
 | 18, _ => T.ki_Parted_ValueError
 | k + 19, h => absurd h (by omega)
theorem ki0 (T : Txt K mg A) : ∀ k : Nat, k < 19 → W.kitOne K (.ref (cA A k)) (.ref A.c_NoTerm) = some (decide (0 = k))
 | 0, _ => T.ki_NoTerm_NoTerm
 | 1, _ => T.ki_NoBits_NoTerm
 | 2, _ => T.ki_NoKey_NoTerm
 | 3, _ => T.ki_NoValue_NoTerm
 | 4, _ => T.ki_Missing_NoTerm
 | 5, _ => T.ki_NoStretch_NoTerm
 | 6, _ => T.ki_NoPaper_NoTerm
 | 7, _ => T.ki_NoPlace_NoTerm
 | 8, _ => T.ki_NoStamp_NoTerm
 | 9, _ => T.ki_NoHead_NoTerm
 | 10, _ => T.ki_Unsealed_NoTerm
 | 11, _ => T.ki_Elder_NoTerm
 | 12, _ => T.ki_Silent_NoTerm
 | 13, _ => T.ki_NoWay_NoTerm
 | 14, _ => T.ki_NoName_NoTerm
 | 15, _ => T.ki_NoRow_NoTerm
 | 16, _ => T.ki_NoPart_NoTerm
 | 17, _ => T.ki_Broken_NoTerm
 | 18, _ => T.ki_Parted_NoTerm
 | k + 19, h => absurd h (by omega)
theorem ki1 (T : Txt K mg A) : ∀ k : Nat, k < 19 → W.kitOne K (.ref (cA A k)) (.ref A.c_NoBits) = some (decide (1 = k))
 | 0, _ => T.ki_NoTerm_NoBits
 | 1, _ => T.ki_NoBits_NoBits
 | 2, _ => T.ki_NoKey_NoBits
 | 3, _ => T.ki_NoValue_NoBits
 | 4, _ => T.ki_Missing_NoBits
 | 5, _ => T.ki_NoStretch_NoBits
 | 6, _ => T.ki_NoPaper_NoBits
 | 7, _ => T.ki_NoPlace_NoBits
 | 8, _ => T.ki_NoStamp_NoBits
 | 9, _ => T.ki_NoHead_NoBits
 | 10, _ => T.ki_Unsealed_NoBits
 | 11, _ => T.ki_Elder_NoBits
 | 12, _ => T.ki_Silent_NoBits
 | 13, _ => T.ki_NoWay_NoBits
 | 14, _ => T.ki_NoName_NoBits
 | 15, _ => T.ki_NoRow_NoBits
 | 16, _ => T.ki_NoPart_NoBits
 | 17, _ => T.ki_Broken_NoBits
 | 18, _ => T.ki_Parted_NoBits
 | k + 19, h => absurd h (by omega)
theorem ki2 (T : Txt K mg A) : ∀ k : Nat, k < 19 → W.kitOne K (.ref (cA A k)) (.ref A.c_NoKey) = some (decide (2 = k))
 | 0, _ => T.ki_NoTerm_NoKey
 | 1, _ => T.ki_NoBits_NoKey
 | 2, _ => T.ki_NoKey_NoKey
 | 3, _ => T.ki_NoValue_NoKey
 | 4, _ => T.ki_Missing_NoKey
 | 5, _ => T.ki_NoStretch_NoKey
 | 6, _ => T.ki_NoPaper_NoKey
 | 7, _ => T.ki_NoPlace_NoKey
 | 8, _ => T.ki_NoStamp_NoKey
 | 9, _ => T.ki_NoHead_NoKey
 | 10, _ => T.ki_Unsealed_NoKey
 | 11, _ => T.ki_Elder_NoKey
 | 12, _ => T.ki_Silent_NoKey
 | 13, _ => T.ki_NoWay_NoKey
 | 14, _ => T.ki_NoName_NoKey
 | 15, _ => T.ki_NoRow_NoKey
 | 16, _ => T.ki_NoPart_NoKey
 | 17, _ => T.ki_Broken_NoKey
 | 18, _ => T.ki_Parted_NoKey
 | k + 19, h => absurd h (by omega)
theorem ki3 (T : Txt K mg A) : ∀ k : Nat, k < 19 → W.kitOne K (.ref (cA A k)) (.ref A.c_NoValue) = some (decide (3 = k))
 | 0, _ => T.ki_NoTerm_NoValue
 | 1, _ => T.ki_NoBits_NoValue
 | 2, _ => T.ki_NoKey_NoValue
 | 3, _ => T.ki_NoValue_NoValue
 | 4, _ => T.ki_Missing_NoValue
 | 5, _ => T.ki_NoStretch_NoValue
 | 6, _ => T.ki_NoPaper_NoValue
 | 7, _ => T.ki_NoPlace_NoValue
 | 8, _ => T.ki_NoStamp_NoValue
 | 9, _ => T.ki_NoHead_NoValue
 | 10, _ => T.ki_Unsealed_NoValue
 | 11, _ => T.ki_Elder_NoValue
 | 12, _ => T.ki_Silent_NoValue
 | 13, _ => T.ki_NoWay_NoValue
 | 14, _ => T.ki_NoName_NoValue
 | 15, _ => T.ki_NoRow_NoValue
 | 16, _ => T.ki_NoPart_NoValue
 | 17, _ => T.ki_Broken_NoValue
 | 18, _ => T.ki_Parted_NoValue
 | k + 19, h => absurd h (by omega)
theorem ki4 (T : Txt K mg A) : ∀ k : Nat, k < 19 → W.kitOne K (.ref (cA A k)) (.ref A.c_Missing) = some (decide (4 = k))
 | 0, _ => T.ki_NoTerm_Missing
 | 1, _ => T.ki_NoBits_Missing
 | 2, _ => T.ki_NoKey_Missing
 | 3, _ => T.ki_NoValue_Missing
 | 4, _ => T.ki_Missing_Missing
 | 5, _ => T.ki_NoStretch_Missing
 | 6, _ => T.ki_NoPaper_Missing
 | 7, _ => T.ki_NoPlace_Missing
 | 8, _ => T.ki_NoStamp_Missing
 | 9, _ => T.ki_NoHead_Missing
 | 10, _ => T.ki_Unsealed_Missing
 | 11, _ => T.ki_Elder_Missing
 | 12, _ => T.ki_Silent_Missing
 | 13, _ => T.ki_NoWay_Missing
 | 14, _ => T.ki_NoName_Missing
 | 15, _ => T.ki_NoRow_Missing
 | 16, _ => T.ki_NoPart_Missing
 | 17, _ => T.ki_Broken_Missing
 | 18, _ => T.ki_Parted_Missing
 | k + 19, h => absurd h (by omega)
theorem ki5 (T : Txt K mg A) : ∀ k : Nat, k < 19 → W.kitOne K (.ref (cA A k)) (.ref A.c_NoStretch) = some (decide (5 = k))
 | 0, _ => T.ki_NoTerm_NoStretch
 | 1, _ => T.ki_NoBits_NoStretch
 | 2, _ => T.ki_NoKey_NoStretch
 | 3, _ => T.ki_NoValue_NoStretch
 | 4, _ => T.ki_Missing_NoStretch
 | 5, _ => T.ki_NoStretch_NoStretch
 | 6, _ => T.ki_NoPaper_NoStretch
 | 7, _ => T.ki_NoPlace_NoStretch
 | 8, _ => T.ki_NoStamp_NoStretch
 | 9, _ => T.ki_NoHead_NoStretch
 | 10, _ => T.ki_Unsealed_NoStretch
 | 11, _ => T.ki_Elder_NoStretch
 | 12, _ => T.ki_Silent_NoStretch
 | 13, _ => T.ki_NoWay_NoStretch
 | 14, _ => T.ki_NoName_NoStretch
 | 15, _ => T.ki_NoRow_NoStretch
 | 16, _ => T.ki_NoPart_NoStretch
 | 17, _ => T.ki_Broken_NoStretch
 | 18, _ => T.ki_Parted_NoStretch
 | k + 19, h => absurd h (by omega)
theorem ki6 (T : Txt K mg A) : ∀ k : Nat, k < 19 → W.kitOne K (.ref (cA A k)) (.ref A.c_NoPaper) = some (decide (6 = k))
 | 0, _ => T.ki_NoTerm_NoPaper
 | 1, _ => T.ki_NoBits_NoPaper
 | 2, _ => T.ki_NoKey_NoPaper
 | 3, _ => T.ki_NoValue_NoPaper
 | 4, _ => T.ki_Missing_NoPaper
 | 5, _ => T.ki_NoStretch_NoPaper
 | 6, _ => T.ki_NoPaper_NoPaper
 | 7, _ => T.ki_NoPlace_NoPaper
 | 8, _ => T.ki_NoStamp_NoPaper
 | 9, _ => T.ki_NoHead_NoPaper
 | 10, _ => T.ki_Unsealed_NoPaper
 | 11, _ => T.ki_Elder_NoPaper
 | 12, _ => T.ki_Silent_NoPaper
 | 13, _ => T.ki_NoWay_NoPaper
 | 14, _ => T.ki_NoName_NoPaper
 | 15, _ => T.ki_NoRow_NoPaper
 | 16, _ => T.ki_NoPart_NoPaper
 | 17, _ => T.ki_Broken_NoPaper
 | 18, _ => T.ki_Parted_NoPaper
 | k + 19, h => absurd h (by omega)
theorem ki7 (T : Txt K mg A) : ∀ k : Nat, k < 19 → W.kitOne K (.ref (cA A k)) (.ref A.c_NoPlace) = some (decide (7 = k))
 | 0, _ => T.ki_NoTerm_NoPlace
 | 1, _ => T.ki_NoBits_NoPlace
 | 2, _ => T.ki_NoKey_NoPlace
 | 3, _ => T.ki_NoValue_NoPlace
 | 4, _ => T.ki_Missing_NoPlace
 | 5, _ => T.ki_NoStretch_NoPlace
 | 6, _ => T.ki_NoPaper_NoPlace
 | 7, _ => T.ki_NoPlace_NoPlace
 | 8, _ => T.ki_NoStamp_NoPlace
 | 9, _ => T.ki_NoHead_NoPlace
 | 10, _ => T.ki_Unsealed_NoPlace
 | 11, _ => T.ki_Elder_NoPlace
 | 12, _ => T.ki_Silent_NoPlace
 | 13, _ => T.ki_NoWay_NoPlace
 | 14, _ => T.ki_NoName_NoPlace
 | 15, _ => T.ki_NoRow_NoPlace
 | 16, _ => T.ki_NoPart_NoPlace
 | 17, _ => T.ki_Broken_NoPlace
 | 18, _ => T.ki_Parted_NoPlace
 | k + 19, h => absurd h (by omega)
theorem ki8 (T : Txt K mg A) : ∀ k : Nat, k < 19 → W.kitOne K (.ref (cA A k)) (.ref A.c_NoStamp) = some (decide (8 = k))
 | 0, _ => T.ki_NoTerm_NoStamp
 | 1, _ => T.ki_NoBits_NoStamp
 | 2, _ => T.ki_NoKey_NoStamp
 | 3, _ => T.ki_NoValue_NoStamp
 | 4, _ => T.ki_Missing_NoStamp
 | 5, _ => T.ki_NoStretch_NoStamp
 | 6, _ => T.ki_NoPaper_NoStamp
 | 7, _ => T.ki_NoPlace_NoStamp
 | 8, _ => T.ki_NoStamp_NoStamp
 | 9, _ => T.ki_NoHead_NoStamp
 | 10, _ => T.ki_Unsealed_NoStamp
 | 11, _ => T.ki_Elder_NoStamp
 | 12, _ => T.ki_Silent_NoStamp
 | 13, _ => T.ki_NoWay_NoStamp
 | 14, _ => T.ki_NoName_NoStamp
 | 15, _ => T.ki_NoRow_NoStamp
 | 16, _ => T.ki_NoPart_NoStamp
 | 17, _ => T.ki_Broken_NoStamp
 | 18, _ => T.ki_Parted_NoStamp
 | k + 19, h => absurd h (by omega)
theorem ki9 (T : Txt K mg A) : ∀ k : Nat, k < 19 → W.kitOne K (.ref (cA A k)) (.ref A.c_NoHead) = some (decide (9 = k))
 | 0, _ => T.ki_NoTerm_NoHead
 | 1, _ => T.ki_NoBits_NoHead
 | 2, _ => T.ki_NoKey_NoHead
 | 3, _ => T.ki_NoValue_NoHead
 | 4, _ => T.ki_Missing_NoHead
 | 5, _ => T.ki_NoStretch_NoHead
 | 6, _ => T.ki_NoPaper_NoHead
 | 7, _ => T.ki_NoPlace_NoHead
 | 8, _ => T.ki_NoStamp_NoHead
 | 9, _ => T.ki_NoHead_NoHead
 | 10, _ => T.ki_Unsealed_NoHead
 | 11, _ => T.ki_Elder_NoHead
 | 12, _ => T.ki_Silent_NoHead
 | 13, _ => T.ki_NoWay_NoHead
 | 14, _ => T.ki_NoName_NoHead
 | 15, _ => T.ki_NoRow_NoHead
 | 16, _ => T.ki_NoPart_NoHead
 | 17, _ => T.ki_Broken_NoHead
 | 18, _ => T.ki_Parted_NoHead
 | k + 19, h => absurd h (by omega)
theorem lR (T : Txt K mg A) : ∀ k : Nat, k < 19 → W.kitOne K (.ref (cA A k)) (.ref A.c_Unsealed) = some (decide (10 = k))
 | 0, _ => T.ki_NoTerm_Unsealed
 | 1, _ => T.ki_NoBits_Unsealed
 | 2, _ => T.ki_NoKey_Unsealed
 | 3, _ => T.ki_NoValue_Unsealed
 | 4, _ => T.ki_Missing_Unsealed
 | 5, _ => T.ki_NoStretch_Unsealed
 | 6, _ => T.ki_NoPaper_Unsealed
 | 7, _ => T.ki_NoPlace_Unsealed
 | 8, _ => T.ki_NoStamp_Unsealed
 | 9, _ => T.ki_NoHead_Unsealed
 | 10, _ => T.ki_Unsealed_Unsealed
 | 11, _ => T.ki_Elder_Unsealed
 | 12, _ => T.ki_Silent_Unsealed
 | 13, _ => T.ki_NoWay_Unsealed
 | 14, _ => T.ki_NoName_Unsealed
 | 15, _ => T.ki_NoRow_Unsealed
 | 16, _ => T.ki_NoPart_Unsealed
 | 17, _ => T.ki_Broken_Unsealed
 | 18, _ => T.ki_Parted_Unsealed
 | k + 19, h => absurd h (by omega)
theorem lZ (T : Txt K mg A) : ∀ k : Nat, k < 19 → W.kitOne K (.ref (cA A k)) (.ref A.c_Elder) = some (decide (11 = k))
 | 0, _ => T.ki_NoTerm_Elder
 | 1, _ => T.ki_NoBits_Elder
 | 2, _ => T.ki_NoKey_Elder
 | 3, _ => T.ki_NoValue_Elder
 | 4, _ => T.ki_Missing_Elder
 | 5, _ => T.ki_NoStretch_Elder
 | 6, _ => T.ki_NoPaper_Elder
 | 7, _ => T.ki_NoPlace_Elder
 | 8, _ => T.ki_NoStamp_Elder
 | 9, _ => T.ki_NoHead_Elder
 | 10, _ => T.ki_Unsealed_Elder
 | 11, _ => T.ki_Elder_Elder
 | 12, _ => T.ki_Silent_Elder
 | 13, _ => T.ki_NoWay_Elder
 | 14, _ => T.ki_NoName_Elder
 | 15, _ => T.ki_NoRow_Elder
 | 16, _ => T.ki_NoPart_Elder
 | 17, _ => T.ki_Broken_Elder
 | 18, _ => T.ki_Parted_Elder
 | k + 19, h => absurd h (by omega)
theorem lS (T : Txt K mg A) : ∀ k : Nat, k < 19 → W.kitOne K (.ref (cA A k)) (.ref A.c_Silent) = some (decide (12 = k))
 | 0, _ => T.ki_NoTerm_Silent
 | 1, _ => T.ki_NoBits_Silent
 | 2, _ => T.ki_NoKey_Silent
 | 3, _ => T.ki_NoValue_Silent
 | 4, _ => T.ki_Missing_Silent
 | 5, _ => T.ki_NoStretch_Silent
 | 6, _ => T.ki_NoPaper_Silent
 | 7, _ => T.ki_NoPlace_Silent
 | 8, _ => T.ki_NoStamp_Silent
 | 9, _ => T.ki_NoHead_Silent
 | 10, _ => T.ki_Unsealed_Silent
 | 11, _ => T.ki_Elder_Silent
 | 12, _ => T.ki_Silent_Silent
 | 13, _ => T.ki_NoWay_Silent
 | 14, _ => T.ki_NoName_Silent
 | 15, _ => T.ki_NoRow_Silent
 | 16, _ => T.ki_NoPart_Silent
 | 17, _ => T.ki_Broken_Silent
 | 18, _ => T.ki_Parted_Silent
 | k + 19, h => absurd h (by omega)
theorem md (T : Txt K mg A) : ∀ k : Nat, k < 19 → W.kitOne K (.ref (cA A k)) (.ref A.c_NoWay) = some (decide (13 = k))
 | 0, _ => T.ki_NoTerm_NoWay
 | 1, _ => T.ki_NoBits_NoWay
 | 2, _ => T.ki_NoKey_NoWay
 | 3, _ => T.ki_NoValue_NoWay
 | 4, _ => T.ki_Missing_NoWay
 | 5, _ => T.ki_NoStretch_NoWay
 | 6, _ => T.ki_NoPaper_NoWay
 | 7, _ => T.ki_NoPlace_NoWay
 | 8, _ => T.ki_NoStamp_NoWay
 | 9, _ => T.ki_NoHead_NoWay
 | 10, _ => T.ki_Unsealed_NoWay
 | 11, _ => T.ki_Elder_NoWay
 | 12, _ => T.ki_Silent_NoWay
 | 13, _ => T.ki_NoWay_NoWay
 | 14, _ => T.ki_NoName_NoWay
 | 15, _ => T.ki_NoRow_NoWay
 | 16, _ => T.ki_NoPart_NoWay
 | 17, _ => T.ki_Broken_NoWay
 | 18, _ => T.ki_Parted_NoWay
 | k + 19, h => absurd h (by omega)
theorem mz (T : Txt K mg A) : ∀ k : Nat, k < 19 → W.kitOne K (.ref (cA A k)) (.ref A.c_NoName) = some (decide (14 = k))
 | 0, _ => T.ki_NoTerm_NoName
 | 1, _ => T.ki_NoBits_NoName
 | 2, _ => T.ki_NoKey_NoName
 | 3, _ => T.ki_NoValue_NoName
 | 4, _ => T.ki_Missing_NoName
 | 5, _ => T.ki_NoStretch_NoName
 | 6, _ => T.ki_NoPaper_NoName
 | 7, _ => T.ki_NoPlace_NoName
 | 8, _ => T.ki_NoStamp_NoName
 | 9, _ => T.ki_NoHead_NoName
 | 10, _ => T.ki_Unsealed_NoName
 | 11, _ => T.ki_Elder_NoName
 | 12, _ => T.ki_Silent_NoName
 | 13, _ => T.ki_NoWay_NoName
 | 14, _ => T.ki_NoName_NoName
 | 15, _ => T.ki_NoRow_NoName
 | 16, _ => T.ki_NoPart_NoName
 | 17, _ => T.ki_Broken_NoName
 | 18, _ => T.ki_Parted_NoName
 | k + 19, h => absurd h (by omega)
theorem mf (T : Txt K mg A) : ∀ k : Nat, k < 19 → W.kitOne K (.ref (cA A k)) (.ref A.c_NoRow) = some (decide (15 = k))
 | 0, _ => T.ki_NoTerm_NoRow
 | 1, _ => T.ki_NoBits_NoRow
 | 2, _ => T.ki_NoKey_NoRow
 | 3, _ => T.ki_NoValue_NoRow
 | 4, _ => T.ki_Missing_NoRow
 | 5, _ => T.ki_NoStretch_NoRow
 | 6, _ => T.ki_NoPaper_NoRow
 | 7, _ => T.ki_NoPlace_NoRow
 | 8, _ => T.ki_NoStamp_NoRow
 | 9, _ => T.ki_NoHead_NoRow
 | 10, _ => T.ki_Unsealed_NoRow
 | 11, _ => T.ki_Elder_NoRow
 | 12, _ => T.ki_Silent_NoRow
 | 13, _ => T.ki_NoWay_NoRow
 | 14, _ => T.ki_NoName_NoRow
 | 15, _ => T.ki_NoRow_NoRow
 | 16, _ => T.ki_NoPart_NoRow
 | 17, _ => T.ki_Broken_NoRow
 | 18, _ => T.ki_Parted_NoRow
 | k + 19, h => absurd h (by omega)
theorem me (T : Txt K mg A) : ∀ k : Nat, k < 19 → W.kitOne K (.ref (cA A k)) (.ref A.c_NoPart) = some (decide (16 = k))
 | 0, _ => T.ki_NoTerm_NoPart
 | 1, _ => T.ki_NoBits_NoPart
 | 2, _ => T.ki_NoKey_NoPart
 | 3, _ => T.ki_NoValue_NoPart
 | 4, _ => T.ki_Missing_NoPart
 | 5, _ => T.ki_NoStretch_NoPart
 | 6, _ => T.ki_NoPaper_NoPart
 | 7, _ => T.ki_NoPlace_NoPart
 | 8, _ => T.ki_NoStamp_NoPart
 | 9, _ => T.ki_NoHead_NoPart
 | 10, _ => T.ki_Unsealed_NoPart
 | 11, _ => T.ki_Elder_NoPart
 | 12, _ => T.ki_Silent_NoPart
 | 13, _ => T.ki_NoWay_NoPart
 | 14, _ => T.ki_NoName_NoPart
 | 15, _ => T.ki_NoRow_NoPart
 | 16, _ => T.ki_NoPart_NoPart
 | 17, _ => T.ki_Broken_NoPart
 | 18, _ => T.ki_Parted_NoPart
 | k + 19, h => absurd h (by omega)
theorem mM (T : Txt K mg A) : ∀ k : Nat, k < 19 → W.kitOne K (.ref (cA A k)) (.ref A.c_Broken) = some (decide (17 = k))
 | 0, _ => T.ki_NoTerm_Broken
 | 1, _ => T.ki_NoBits_Broken
 | 2, _ => T.ki_NoKey_Broken
 | 3, _ => T.ki_NoValue_Broken
 | 4, _ => T.ki_Missing_Broken
 | 5, _ => T.ki_NoStretch_Broken
 | 6, _ => T.ki_NoPaper_Broken
 | 7, _ => T.ki_NoPlace_Broken
 | 8, _ => T.ki_NoStamp_Broken
 | 9, _ => T.ki_NoHead_Broken
 | 10, _ => T.ki_Unsealed_Broken
 | 11, _ => T.ki_Elder_Broken
 | 12, _ => T.ki_Silent_Broken
 | 13, _ => T.ki_NoWay_Broken
 | 14, _ => T.ki_NoName_Broken
 | 15, _ => T.ki_NoRow_Broken
 | 16, _ => T.ki_NoPart_Broken
 | 17, _ => T.ki_Broken_Broken
 | 18, _ => T.ki_Parted_Broken
 | k + 19, h => absurd h (by omega)
theorem mR (T : Txt K mg A) : ∀ k : Nat, k < 19 → W.kitOne K (.ref (cA A k)) (.ref A.c_Parted) = some (decide (18 = k))
 | 0, _ => T.ki_NoTerm_Parted
 | 1, _ => T.ki_NoBits_Parted
 | 2, _ => T.ki_NoKey_Parted
 | 3, _ => T.ki_NoValue_Parted
 | 4, _ => T.ki_Missing_Parted
 | 5, _ => T.ki_NoStretch_Parted
 | 6, _ => T.ki_NoPaper_Parted
 | 7, _ => T.ki_NoPlace_Parted
 | 8, _ => T.ki_NoStamp_Parted
 | 9, _ => T.ki_NoHead_Parted
 | 10, _ => T.ki_Unsealed_Parted
 | 11, _ => T.ki_Elder_Parted
 | 12, _ => T.ki_Silent_Parted
 | 13, _ => T.ki_NoWay_Parted
 | 14, _ => T.ki_NoName_Parted
 | 15, _ => T.ki_NoRow_Parted
 | 16, _ => T.ki_NoPart_Parted
 | 17, _ => T.ki_Broken_Parted
 | 18, _ => T.ki_Parted_Parted
 | k + 19, h => absurd h (by omega)
theorem lP (K : W.Frag) (A : Adr) : Ln (gn K A) 1 := by rintro vs H Q E ⟨k, _, rfl, _⟩; rfl
theorem ma (T : Txt K mg A) (vs : List V) (H : Hp) (Q : VK) (E : XK) (h : gn K A vs H Q E) : T_4 K A E { nx := fun _ H' => Q .non H', rt := Q } (L2.aZ ["_law_k"] vs) H := by
 obtain ⟨k, lt, rfl, q⟩ := h
 refine Sel.dec (fun h => by obtain rfl : k = 0 := (by omega); exact q) fun h0 => ?_
 refine Sel.dec (fun h => by obtain rfl : k = 1 := (by omega); exact q) fun h1 => ?_
 refine Sel.dec (fun h => by obtain rfl : k = 2 := (by omega); exact q) fun h2 => ?_
 refine Sel.dec (fun h => by obtain rfl : k = 3 := (by omega); exact q) fun h3 => ?_
 refine Sel.dec (fun h => by obtain rfl : k = 4 := (by omega); exact q) fun h4 => ?_
 refine Sel.dec (fun h => by obtain rfl : k = 5 := (by omega); exact q) fun h5 => ?_
 refine Sel.dec (fun h => by obtain rfl : k = 6 := (by omega); exact q) fun h6 => ?_
 refine Sel.dec (fun h => by obtain rfl : k = 7 := (by omega); exact q) fun h7 => ?_
 obtain rfl : k = 8 := (by omega)
 exact q
theorem lH (K : W.Frag) (A : Adr) : Ln (fQ K A) 1 := by rintro vs H Q E ⟨k, _, _, rfl, _⟩; rfl
theorem mH (T : Txt K mg A) (vs : List V) (H : Hp) (Q : VK) (E : XK) (h : fQ K A vs H Q E) : T_9 K A E { nx := fun _ H' => Q .non H', rt := Q } (L2.aZ ["_law_k"] vs) H := by
 obtain ⟨k, ge, lt, rfl, q⟩ := h
 refine Sel.dec (fun h => by obtain rfl : k = 9 := (by omega); exact q) fun h9 => ?_
 refine Sel.dec (fun h => by obtain rfl : k = 10 := (by omega); exact q) fun h10 => ?_
 refine Sel.dec (fun h => by obtain rfl : k = 11 := (by omega); exact q) fun h11 => ?_
 refine Sel.dec (fun h => by obtain rfl : k = 12 := (by omega); exact q) fun h12 => ?_
 refine Sel.dec (fun h => by obtain rfl : k = 13 := (by omega); exact q) fun h13 => ?_
 refine Sel.dec (fun h => by obtain rfl : k = 14 := (by omega); exact q) fun h14 => ?_
 obtain rfl : k = 15 := (by omega)
 exact q
theorem lv (K : W.Frag) (A : Adr) : Ln (fI K A) 3 := by rintro vs H Q E ⟨a, x, y, rfl, _⟩; rfl
theorem lX (T : Txt K mg A) : Rd (fI K A) (T_1 K A) ["self", "depth", "begin"] := by
 intro vs H Q E h
 obtain ⟨a, x, y, rfl, ha, q⟩ := h
 refine ⟨a, rfl, T.ef_NoPart_depth, .inl ⟨ha, fun dx hdx ne => ?_⟩⟩
 refine ⟨a, rfl, T.ef_NoPart_begin, .inr ⟨dx, _, by rw [ak (Ne.symm ne)]; exact aj, aj, ne, by show 1 < 1000; decide, ?_⟩⟩
 exact q dx hdx
theorem lw (K : W.Frag) (A : Adr) : Ln (fS K A) 3 := by rintro vs H Q E ⟨a, x, y, rfl, _⟩; rfl
theorem mO (T : Txt K mg A) : Rd (fS K A) (T_0 K A) ["self", "due", "came"] := by
 intro vs H Q E h
 obtain ⟨a, x, y, rfl, ha, q⟩ := h
 refine ⟨a, rfl, T.ef_Broken_due, .inl ⟨ha, fun dx hdx ne => ?_⟩⟩
 refine ⟨a, rfl, T.ef_Broken_came, .inr ⟨dx, _, by rw [ak (Ne.symm ne)]; exact aj, aj, ne, by show 1 < 1000; decide, ?_⟩⟩
 exact q dx hdx
theorem lE (K : W.Frag) (A : Adr) : Ln (fV K A) 3 := by rintro vs H Q E ⟨a, x, y, rfl, _⟩; rfl
theorem mG (T : Txt K mg A) : Rd (fV K A) (T_2 K A) ["self", "due", "came"] := by
 intro vs H Q E h
 obtain ⟨a, x, y, rfl, ha, q⟩ := h
 refine ⟨a, rfl, T.ef_Parted_due, .inl ⟨ha, fun dx hdx ne => ?_⟩⟩
 refine ⟨a, rfl, T.ef_Parted_came, .inr ⟨dx, _, by rw [ak (Ne.symm ne)]; exact aj, aj, ne, by show 1 < 1000; decide, ?_⟩⟩
 exact q dx hdx
theorem gT {H : Hp} {a b : Addr} {o : HO} (h : upd H a o b = none) : b ≠ a ∧ H b = none := by
 by_cases e : b = a
 · subst e; rw [aj] at h; cases h
 · rw [ak e] at h; exact ⟨e, h⟩
theorem cH {H : Hp} {a : Addr} {C : Addr} {f g : Str} {x y : V} {E : XK} (ha : H a = none) (q : ∀ (dx : Addr) (H' : Hp), ar H H' → H' dx = some (bi (bx g y [(f, x)]) dx) → E (.ref C) (some dx) H')
  (dx : Addr) (hdx : upd H a (bc C a none) dx = none) : ∃ d, (upd (upd (upd (upd H a (bc C a none)) a (bc C a (some dx))) dx (bi [(f, x)] dx)) dx (bi (bx g y [(f, x)]) dx)) a = some (bc C a d) ∧ E (.ref C) d (cp a (upd (upd (upd (upd H a (bc C a none)) a (bc C a (some dx))) dx (bi [(f, x)] dx)) dx (bi (bx g y [(f, x)]) dx))) := by
 obtain ⟨nd, hd0⟩ := gT hdx
 refine ⟨some dx, by rw [ak (Ne.symm nd), ak (Ne.symm nd)]; exact aj, q dx _ (fun z o ez => ?_) (by rw [bw nd]; exact aj)⟩
 have na := al ez ha
 have nz := al ez hd0
 rw [bw na, ak nz, ak nz, ak na, ak na]; exact ez
theorem kM (K : W.Frag) (A : Adr) : Ln (cx K A) 3 := by rintro vs H Q E ⟨k, x, y, _, _, rfl, _⟩; rfl
theorem lz (T : Txt K mg A) (vs : List V) (H : Hp) (Q : VK) (E : XK) (h : cx K A vs H Q E) : jV K A E { nx := fun _ H' => Q .non H', rt := Q } (L2.aZ ["_law_k", "_law_one", "_law_other"] vs) H := by
 obtain ⟨k, x, y, ge, lt, rfl, q⟩ := h
 have hk : k = 16 ∨ k = 17 ∨ k = 18 := by omega
 rcases hk with rfl | rfl | rfl
 · exact Sel.yes (by decide) fun a ha => ⟨a, x, y, rfl, aj, fun dx hdx => ⟨rfl, cH ha q dx hdx⟩⟩
 · exact Sel.no (by decide) (Sel.yes (by decide) fun a ha => ⟨a, x, y, rfl, aj, fun dx hdx => ⟨rfl, cH ha q dx hdx⟩⟩)
 · exact Sel.no (by decide) (Sel.no (by decide) fun a ha => ⟨a, x, y, rfl, aj, fun dx hdx => ⟨rfl, cH ha q dx hdx⟩⟩)
theorem lC (K : W.Frag) (A : Adr) : Ln (fK K A) 3 := by rintro vs H Q E ⟨k, x, y, _, rfl, _⟩; rfl
theorem mC (T : Txt K mg A) (vs : List V) (H : Hp) (Q : VK) (E : XK) (h : fK K A vs H Q E) : T_7 K A E { nx := fun _ H' => Q .non H', rt := Q } (L2.aZ ["_law_k", "_law_one", "_law_other"] vs) H := by
 obtain ⟨k, x, y, lt, rfl, q⟩ := h
 refine Sel.dec (fun h9 => ⟨k, by omega, rfl, q none H (.refl H)⟩) fun h9 => Sel.dec (fun h16 => ⟨k, by omega, by omega, rfl, q none H (.refl H)⟩) fun h16 => ⟨k, x, y, by omega, lt, rfl, fun dx H' S _ => q (some dx) H' S⟩
end Rs
namespace Rs
open PySem PySem.Spec PyProof.Rows L2
variable {K : W.Frag} {mg : Str → Option Value} {A : Adr}
theorem lj (K : W.Frag) (A : Adr) : Ln (fX K A) 1 := by rintro vs H Q E ⟨a, k, d, rfl, _⟩; rfl
theorem mm (T : Txt K mg A) : Rd (fX K A) (T_5 K A) ["_law_e", "_law_found"] := by
 intro vs H Q E h
 obtain ⟨a, k, d, rfl, lt, ha, q⟩ := h
 have hC := eo T k lt
 have hG := eg T k lt
 refine ⟨a, _, _, _, _, _, rfl, ha, hC, hG, rfl, fun _ e => e, ki0 T k lt, ⟨a, _, _, _, _, _, rfl, ha, hC, hG, rfl, fun _ e => e, ki1 T k lt, ⟨a, _, _, _, _, _, rfl, ha, hC, hG, rfl, fun _ e => e, ki2 T k lt, ⟨a, _, _, _, _, _, rfl, ha, hC, hG, rfl, fun _ e => e, ki3 T k lt, be (show 4 ≤ 1000000 by decide), fun p1 h1 => ?_⟩⟩⟩⟩
 have ha : ∀ xs, upd H p1 (.lst xs) a = some (aR (cA A k) d a) := fun xs => ar.upd h1 _ _ ha
 refine ⟨a, _, _, _, _, _, rfl, ha _, hC, hG, rfl, fun _ e => e, ki4 T k lt, ⟨a, _, _, _, _, _, rfl, ha _, hC, hG, rfl, fun _ e => e, ki5 T k lt, ⟨a, _, _, _, _, _, rfl, ha _, hC, hG, rfl, fun _ e => e, ki6 T k lt, be (show 3 ≤ 1000000 by decide), fun p2 h2 => ?_⟩⟩⟩
 have n12 : p1 ≠ p2 := al aj h2
 refine .inl ⟨p1, p2, _, _, rfl, rfl, by rw [ak n12]; exact aj, aj, be (by exact (show 7 ≤ 1000000 by decide)), fun p3 h3 => ?_⟩
 have ha : ∀ xs ys zs, upd (upd (upd H p1 (.lst xs)) p2 (.lst ys)) p3 (.lst zs) a = some (aR (cA A k) d a) := fun xs ys zs => by
  have n3 : a ≠ p3 := al (ar.upd h2 _ _ (ha _)) h3
  have n2 : a ≠ p2 := al (ha _) h2
  rw [ak n3, ak n2]; exact ha xs
 refine ⟨a, _, _, _, _, _, rfl, ha _ _ _, hC, hG, rfl, fun _ e => e, ki7 T k lt, ⟨a, _, _, _, _, _, rfl, ha _ _ _, hC, hG, rfl, fun _ e => e, ki8 T k lt, be (show 2 ≤ 1000000 by decide), fun p4 h4 => ?_⟩⟩
 have n34 : p3 ≠ p4 := al aj h4
 refine .inl ⟨p3, p4, _, _, rfl, rfl, by rw [ak n34]; exact aj, aj, be (by exact (show 9 ≤ 1000000 by decide)), fun p5 h5 => ?_⟩
 exact q p5 _ ((ar.upd h1).trans ((ar.upd h2).trans ((ar.upd h3).trans ((ar.upd h4).trans (ar.upd h5))))) aj
theorem lG (K : W.Frag) (A : Adr) : Ln (gm K A) 1 := by rintro vs H Q E ⟨a, k, d, rfl, _⟩; rfl
theorem mB (T : Txt K mg A) : Rd (gm K A) (T_6 K A) ["_law_e", "_law_found"] := by
 intro vs H Q E h
 obtain ⟨a, k, d, rfl, lt, ha, q⟩ := h
 have hC := eo T k lt
 have hG := eg T k lt
 refine ⟨a, _, _, _, _, _, rfl, ha, hC, hG, rfl, fun _ e => e, ki9 T k lt, ⟨a, _, _, _, _, _, rfl, ha, hC, hG, rfl, fun _ e => e, lR T k lt, ⟨a, _, _, _, _, _, rfl, ha, hC, hG, rfl, fun _ e => e, lZ T k lt, ⟨a, _, _, _, _, _, rfl, ha, hC, hG, rfl, fun _ e => e, lS T k lt, be (show 4 ≤ 1000000 by decide), fun p1 h1 => ?_⟩⟩⟩⟩
 have ha : ∀ xs, upd H p1 (.lst xs) a = some (aR (cA A k) d a) := fun xs => ar.upd h1 _ _ ha
 refine ⟨a, _, _, _, _, _, rfl, ha _, hC, hG, rfl, fun _ e => e, md T k lt, ⟨a, _, _, _, _, _, rfl, ha _, hC, hG, rfl, fun _ e => e, mz T k lt, ⟨a, _, _, _, _, _, rfl, ha _, hC, hG, rfl, fun _ e => e, mf T k lt, be (show 3 ≤ 1000000 by decide), fun p2 h2 => ?_⟩⟩⟩
 have n12 : p1 ≠ p2 := al aj h2
 refine .inl ⟨p1, p2, _, _, rfl, rfl, by rw [ak n12]; exact aj, aj, be (by exact (show 7 ≤ 1000000 by decide)), fun p3 h3 => ?_⟩
 have ha : ∀ xs ys zs, upd (upd (upd H p1 (.lst xs)) p2 (.lst ys)) p3 (.lst zs) a = some (aR (cA A k) d a) := fun xs ys zs => by
  have n3 : a ≠ p3 := al (ar.upd h2 _ _ (ha _)) h3
  have n2 : a ≠ p2 := al (ha _) h2
  rw [ak n3, ak n2]; exact ha xs
 refine ⟨a, _, _, _, _, _, rfl, ha _ _ _, hC, hG, rfl, fun _ e => e, me T k lt, ⟨a, _, _, _, _, _, rfl, ha _ _ _, hC, hG, rfl, fun _ e => e, mM T k lt, ⟨a, _, _, _, _, _, rfl, ha _ _ _, hC, hG, rfl, fun _ e => e, mR T k lt, be (show 3 ≤ 1000000 by decide), fun p4 h4 => ?_⟩⟩⟩
 have n34 : p3 ≠ p4 := al aj h4
 refine .inl ⟨p3, p4, _, _, rfl, rfl, by rw [ak n34]; exact aj, aj, be (by exact (show 10 ≤ 1000000 by decide)), fun p5 h5 => ?_⟩
 exact q p5 _ ((ar.upd h1).trans ((ar.upd h2).trans ((ar.upd h3).trans ((ar.upd h4).trans (ar.upd h5))))) aj
end Rs
namespace Rs
open PySem PySem.Spec PyProof.Rows L2
variable {K : W.Frag} {mg : Str → Option Value} {A : Adr}
theorem cN {K : W.Frag} {H : Hp} : ∀ bs : List Bool, DatVs K H (bs.map V.bl) (bs.map PyData.bool)
 | [] => .nil
 | b :: r => .cons (.bl b) (cN r)
theorem dh : ∀ bs : List Bool, PyData.eqvAll (bs.map PyData.bool) (bs.map PyData.bool) = true
  | [] => rfl
  | b :: r => by
    show (PyData.eqv (.bool b) (.bool b) && PyData.eqvAll (r.map PyData.bool) (r.map PyData.bool)) = true
    rw [dh r]
    cases b <;> rfl
theorem cz : ∀ bs : List Bool, (PyData.list (bs.map PyData.bool)).canLay0 = true
 | [] => rfl
 | b :: r => cz r
theorem cK : ∀ bs : List Bool, PyData.depthAll (bs.map PyData.bool) = 0
 | [] => rfl
 | b :: r => by show max 0 (PyData.depthAll (r.map PyData.bool)) = 0; rw [cK r]; rfl
theorem jq {H : Hp} {Q : VK} {p r : Addr} {bs : List Bool} (hp : H p = some (.lst (bs.map V.bl))) (hr : H r = some (.lst (bs.map V.bl))) (q : Q (.bl true) H) : ba K (.ref p) (.ref r) H Q := by
 refine .inr (.inl ⟨_, _, .lst (SqL.of hp) (cN bs), .lst (SqL.of hr) (cN bs), cz bs, cz bs, ?_, ?_⟩)
 · show PyData.depthAll (bs.map PyData.bool) + 1 ≤ 150
   rw [cK]; decide
 · have e : (PyData.list (bs.map PyData.bool)).eqv (PyData.list (bs.map PyData.bool)) = true := dh bs
   rw [e]; exact q
theorem jA (k lo n : Nat) : isL k lo n = ((List.range' lo n).map fun j => decide (j = k)).map V.bl := by rw [List.map_map]; rfl
theorem lN (K : W.Frag) (A : Adr) : Ln (eI K A) 3 := by rintro vs H Q E ⟨k, x, y, _, rfl, _⟩; rfl
theorem mQ (T : Txt K mg A) : Rd (eI K A) (T_8 K A) ["_law_k", "_law_one", "_law_other", "_law_e", "_law_due"] := by
 intro vs H Q E h
 obtain ⟨k, x, y, lt, rfl, q⟩ := h
 refine ⟨k, x, y, lt, rfl, fun d H1 S1 => ⟨cA A k, rfl, eo T k lt, true, sb T k lt, Sel.t fun ah hah => ?_⟩⟩
 have h0 : upd H1 ah (aR (cA A k) d ah) ah = some (aR (cA A k) d ah) := aj
 have S2 : ar H (upd H1 ah (aR (cA A k) d ah)) := S1.trans (ar.upd hah)
 generalize upd H1 ah (aR (cA A k) d ah) = H2 at h0 S2
 refine ⟨19, rfl, by decide, by decide, fun D hD => jb (J := fO ah 0 19) (n := 19) (it := fun i => .int (0 + (i : Int))) (Pk := fun H => ∃ C d, H ah = some (aR C d ah)) ⟨fun i H hi _ => hi, fun i H x H' hi _ y => y, fun H h => ⟨Nat.le_refl _, h⟩⟩
   (fun i ys H' => H' = upd H2 D (.lst ys) ∧ ys = isL k 0 i) ?_ ⟨rfl, rfl⟩ ?_ ?_⟩
 · rintro i ys H' _ ⟨rfl, _⟩
   exact ⟨_, _, by rw [ak (al h0 hD)]; exact h0⟩
 · rintro i ys H' hi ⟨rfl, rfl⟩
   refine ⟨aj, ?_, CWd.next hi ⟨by rw [jL], ?_⟩⟩
   · unfold isL; rw [List.length_map, List.length_range']; exact gN (by omega)
   · unfold isL
     have e : decide ((0 : Int) + (i : Int) = (k : Int)) = decide (i = k) := by
      by_cases e : i = k
      · rw [decide_eq_true e, decide_eq_true (by omega)]
      · rw [decide_eq_false e, decide_eq_false (by omega)]
     rw [List.range'_concat, List.map_append, Nat.one_mul, Nat.zero_add]
     show _ ++ [V.bl (decide ((0 : Int) + (i : Int) = (k : Int)))] = _
     rw [e]; rfl
 · rintro ys H' ⟨rfl, rfl⟩
   have h3 : upd H2 D (.lst (isL k 0 19)) ah = some (aR (cA A k) d ah) := by rw [ak (al h0 hD)]; exact h0
   have hD3 : upd H2 D (.lst (isL k 0 19)) D = some (.lst (isL k 0 19)) := aj
   have S3 : ar H (upd H2 D (.lst (isL k 0 19))) := S2.trans (ar.upd hD)
   generalize upd H2 D (.lst (isL k 0 19)) = H3 at h3 hD3 S3
   refine ⟨ah, k, d, rfl, lt, h3, fun p H4 S4 hp => ⟨ah, k, d, rfl, lt, S4 _ _ h3, fun r H5 S5 hr => ?_⟩⟩
   refine .inl ⟨p, r, _, _, rfl, rfl, S5 _ _ hp, hr, ?_, fun z hz => ?_⟩
   · unfold isL; rw [List.length_map, List.length_map, List.length_range', List.length_range']; exact be (by decide)
   · have e : isL k 0 9 ++ isL k 9 10 = isL k 0 19 := rfl
     rw [e]
     have hz' : upd H5 z (.lst (isL k 0 19)) z = some (.lst (isL k 0 19)) := aj
     have S6 : ar H5 (upd H5 z (.lst (isL k 0 19))) := ar.upd hz
     generalize upd H5 z (.lst (isL k 0 19)) = H6 at hz' S6
     rw [jA] at hz' hD3
     refine jq hz' (S6 _ _ (S5 _ _ (S4 _ _ hD3))) (Sel.t ⟨ah, _, _, _, _, _, rfl, S6 _ _ (S5 _ _ (S4 _ _ h3)), eo T k lt, eg T k lt, rfl, fun _ e => e, kv T k lt, q _ (S3.trans (S4.trans (S5.trans S6)))⟩)
end Rs
namespace Rs
open PySem PySem.Spec PyProof.Rows L2
variable {K : W.Frag} {mg : Str → Option Value} {A : Adr}
theorem eQ {H : Hp} {Q : VK} {a : Key} (q : Q (.bl true) H) : ba K (kV a) (kV a) H Q := by
 cases a with
 | inl i => show Q (.bl (decide (i = i))) H; rw [decide_eq_true rfl]; exact q
 | inr i => show Q (.bl (decide (i = i))) H; rw [decide_eq_true rfl]; exact q
theorem cm {H : Hp} {Q : VK} {a : Key} (q : Q (.bl false) H) : df K (kV a) (kV a) H Q := by
 cases a with
 | inl i => show Q (.bl (!decide (i = i))) H; rw [decide_eq_true rfl]; exact q
 | inr i => show Q (.bl (!decide (i = i))) H; rw [decide_eq_true rfl]; exact q
theorem ll (K : W.Frag) (A : Adr) : Ln (dL K A) 2 := by rintro vs H Q E ⟨x, y, rfl, _⟩; rfl
theorem mD (T : Txt K mg A) : Rd (dL K A) (T_3 K A) ["_law_one", "_law_other", "_law_e"] := by
 intro vs H Q E h
 obtain ⟨x, y, rfl, q⟩ := h
 refine ⟨16, kV x, kV y, by decide, by decide, rfl, fun dx H1 S1 hdx => ⟨A.c_NoPart, rfl, T.eo_NoPart, true, T.sb_NoPart_NoPart, Sel.t fun a ha => ?_⟩⟩
 have nd : dx ≠ a := al hdx ha
 have hx : upd H1 a (aR A.c_NoPart (some dx) a) dx = some (bi (bx "begin" (kV y) [("depth", kV x)]) dx) := by rw [ak nd]; exact hdx
 refine ⟨a, A.c_NoPart, dx, _, kV x, rfl, aj, hx, T.ef_NoPart_depth, rfl, cm (Sel.f ⟨a, A.c_NoPart, dx, _, kV y, rfl, aj, hx, T.ef_NoPart_begin, rfl, cm (Sel.f ?_)⟩)⟩
 have S2 : ar H (upd H1 a (aR A.c_NoPart (some dx) a)) := S1.trans (ar.upd ha)
 generalize upd H1 a (aR A.c_NoPart (some dx) a) = H2 at S2
 clear hx nd ha hdx
 refine ⟨17, kV x, kV y, by decide, by decide, rfl, fun dx H3 S3 hdx => ⟨A.c_Broken, rfl, T.eo_Broken, true, T.sb_Broken_Broken, Sel.t fun a ha => ?_⟩⟩
 have nd : dx ≠ a := al hdx ha
 have hx : upd H3 a (aR A.c_Broken (some dx) a) dx = some (bi (bx "came" (kV y) [("due", kV x)]) dx) := by rw [ak nd]; exact hdx
 refine ⟨a, A.c_Broken, dx, _, kV x, rfl, aj, hx, T.ef_Broken_due, rfl, cm (Sel.f ⟨a, A.c_Broken, dx, _, kV y, rfl, aj, hx, T.ef_Broken_came, rfl, cm (Sel.f ?_)⟩)⟩
 have S4 : ar H (upd H3 a (aR A.c_Broken (some dx) a)) := S2.trans (S3.trans (ar.upd ha))
 generalize upd H3 a (aR A.c_Broken (some dx) a) = H4 at S4
 clear hx nd ha hdx
 refine ⟨18, kV x, kV y, by decide, by decide, rfl, fun dx H5 S5 hdx => ⟨A.c_Parted, rfl, T.eo_Parted, true, T.sb_Parted_Parted, Sel.t fun a ha => ?_⟩⟩
 have nd : dx ≠ a := al hdx ha
 have hx : upd H5 a (aR A.c_Parted (some dx) a) dx = some (bi (bx "came" (kV y) [("due", kV x)]) dx) := by rw [ak nd]; exact hdx
 refine ⟨a, A.c_Parted, dx, _, kV x, rfl, aj, hx, T.ef_Parted_due, rfl, eQ (Sel.t ⟨a, A.c_Parted, dx, _, kV y, rfl, aj, hx, T.ef_Parted_came, rfl, eQ ?_⟩)⟩
 exact q _ (S4.trans (S5.trans (ar.upd ha)))
end Rs
namespace Rs
open PySem PySem.Spec PyProof.Rows L2
variable {K : W.Frag} {mg : Str → Option Value} {A : Adr}
theorem jS (K : W.Frag) (A : Adr) : Ln (eC K A) 1 := by rintro vs H Q E ⟨a, ns, rfl, _⟩; rfl
theorem gc {i : Int} (h0 : 0 ≤ i) (h1 : i < 1000) : i.natAbs.log2 < 1920 := by
 have e : i.natAbs < 2 ^ 10 := by omega
 by_cases z : i.natAbs = 0
 · rw [z]; decide
 · have := (Nat.log2_lt z).mpr e; omega
theorem lK (T : Txt K mg A) : Rd (eC K A) (mV K A) ["_law_script", "_law_k", "_law_cell", "_law_one", "_law_other"] := by
 intro vs H Q E h
 obtain ⟨a, ns, rfl, hs, hl, _, q⟩ := h
 refine ⟨19, rfl, by decide, by decide, gD (lo := 0) (n := 19) (fun i σ H' => ar H H' ∧ ∃ x1, σ = [some (.ref a), x1, none, none, none]) ⟨.refl H, none, rfl⟩ ?_ ?_⟩
 · rintro i σ H' hi ⟨S, x1, rfl⟩
   have e : (0 : Int) + (i : Int) = (i : Int) := Int.zero_add _
   rw [e]
   exact ⟨i, _, _, hi, rfl, fun H1 S1 => Sel.f ⟨S.trans S1, _, rfl⟩⟩
 · rintro σ H' ⟨S, x1, rfl⟩
   obtain ⟨zs, ez, hz⟩ := gC ns none (some 20)
   refine ⟨20, rfl, .inl (.inl ⟨a, _, rfl, S.seq hs, fun p hp => ?_⟩)⟩
   rw [ez]
   refine ⟨p, rfl, .inl ⟨⟨_, SqL.of aj⟩, ?_⟩⟩
   have hp1 : upd H' p (.lst (zs.map V.int)) p = some (.lst (zs.map V.int)) := aj
   generalize upd H' p (.lst (zs.map V.int)) = H1 at hp1
   refine ia (xs := zs.map V.int) (fun i σ H' => ar H1 H' ∧ ∃ x1 x2 x3 x4, σ = [some (.ref a), x1, x2, x3, x4]) ⟨.refl H1, _, none, none, none, rfl⟩ ?_ ?_ ?_
   · rintro i σ H2 _ ⟨S2, _⟩; exact SqL.of (S2 _ _ hp1)
   · rintro i x σ H2 hx ⟨S2, x1, x2, x3, x4, rfl⟩
     obtain ⟨c, _, rfl⟩ := jw hx
     have c0 : 0 ≤ c % 1000 := Int.emod_nonneg _ (by decide)
     have c1 : c % 1000 < 1000 := Int.emod_lt_of_pos _ (by decide)
     refine ⟨⟨by decide, by decide, by decide⟩, by decide +kernel, by decide, gc c0 c1, by decide, by decide, be (show 2 ≤ 1000000 by decide), fun p2 hp2 => ?_⟩
     have S3 : ar H1 (upd H2 p2 (.lst [.str (toString (c % 1000)), .int (c / 2 % 60)])) := S2.trans (ar.upd hp2)
     have hp3 : upd H2 p2 (.lst [.str (toString (c % 1000)), .int (c / 2 % 60)]) p2 = some (.lst [.str (toString (c % 1000)), .int (c / 2 % 60)]) := aj
     generalize upd H2 p2 (.lst [.str (toString (c % 1000)), .int (c / 2 % 60)]) = H3 at S3 hp3
     have e19 : c % 19 = (((c % 19).toNat : Nat) : Int) := by omega
     have two : c % 2 = 0 ∨ c % 2 = 1 := by omega
     rcases two with e | e
     · refine ⟨by decide, ixL (j := 0) hp3 e rfl ?_⟩
       refine ⟨by decide, (c % 19).toNat, _, _, by omega, by rw [← e19], fun H4 S4 => Sel.f ?_⟩
       refine ⟨.inl (c % 10 ^ 60), .inr (toString (c % 1000)), rfl, fun H5 S5 => Sel.f ?_⟩
       refine ⟨.inr (toString (c % 1000)), .inl (c % 10 ^ 60), rfl, fun H6 S6 => Sel.f ?_⟩
       exact ⟨S3.trans (S4.trans (S5.trans S6)), _, _, _, _, rfl⟩
     · refine ⟨by decide, ixL (j := 1) hp3 e rfl ?_⟩
       refine ⟨by decide, (c % 19).toNat, _, _, by omega, by rw [← e19], fun H4 S4 => Sel.f ?_⟩
       refine ⟨.inl (c % 10 ^ 60), .inl (c / 2 % 60), rfl, fun H5 S5 => Sel.f ?_⟩
       refine ⟨.inl (c / 2 % 60), .inl (c % 10 ^ 60), rfl, fun H6 S6 => Sel.f ?_⟩
       exact ⟨S3.trans (S4.trans (S5.trans S6)), _, _, _, _, rfl⟩
   · rintro σ H2 ⟨S2, x1, x2, x3, x4, rfl⟩
     exact ⟨.inl 3, .inr "came", rfl, fun H3 S3 => q H3⟩
end Rs
namespace Rs
open PySem PySem.Spec PyProof.Rows L2
structure TP (P : Program) (w : World) (K : W.Frag) (mg : Str → Option Value) (base : Heap) (A : Adr) : Prop extends Txt K mg A where
 B : BM mg base
variable {P : Program} {w : World} {K : W.Frag} {mg : Str → Option Value} {base : Heap} {A : Adr} (T : TP P w K mg base A)
include T
theorem mL (cdv : Value) (Ar : Around) (outer : List Env) (s : Shared) (H : Hp) (E : XK)
  (hr : aE 0 (Ar.deeper (envOfC "_law_first" (ai s_4) s.heap.objs.size A.a_4 cdv))) : PSs (bg (CX1 P w) P w K mg base ["_law_k"] "_law_first" (ai s_4) A.a_4 cdv Ar outer s H E) (aD s_4) (T_4 K A E) := QSs.out (
 ao (aS (aN (bo hr.units150) (ad 0) (aB)) (am (aQ T.er_NoTerm T.mc_NoTerm aA)) (aC)) (ao (aS (aN (bo hr.units150) (ad 0) (aB)) (am (aQ T.er_NoBits T.mc_NoBits aA)) (aC)) (ao (aS (aN (bo hr.units150) (ad 0) (aB)) (am (aQ T.er_NoKey T.mc_NoKey aA)) (aC)) (ao (aS (aN (bo hr.units150) (ad 0) (aB)) (am (aQ T.er_NoValue T.mc_NoValue aA)) (aC)) (ao (aS (aN (bo hr.units150) (ad 0) (aB)) (am (aQ T.er_Missing T.mc_Missing aA)) (aC)) (ao (aS (aN (bo hr.units150) (ad 0) (aB)) (am (aQ T.er_NoStretch T.mc_NoStretch aA)) (aC)) (ao (aS (aN (bo hr.units150) (ad 0) (aB)) (am (aQ T.er_NoPaper T.mc_NoPaper aA)) (aC)) (ao (aS (aN (bo hr.units150) (ad 0) (aB)) (am (aQ T.er_NoPlace T.mc_NoPlace aA)) (aC)) (am (aQ T.er_NoStamp T.mc_NoStamp aA))))))))))
theorem mI : bh P w K mg base (CX1 P w) 1 A.a_4 A.d_4 ["_law_k"] (gn K A) :=
 T.f_4.f.okX ms (lP K A) (fun cdv Ar outer s H vs Q E hr h => ⟨_, mL T cdv Ar outer s H E hr, ma T.1 vs H Q E h⟩)
theorem mU (cdv : Value) (Ar : Around) (outer : List Env) (s : Shared) (H : Hp) (E : XK)
  (hr : aE 0 (Ar.deeper (envOfC "_law_second" (ai s_9) s.heap.objs.size A.a_9 cdv))) : PSs (bg (CX1 P w) P w K mg base ["_law_k"] "_law_second" (ai s_9) A.a_9 cdv Ar outer s H E) (aD s_9) (T_9 K A E) := QSs.out (
 ao (aS (aN (bo hr.units150) (ad 0) (aB)) (am (aQ T.er_NoHead T.mc_NoHead aA)) (aC)) (ao (aS (aN (bo hr.units150) (ad 0) (aB)) (am (aQ T.er_Unsealed T.mc_Unsealed aA)) (aC)) (ao (aS (aN (bo hr.units150) (ad 0) (aB)) (am (aQ T.er_Elder T.mc_Elder aA)) (aC)) (ao (aS (aN (bo hr.units150) (ad 0) (aB)) (am (aQ T.er_Silent T.mc_Silent aA)) (aC)) (ao (aS (aN (bo hr.units150) (ad 0) (aB)) (am (aQ T.er_NoWay T.mc_NoWay aA)) (aC)) (ao (aS (aN (bo hr.units150) (ad 0) (aB)) (am (aQ T.er_NoName T.mc_NoName aA)) (aC)) (am (aQ T.er_NoRow T.mc_NoRow aA))))))))
theorem mh : bh P w K mg base (CX1 P w) 1 A.a_9 A.d_9 ["_law_k"] (fQ K A) :=
 T.f_9.f.okX lY (lH K A) (fun cdv Ar outer s H vs Q E hr h => ⟨_, mU T cdv Ar outer s H E hr, mH T.1 vs H Q E h⟩)
theorem lT : bh P w K mg base (CX1 P w) 1 A.a_1 A.d_1 ["self", "depth", "begin"] (fI K A) :=
 T.f_1.okS mj (lv K A) (lX T.1) fun _ _ _ _ _ _ hr =>
 ao (ci (ad 0) (ad 1)) (am (ci (ad 0) (ad 2)))
theorem mX : bh P w K mg base (CX1 P w) 1 A.a_0 A.d_0 ["self", "due", "came"] (fS K A) :=
 T.f_0.okS lQ (lw K A) (mO T.1) fun _ _ _ _ _ _ hr =>
 ao (ci (ad 0) (ad 1)) (am (ci (ad 0) (ad 2)))
theorem lW : bh P w K mg base (CX1 P w) 1 A.a_2 A.d_2 ["self", "due", "came"] (fV K A) :=
 T.f_2.okS mw (lE K A) (mG T.1) fun _ _ _ _ _ _ hr =>
 ao (ci (ad 0) (ad 1)) (am (ci (ad 0) (ad 2)))
theorem lg (cdv : Value) (Ar : Around) (outer : List Env) (s : Shared) (H : Hp) (E : XK)
  (hr : aE 2 (Ar.deeper (envOfC "_law_third" (ai dQ) s.heap.objs.size A.a_10 cdv))) : PSs (bg (CX1 P w) P w K mg base ["_law_k", "_law_one", "_law_other"] "_law_third" (ai dQ) A.a_10 cdv Ar outer s H E) (aD dQ) (jV K A E) := QSs.out (
 ao (aS (aN (bo hr.units150) (ad 0) (aB)) (am (cY T.em_NoPart (lT T) hr.le T.b_1 T.mc_NoPart aA (ac (ad 1) (ac (ad 2) (aq))))) (aC)) (ao (aS (aN (bo hr.units150) (ad 0) (aB)) (am (cY T.em_Broken (mX T) hr.le T.b_0 T.mc_Broken aA (ac (ad 1) (ac (ad 2) (aq))))) (aC)) (am (cY T.em_Parted (lW T) hr.le T.b_2 T.mc_Parted aA (ac (ad 1) (ac (ad 2) (aq)))))))
theorem ev : bh P w K mg base (CX1 P w) 3 A.a_10 A.d_10 ["_law_k", "_law_one", "_law_other"] (cx K A) :=
 T.f_10.f.okX lr (kM K A) (fun cdv Ar outer s H vs Q E hr h => ⟨_, lg T cdv Ar outer s H E hr, lz T.1 vs H Q E h⟩)
theorem mS (cdv : Value) (Ar : Around) (outer : List Env) (s : Shared) (H : Hp) (E : XK)
  (hr : aE 3 (Ar.deeper (envOfC "_law_raised" (ai s_7) s.heap.objs.size A.a_7 cdv))) : PSs (bg (CX1 P w) P w K mg base ["_law_k", "_law_one", "_law_other"] "_law_raised" (ai s_7) A.a_7 cdv Ar outer s H E) (aD s_7) (T_7 K A E) := QSs.out (
 ao (aS (aN oLt (ad 0) (aB)) (am (bO (bA (mI T) hr.le T.f_4.m T.f_4.f.kp T.f_4.b da (ac (ad 0) (aq))))) (aC)) (ao (aS (aN oLt (ad 0) (aB)) (am (bO (bA (mh T) hr.le T.f_9.m T.f_9.f.kp T.f_9.b da (ac (ad 0) (aq))))) (aC)) (am (bO (bA (ev T) hr.le T.f_10.m T.f_10.f.kp T.f_10.b da (ac (ad 0) (ac (ad 1) (ac (ad 2) (aq)))))))))
theorem mT : bh P w K mg base (CX1 P w) 4 A.a_7 A.d_7 ["_law_k", "_law_one", "_law_other"] (fK K A) :=
 T.f_7.f.okX ml (lC K A) (fun cdv Ar outer s H vs Q E hr h => ⟨_, mS T cdv Ar outer s H E hr, mC T.1 vs H Q E h⟩)
theorem mq : dB P w K mg base 1 A.a_5 A.d_5 ["_law_e"] (fX K A) :=
 T.f_5.f.okH il (lj K A) (mm T.1) fun _ _ _ _ _ _ hr =>
 ao (cP 1 il.nd (cw (ac (aI aX T.z_isinstance boot_isinstance (ac (ad 0) (ac (bp T.mc_NoTerm) (aq)))) (ac (aI aX T.z_isinstance boot_isinstance (ac (ad 0) (ac (bp T.mc_NoBits) (aq)))) (ac (aI aX T.z_isinstance boot_isinstance (ac (ad 0) (ac (bp T.mc_NoKey) (aq)))) (ac (aI aX T.z_isinstance boot_isinstance (ac (ad 0) (ac (bp T.mc_NoValue) (aq)))) (aq))))))) (ao (cP 1 il.nd (bG dv (ad 1) (cw (ac (aI aX T.z_isinstance boot_isinstance (ac (ad 0) (ac (bp T.mc_Missing) (aq)))) (ac (aI aX T.z_isinstance boot_isinstance (ac (ad 0) (ac (bp T.mc_NoStretch) (aq)))) (ac (aI aX T.z_isinstance boot_isinstance (ac (ad 0) (ac (bp T.mc_NoPaper) (aq)))) (aq))))))) (am (bB (bG dv (ad 1) (cw (ac (aI aX T.z_isinstance boot_isinstance (ac (ad 0) (ac (bp T.mc_NoPlace) (aq)))) (ac (aI aX T.z_isinstance boot_isinstance (ac (ad 0) (ac (bp T.mc_NoStamp) (aq)))) (aq))))))))
theorem mn : dB P w K mg base 1 A.a_6 A.d_6 ["_law_e"] (gm K A) :=
 T.f_6.f.okH ip (lG K A) (mB T.1) fun _ _ _ _ _ _ hr =>
 ao (cP 1 ip.nd (cw (ac (aI aX T.z_isinstance boot_isinstance (ac (ad 0) (ac (bp T.mc_NoHead) (aq)))) (ac (aI aX T.z_isinstance boot_isinstance (ac (ad 0) (ac (bp T.mc_Unsealed) (aq)))) (ac (aI aX T.z_isinstance boot_isinstance (ac (ad 0) (ac (bp T.mc_Elder) (aq)))) (ac (aI aX T.z_isinstance boot_isinstance (ac (ad 0) (ac (bp T.mc_Silent) (aq)))) (aq))))))) (ao (cP 1 ip.nd (bG dv (ad 1) (cw (ac (aI aX T.z_isinstance boot_isinstance (ac (ad 0) (ac (bp T.mc_NoWay) (aq)))) (ac (aI aX T.z_isinstance boot_isinstance (ac (ad 0) (ac (bp T.mc_NoName) (aq)))) (ac (aI aX T.z_isinstance boot_isinstance (ac (ad 0) (ac (bp T.mc_NoRow) (aq)))) (aq))))))) (am (bB (bG dv (ad 1) (cw (ac (aI aX T.z_isinstance boot_isinstance (ac (ad 0) (ac (bp T.mc_NoPart) (aq)))) (ac (aI aX T.z_isinstance boot_isinstance (ac (ad 0) (ac (bp T.mc_Broken) (aq)))) (ac (aI aX T.z_isinstance boot_isinstance (ac (ad 0) (ac (bp T.mc_Parted) (aq)))) (aq)))))))))
theorem ke : bh P w K mg base (CX1 P w) 5 A.a_8 A.d_8 ["_law_k", "_law_one", "_law_other"] (eI K A) :=
 T.f_8.f.okS hV (lN K A) (mQ T.1) fun _ _ _ _ _ E hr =>
 ao (eE (fun pn' E' EH hEH => am (bO (bA (mT T) hr.le T.f_7.m T.f_7.f.kp T.f_7.b hEH (ac (ad 0) (ac (ad 1) (ac (ad 2) (aq))))))) (kZ 3 hV.nd T.eo_StampError T.mc_StampError (fun a => ao (gH (ah := a) (ys := ["_law_k"]) 4 rfl hV.nd (by exact ⟨rfl, by decide +kernel, by decide +kernel, rfl, by decide +kernel, by decide +kernel⟩) (by exact .cons rfl (by first | exact .inl rfl | exact .inr rfl) rfl (.nil)) T.z_range (ac (aB) (aq)) (fun C s H fp => (eF (bo hr.units150) (ad 0) (ad 1)))) (am (bB (iQ (eF (bo hr.units150) (bG dv (iE (mq T) (aE.h hr.le) T.f_5 (ac (ad 3) (aq))) (iE (mn T) (aE.h hr.le) T.f_6 (ac (ad 3) (aq)))) (ad 4)) (iF (aI aX T.z_isinstance boot_isinstance (ac (ad 3) (ac (mP T.z_ValueError em) (aq))))))))) (dD)) (aC)) (am (bB (dO)))
theorem gZ : bh P w K mg base (CX1 P w) 4 A.a_3 A.d_3 ["_law_one", "_law_other"] (dL K A) :=
 T.f_3.f.okS gf (ll K A) (mD T.1) fun _ _ _ _ _ E hr =>
 ao (eE (fun pn' E' EH hEH => am (bO (bA (ev T) hr.le T.f_10.m T.f_10.f.kp T.f_10.b hEH (ac (aB) (ac (ad 0) (ac (ad 1) (aq))))))) (gi 2 gf.nd T.eo_NoPart T.mc_NoPart (fun a => am (aS (x_w (eD (aN (fL hr.units150) (bY (ad 2)) (ad 0)) (eU (aN (fL hr.units150) (bY (ad 2)) (ad 1))))) (am (bB (dO))) (aC))) (dD)) (aC)) (ao (eE (fun pn' E' EH hEH => am (bO (bA (ev T) hr.le T.f_10.m T.f_10.f.kp T.f_10.b hEH (ac (aB) (ac (ad 0) (ac (ad 1) (aq))))))) (gi 2 gf.nd T.eo_Broken T.mc_Broken (fun a => am (aS (x_w (eD (aN (fL hr.units150) (bY (ad 2)) (ad 0)) (eU (aN (fL hr.units150) (bY (ad 2)) (ad 1))))) (am (bB (dO))) (aC))) (dD)) (aC)) (ao (eE (fun pn' E' EH hEH => am (bO (bA (ev T) hr.le T.f_10.m T.f_10.f.kp T.f_10.b hEH (ac (aB) (ac (ad 0) (ac (ad 1) (aq))))))) (gi 2 gf.nd T.eo_Parted T.mc_Parted (fun a => am (bB (iQ (eF (bo hr.units150) (bY (ad 2)) (ad 0)) (iF (eF (bo hr.units150) (bY (ad 2)) (ad 1)))))) (dD)) (aC)) (am (bB (dO)))))
theorem lF : bh P w K mg base (CX1 P w) 6 A.a_11 A.d_11 ["_law_script"] (eC K A) :=
 T.f_11.f.okS dn (jS K A) (lK T.1) fun _ _ _ _ _ _ hr =>
 ao (iG 1 dn.nd (im T.z_range (ac (aB) (aq))) (am (aS (dz (dl (eO (ke T) hr.le T.f_8 (ac (ad 1) (ac (ad 1) (ac (iK) (aq))))))) (am (bB (dO))) (aC))) PassesOwn.never) (ao (iG 2 dn.nd (jR (jo ky (ad 0) (jk) (jv (aB)))) (ao (cP 3 dn.nd (bG eV (ad 2) (bG lV (aB) (aB)))) (ao (cP 4 dn.nd (my (kW hr.units1) (cw (ac (iu mr T.z_str boot_str (ac (bG eV (ad 2) (aB)) (aq))) (ac (bG eV (bG kU (ad 2) (aB)) (aB)) (aq)))) (bG eV (ad 2) (aB)) (fun _ _ => rfl))) (am (aS (x_w (eD (dz (dl (eO (ke T) hr.le T.f_8 (ac (bG eV (ad 2) (aB)) (ac (ad 3) (ac (ad 4) (aq))))))) (eD (dz (dl (eO (gZ T) hr.le T.f_3 (ac (ad 3) (ac (ad 4) (aq)))))) (eU (dz (dl (eO (gZ T) hr.le T.f_3 (ac (ad 4) (ac (ad 3) (aq)))))))))) (am (bB (dO))) (aC))))) PassesOwn.never) (am (bB (eO (gZ T) hr.le T.f_3 (ac (aB) (ac (iK) (aq)))))))
omit T
def fZ (P : Program) (w : World) (K : W.Frag) (mg : Str → Option Value) (fa : Addr) : Prop := ∃ (fd : FuncData) (tabs : List (Addr × Addr)) (sp : Sp), (∀ (s : Shared) (v : Value), BindsTo s fd ⟨[v], []⟩ [("_law_script", v)]) ∧ W.noTabs K = true ∧ (∀ t ∈ tabs, ∃ y ∈ ([] : List Str), W.tabIn K y = some t) ∧ (∀ base : Heap, K.In base → base.Ns mainGlobals mg → BM mg base → (∀ t ∈ tabs, W.CodeHd base t.1 t.2) → bh P w K mg base (CX1 P w) 6 fa fd ["_law_script"] sp) ∧ ∀ (H : Hp) (a : Addr) (ns : List Int), ns.length ≤ 63 → (∀ t ∈ tabs, H t.2 = some (.tbl #[])) → SqL K H a (ns.map V.int) → sp [.ref a] H (fun v _ => v = .bl true) fun _ _ _ => False
theorem kh (T : Txt K mg A) (nt : W.noTabs K = true)  (tdn : ([] : List Addr).Nodup) : fZ P w K mg A.a_11 := by
 refine ⟨A.d_11, [], eC K A, T.f_11.f.bt, nt, ?_, fun base _ _ B C => ?_, fun H a ns hl hO hS => ⟨a, ns, rfl, hS, hl, tdn, fun _ => rfl⟩⟩
 · intro t ht
   cases ht
 · exact lF ⟨T, B⟩
theorem kC {h : Heap} {fa : Addr} (X : K.In h) (G : h.Ns mainGlobals mg) (hfa : mg "law" = some (.ref fa)) {x_4 x_9 x_1 x_0 x_2 x_10 x_7 x_5 x_6 x_8 x_3 x_11 y_NoStamp y_NoPlace y_NoPaper y_NoStretch y_Missing y_NoValue y_NoKey y_NoBits y_NoTerm y_NoRow y_NoName y_NoWay y_Silent y_Elder y_Unsealed y_NoHead y_NoPart y_Broken y_Parted y_StampError : Addr} {d0 d1 d2 d3 d4 d5 d6 d7 d8 d9 d10 d11 : FuncData}
  (bc_NoStamp : W.nsIn K mainGlobals "NoStamp" = some (some (.ref y_NoStamp))) (bc_NoPlace : W.nsIn K mainGlobals "NoPlace" = some (some (.ref y_NoPlace))) (bc_NoPaper : W.nsIn K mainGlobals "NoPaper" = some (some (.ref y_NoPaper))) (bc_NoStretch : W.nsIn K mainGlobals "NoStretch" = some (some (.ref y_NoStretch))) (bc_Missing : W.nsIn K mainGlobals "Missing" = some (some (.ref y_Missing))) (bc_NoValue : W.nsIn K mainGlobals "NoValue" = some (some (.ref y_NoValue))) (bc_NoKey : W.nsIn K mainGlobals "NoKey" = some (some (.ref y_NoKey))) (bc_NoBits : W.nsIn K mainGlobals "NoBits" = some (some (.ref y_NoBits))) (bc_NoTerm : W.nsIn K mainGlobals "NoTerm" = some (some (.ref y_NoTerm))) (bc_NoRow : W.nsIn K mainGlobals "NoRow" = some (some (.ref y_NoRow))) (bc_NoName : W.nsIn K mainGlobals "NoName" = some (some (.ref y_NoName))) (bc_NoWay : W.nsIn K mainGlobals "NoWay" = some (some (.ref y_NoWay))) (bc_Silent : W.nsIn K mainGlobals "Silent" = some (some (.ref y_Silent))) (bc_Elder : W.nsIn K mainGlobals "Elder" = some (some (.ref y_Elder))) (bc_Unsealed : W.nsIn K mainGlobals "Unsealed" = some (some (.ref y_Unsealed))) (bc_NoHead : W.nsIn K mainGlobals "NoHead" = some (some (.ref y_NoHead))) (bc_NoPart : W.nsIn K mainGlobals "NoPart" = some (some (.ref y_NoPart))) (bc_Broken : W.nsIn K mainGlobals "Broken" = some (some (.ref y_Broken))) (bc_Parted : W.nsIn K mainGlobals "Parted" = some (some (.ref y_Parted))) (bc_StampError : W.nsIn K mainGlobals "StampError" = some (some (.ref y_StampError))) (h0 : Fa K "_law_first" "_law_first" s_4 x_4 d0) (h1 : Fa K "_law_second" "_law_second" s_9 x_9 d1) (a2 : W.findIn K (.ref y_NoPart) "__init__" = some (some (.ref x_1))) (h2 : Fun K "__init__" "NoPart.__init__" s_1 x_1 d2) (fn2 : W.isFn K (.ref x_1) = true) (a3 : W.findIn K (.ref y_Broken) "__init__" = some (some (.ref x_0))) (h3 : Fun K "__init__" "Broken.__init__" s_0 x_0 d3) (fn3 : W.isFn K (.ref x_0) = true) (a4 : W.findIn K (.ref y_Parted) "__init__" = some (some (.ref x_2))) (h4 : Fun K "__init__" "Parted.__init__" s_2 x_2 d4) (fn4 : W.isFn K (.ref x_2) = true) (h5 : Fa K "_law_third" "_law_third" dQ x_10 d5) (h6 : Fa K "_law_raised" "_law_raised" s_7 x_7 d6) (h7 : Fa K "_law_of_first" "_law_of_first" s_5 x_5 d7) (h8 : Fa K "_law_of_second" "_law_of_second" s_6 x_6 d8) (h9 : Fa K "_law_right" "_law_right" s_8 x_8 d9) (h10 : Fa K "_law_fields" "_law_fields" s_3 x_3 d10) (h11 : Fa K "law" "law" hU x_11 d11) (eo_NoStamp : W.excIn K y_NoStamp veM "ValueError.__new__" = true) (eo_NoPlace : W.excIn K y_NoPlace veM "ValueError.__new__" = true) (eo_NoPaper : W.excIn K y_NoPaper veM "ValueError.__new__" = true) (eo_NoStretch : W.excIn K y_NoStretch veM "ValueError.__new__" = true) (eo_Missing : W.excIn K y_Missing veM "ValueError.__new__" = true) (eo_NoValue : W.excIn K y_NoValue veM "ValueError.__new__" = true) (eo_NoKey : W.excIn K y_NoKey veM "ValueError.__new__" = true) (eo_NoBits : W.excIn K y_NoBits veM "ValueError.__new__" = true) (eo_NoTerm : W.excIn K y_NoTerm veM "ValueError.__new__" = true) (eo_NoRow : W.excIn K y_NoRow veM "ValueError.__new__" = true) (eo_NoName : W.excIn K y_NoName veM "ValueError.__new__" = true) (eo_NoWay : W.excIn K y_NoWay veM "ValueError.__new__" = true) (eo_Silent : W.excIn K y_Silent veM "ValueError.__new__" = true) (eo_Elder : W.excIn K y_Elder veM "ValueError.__new__" = true) (eo_Unsealed : W.excIn K y_Unsealed veM "ValueError.__new__" = true) (eo_NoHead : W.excIn K y_NoHead veM "ValueError.__new__" = true) (eo2_NoPart : bZ K y_NoPart = true) (eo2_Broken : bZ K y_Broken = true) (eo2_Parted : bZ K y_Parted = true) (eo_StampError : W.excIn K y_StampError veM "ValueError.__new__" = true) (sa_NoPart : W.findIn K (.ref y_NoPart) "__setattr__" = some (some (.builtin "object.__setattr__"))) (hd_NoPart : W.hasDictIn K y_NoPart = true) (sa_Broken : W.findIn K (.ref y_Broken) "__setattr__" = some (some (.builtin "object.__setattr__"))) (hd_Broken : W.hasDictIn K y_Broken = true) (sa_Parted : W.findIn K (.ref y_Parted) "__setattr__" = some (some (.builtin "object.__setattr__"))) (hd_Parted : W.hasDictIn K y_Parted = true) (na_NoPart_begin : W.findIn K (.ref y_NoPart) "begin" = some none) (na_NoPart_depth : W.findIn K (.ref y_NoPart) "depth" = some none) (na_Broken_came : W.findIn K (.ref y_Broken) "came" = some none) (na_Broken_due : W.findIn K (.ref y_Broken) "due" = some none) (na_Parted_came : W.findIn K (.ref y_Parted) "came" = some none) (na_Parted_due : W.findIn K (.ref y_Parted) "due" = some none) (kc_Parted : W.keepIn K (.ref y_Parted) = true) (kc_Broken : W.keepIn K (.ref y_Broken) = true) (kc_NoPart : W.keepIn K (.ref y_NoPart) = true) (e0_NoStamp : W.findIn K (.ref y_NoStamp) "__getattribute__" = some (some (.builtin "BaseException.__getattribute__"))) (e1_NoStamp : W.findIn K (.ref y_NoStamp) "__getattr__" = some none) (e2_NoStamp : W.findIn K (.ref y_NoStamp) "__class__" = some (some (.builtin "object.__class__"))) (em0_NoStamp : W.mroIn K y_NoStamp (.type "object") = some true) (em1_NoStamp : W.mroIn K y_NoStamp (.type "BaseException") = some true) (e0_NoPlace : W.findIn K (.ref y_NoPlace) "__getattribute__" = some (some (.builtin "BaseException.__getattribute__"))) (e1_NoPlace : W.findIn K (.ref y_NoPlace) "__getattr__" = some none) (e2_NoPlace : W.findIn K (.ref y_NoPlace) "__class__" = some (some (.builtin "object.__class__"))) (em0_NoPlace : W.mroIn K y_NoPlace (.type "object") = some true) (em1_NoPlace : W.mroIn K y_NoPlace (.type "BaseException") = some true) (e0_NoPaper : W.findIn K (.ref y_NoPaper) "__getattribute__" = some (some (.builtin "BaseException.__getattribute__"))) (e1_NoPaper : W.findIn K (.ref y_NoPaper) "__getattr__" = some none) (e2_NoPaper : W.findIn K (.ref y_NoPaper) "__class__" = some (some (.builtin "object.__class__"))) (em0_NoPaper : W.mroIn K y_NoPaper (.type "object") = some true) (em1_NoPaper : W.mroIn K y_NoPaper (.type "BaseException") = some true) (e0_NoStretch : W.findIn K (.ref y_NoStretch) "__getattribute__" = some (some (.builtin "BaseException.__getattribute__"))) (e1_NoStretch : W.findIn K (.ref y_NoStretch) "__getattr__" = some none) (e2_NoStretch : W.findIn K (.ref y_NoStretch) "__class__" = some (some (.builtin "object.__class__"))) (em0_NoStretch : W.mroIn K y_NoStretch (.type "object") = some true) (em1_NoStretch : W.mroIn K y_NoStretch (.type "BaseException") = some true) (e0_Missing : W.findIn K (.ref y_Missing) "__getattribute__" = some (some (.builtin "BaseException.__getattribute__"))) (e1_Missing : W.findIn K (.ref y_Missing) "__getattr__" = some none) (e2_Missing : W.findIn K (.ref y_Missing) "__class__" = some (some (.builtin "object.__class__"))) (em0_Missing : W.mroIn K y_Missing (.type "object") = some true) (em1_Missing : W.mroIn K y_Missing (.type "BaseException") = some true) (e0_NoValue : W.findIn K (.ref y_NoValue) "__getattribute__" = some (some (.builtin "BaseException.__getattribute__"))) (e1_NoValue : W.findIn K (.ref y_NoValue) "__getattr__" = some none) (e2_NoValue : W.findIn K (.ref y_NoValue) "__class__" = some (some (.builtin "object.__class__"))) (em0_NoValue : W.mroIn K y_NoValue (.type "object") = some true) (em1_NoValue : W.mroIn K y_NoValue (.type "BaseException") = some true) (e0_NoKey : W.findIn K (.ref y_NoKey) "__getattribute__" = some (some (.builtin "BaseException.__getattribute__"))) (e1_NoKey : W.findIn K (.ref y_NoKey) "__getattr__" = some none) (e2_NoKey : W.findIn K (.ref y_NoKey) "__class__" = some (some (.builtin "object.__class__"))) (em0_NoKey : W.mroIn K y_NoKey (.type "object") = some true) (em1_NoKey : W.mroIn K y_NoKey (.type "BaseException") = some true) (e0_NoBits : W.findIn K (.ref y_NoBits) "__getattribute__" = some (some (.builtin "BaseException.__getattribute__"))) (e1_NoBits : W.findIn K (.ref y_NoBits) "__getattr__" = some none) (e2_NoBits : W.findIn K (.ref y_NoBits) "__class__" = some (some (.builtin "object.__class__"))) (em0_NoBits : W.mroIn K y_NoBits (.type "object") = some true) (em1_NoBits : W.mroIn K y_NoBits (.type "BaseException") = some true) (e0_NoTerm : W.findIn K (.ref y_NoTerm) "__getattribute__" = some (some (.builtin "BaseException.__getattribute__"))) (e1_NoTerm : W.findIn K (.ref y_NoTerm) "__getattr__" = some none) (e2_NoTerm : W.findIn K (.ref y_NoTerm) "__class__" = some (some (.builtin "object.__class__"))) (em0_NoTerm : W.mroIn K y_NoTerm (.type "object") = some true) (em1_NoTerm : W.mroIn K y_NoTerm (.type "BaseException") = some true) (e0_NoRow : W.findIn K (.ref y_NoRow) "__getattribute__" = some (some (.builtin "BaseException.__getattribute__"))) (e1_NoRow : W.findIn K (.ref y_NoRow) "__getattr__" = some none) (e2_NoRow : W.findIn K (.ref y_NoRow) "__class__" = some (some (.builtin "object.__class__"))) (em0_NoRow : W.mroIn K y_NoRow (.type "object") = some true) (em1_NoRow : W.mroIn K y_NoRow (.type "BaseException") = some true) (e0_NoName : W.findIn K (.ref y_NoName) "__getattribute__" = some (some (.builtin "BaseException.__getattribute__"))) (e1_NoName : W.findIn K (.ref y_NoName) "__getattr__" = some none) (e2_NoName : W.findIn K (.ref y_NoName) "__class__" = some (some (.builtin "object.__class__"))) (em0_NoName : W.mroIn K y_NoName (.type "object") = some true) (em1_NoName : W.mroIn K y_NoName (.type "BaseException") = some true) (e0_NoWay : W.findIn K (.ref y_NoWay) "__getattribute__" = some (some (.builtin "BaseException.__getattribute__"))) (e1_NoWay : W.findIn K (.ref y_NoWay) "__getattr__" = some none) (e2_NoWay : W.findIn K (.ref y_NoWay) "__class__" = some (some (.builtin "object.__class__"))) (em0_NoWay : W.mroIn K y_NoWay (.type "object") = some true) (em1_NoWay : W.mroIn K y_NoWay (.type "BaseException") = some true) (e0_Silent : W.findIn K (.ref y_Silent) "__getattribute__" = some (some (.builtin "BaseException.__getattribute__"))) (e1_Silent : W.findIn K (.ref y_Silent) "__getattr__" = some none) (e2_Silent : W.findIn K (.ref y_Silent) "__class__" = some (some (.builtin "object.__class__"))) (em0_Silent : W.mroIn K y_Silent (.type "object") = some true) (em1_Silent : W.mroIn K y_Silent (.type "BaseException") = some true) (e0_Elder : W.findIn K (.ref y_Elder) "__getattribute__" = some (some (.builtin "BaseException.__getattribute__"))) (e1_Elder : W.findIn K (.ref y_Elder) "__getattr__" = some none) (e2_Elder : W.findIn K (.ref y_Elder) "__class__" = some (some (.builtin "object.__class__"))) (em0_Elder : W.mroIn K y_Elder (.type "object") = some true) (em1_Elder : W.mroIn K y_Elder (.type "BaseException") = some true) (e0_Unsealed : W.findIn K (.ref y_Unsealed) "__getattribute__" = some (some (.builtin "BaseException.__getattribute__"))) (e1_Unsealed : W.findIn K (.ref y_Unsealed) "__getattr__" = some none) (e2_Unsealed : W.findIn K (.ref y_Unsealed) "__class__" = some (some (.builtin "object.__class__"))) (em0_Unsealed : W.mroIn K y_Unsealed (.type "object") = some true) (em1_Unsealed : W.mroIn K y_Unsealed (.type "BaseException") = some true) (e0_NoHead : W.findIn K (.ref y_NoHead) "__getattribute__" = some (some (.builtin "BaseException.__getattribute__"))) (e1_NoHead : W.findIn K (.ref y_NoHead) "__getattr__" = some none) (e2_NoHead : W.findIn K (.ref y_NoHead) "__class__" = some (some (.builtin "object.__class__"))) (em0_NoHead : W.mroIn K y_NoHead (.type "object") = some true) (em1_NoHead : W.mroIn K y_NoHead (.type "BaseException") = some true) (e0_NoPart : W.findIn K (.ref y_NoPart) "__getattribute__" = some (some (.builtin "BaseException.__getattribute__"))) (e1_NoPart : W.findIn K (.ref y_NoPart) "__getattr__" = some none) (e2_NoPart : W.findIn K (.ref y_NoPart) "__class__" = some (some (.builtin "object.__class__"))) (em0_NoPart : W.mroIn K y_NoPart (.type "object") = some true) (em1_NoPart : W.mroIn K y_NoPart (.type "BaseException") = some true) (e0_Broken : W.findIn K (.ref y_Broken) "__getattribute__" = some (some (.builtin "BaseException.__getattribute__"))) (e1_Broken : W.findIn K (.ref y_Broken) "__getattr__" = some none) (e2_Broken : W.findIn K (.ref y_Broken) "__class__" = some (some (.builtin "object.__class__"))) (em0_Broken : W.mroIn K y_Broken (.type "object") = some true) (em1_Broken : W.mroIn K y_Broken (.type "BaseException") = some true) (e0_Parted : W.findIn K (.ref y_Parted) "__getattribute__" = some (some (.builtin "BaseException.__getattribute__"))) (e1_Parted : W.findIn K (.ref y_Parted) "__getattr__" = some none) (e2_Parted : W.findIn K (.ref y_Parted) "__class__" = some (some (.builtin "object.__class__"))) (em0_Parted : W.mroIn K y_Parted (.type "object") = some true) (em1_Parted : W.mroIn K y_Parted (.type "BaseException") = some true) (sb_NoStamp_StampError : W.mroIn K y_NoStamp (.ref y_StampError) = some true) (sb_NoStamp_Parted : W.mroIn K y_NoStamp (.ref y_Parted) = some false) (sb_NoStamp_Broken : W.mroIn K y_NoStamp (.ref y_Broken) = some false) (sb_NoStamp_NoPart : W.mroIn K y_NoStamp (.ref y_NoPart) = some false) (sb_NoPlace_StampError : W.mroIn K y_NoPlace (.ref y_StampError) = some true) (sb_NoPlace_Parted : W.mroIn K y_NoPlace (.ref y_Parted) = some false) (sb_NoPlace_Broken : W.mroIn K y_NoPlace (.ref y_Broken) = some false) (sb_NoPlace_NoPart : W.mroIn K y_NoPlace (.ref y_NoPart) = some false) (sb_NoPaper_StampError : W.mroIn K y_NoPaper (.ref y_StampError) = some true) (sb_NoPaper_Parted : W.mroIn K y_NoPaper (.ref y_Parted) = some false) (sb_NoPaper_Broken : W.mroIn K y_NoPaper (.ref y_Broken) = some false) (sb_NoPaper_NoPart : W.mroIn K y_NoPaper (.ref y_NoPart) = some false) (sb_NoStretch_StampError : W.mroIn K y_NoStretch (.ref y_StampError) = some true) (sb_NoStretch_Parted : W.mroIn K y_NoStretch (.ref y_Parted) = some false) (sb_NoStretch_Broken : W.mroIn K y_NoStretch (.ref y_Broken) = some false) (sb_NoStretch_NoPart : W.mroIn K y_NoStretch (.ref y_NoPart) = some false) (sb_Missing_StampError : W.mroIn K y_Missing (.ref y_StampError) = some true) (sb_Missing_Parted : W.mroIn K y_Missing (.ref y_Parted) = some false) (sb_Missing_Broken : W.mroIn K y_Missing (.ref y_Broken) = some false) (sb_Missing_NoPart : W.mroIn K y_Missing (.ref y_NoPart) = some false) (sb_NoValue_StampError : W.mroIn K y_NoValue (.ref y_StampError) = some true) (sb_NoValue_Parted : W.mroIn K y_NoValue (.ref y_Parted) = some false) (sb_NoValue_Broken : W.mroIn K y_NoValue (.ref y_Broken) = some false) (sb_NoValue_NoPart : W.mroIn K y_NoValue (.ref y_NoPart) = some false) (sb_NoKey_StampError : W.mroIn K y_NoKey (.ref y_StampError) = some true) (sb_NoKey_Parted : W.mroIn K y_NoKey (.ref y_Parted) = some false) (sb_NoKey_Broken : W.mroIn K y_NoKey (.ref y_Broken) = some false) (sb_NoKey_NoPart : W.mroIn K y_NoKey (.ref y_NoPart) = some false) (sb_NoBits_StampError : W.mroIn K y_NoBits (.ref y_StampError) = some true) (sb_NoBits_Parted : W.mroIn K y_NoBits (.ref y_Parted) = some false) (sb_NoBits_Broken : W.mroIn K y_NoBits (.ref y_Broken) = some false) (sb_NoBits_NoPart : W.mroIn K y_NoBits (.ref y_NoPart) = some false) (sb_NoTerm_StampError : W.mroIn K y_NoTerm (.ref y_StampError) = some true) (sb_NoTerm_Parted : W.mroIn K y_NoTerm (.ref y_Parted) = some false) (sb_NoTerm_Broken : W.mroIn K y_NoTerm (.ref y_Broken) = some false) (sb_NoTerm_NoPart : W.mroIn K y_NoTerm (.ref y_NoPart) = some false) (sb_NoRow_StampError : W.mroIn K y_NoRow (.ref y_StampError) = some true) (sb_NoRow_Parted : W.mroIn K y_NoRow (.ref y_Parted) = some false) (sb_NoRow_Broken : W.mroIn K y_NoRow (.ref y_Broken) = some false) (sb_NoRow_NoPart : W.mroIn K y_NoRow (.ref y_NoPart) = some false) (sb_NoName_StampError : W.mroIn K y_NoName (.ref y_StampError) = some true) (sb_NoName_Parted : W.mroIn K y_NoName (.ref y_Parted) = some false) (sb_NoName_Broken : W.mroIn K y_NoName (.ref y_Broken) = some false) (sb_NoName_NoPart : W.mroIn K y_NoName (.ref y_NoPart) = some false) (sb_NoWay_StampError : W.mroIn K y_NoWay (.ref y_StampError) = some true) (sb_NoWay_Parted : W.mroIn K y_NoWay (.ref y_Parted) = some false) (sb_NoWay_Broken : W.mroIn K y_NoWay (.ref y_Broken) = some false) (sb_NoWay_NoPart : W.mroIn K y_NoWay (.ref y_NoPart) = some false) (sb_Silent_StampError : W.mroIn K y_Silent (.ref y_StampError) = some true) (sb_Silent_Parted : W.mroIn K y_Silent (.ref y_Parted) = some false) (sb_Silent_Broken : W.mroIn K y_Silent (.ref y_Broken) = some false) (sb_Silent_NoPart : W.mroIn K y_Silent (.ref y_NoPart) = some false) (sb_Elder_StampError : W.mroIn K y_Elder (.ref y_StampError) = some true) (sb_Elder_Parted : W.mroIn K y_Elder (.ref y_Parted) = some false) (sb_Elder_Broken : W.mroIn K y_Elder (.ref y_Broken) = some false) (sb_Elder_NoPart : W.mroIn K y_Elder (.ref y_NoPart) = some false) (sb_Unsealed_StampError : W.mroIn K y_Unsealed (.ref y_StampError) = some true) (sb_Unsealed_Parted : W.mroIn K y_Unsealed (.ref y_Parted) = some false) (sb_Unsealed_Broken : W.mroIn K y_Unsealed (.ref y_Broken) = some false) (sb_Unsealed_NoPart : W.mroIn K y_Unsealed (.ref y_NoPart) = some false) (sb_NoHead_StampError : W.mroIn K y_NoHead (.ref y_StampError) = some true) (sb_NoHead_Parted : W.mroIn K y_NoHead (.ref y_Parted) = some false) (sb_NoHead_Broken : W.mroIn K y_NoHead (.ref y_Broken) = some false) (sb_NoHead_NoPart : W.mroIn K y_NoHead (.ref y_NoPart) = some false) (sb_NoPart_StampError : W.mroIn K y_NoPart (.ref y_StampError) = some true) (sb_NoPart_Parted : W.mroIn K y_NoPart (.ref y_Parted) = some false) (sb_NoPart_Broken : W.mroIn K y_NoPart (.ref y_Broken) = some false) (sb_NoPart_NoPart : W.mroIn K y_NoPart (.ref y_NoPart) = some true) (sb_Broken_StampError : W.mroIn K y_Broken (.ref y_StampError) = some true) (sb_Broken_Parted : W.mroIn K y_Broken (.ref y_Parted) = some false) (sb_Broken_Broken : W.mroIn K y_Broken (.ref y_Broken) = some true) (sb_Broken_NoPart : W.mroIn K y_Broken (.ref y_NoPart) = some false) (sb_Parted_StampError : W.mroIn K y_Parted (.ref y_StampError) = some true) (sb_Parted_Parted : W.mroIn K y_Parted (.ref y_Parted) = some true) (sb_Parted_Broken : W.mroIn K y_Parted (.ref y_Broken) = some false) (sb_Parted_NoPart : W.mroIn K y_Parted (.ref y_NoPart) = some false) (ki_NoStamp_NoStamp : W.kitOne K (.ref y_NoStamp) (.ref y_NoStamp) = some true) (ki_NoStamp_NoPlace : W.kitOne K (.ref y_NoStamp) (.ref y_NoPlace) = some false) (ki_NoStamp_NoPaper : W.kitOne K (.ref y_NoStamp) (.ref y_NoPaper) = some false) (ki_NoStamp_NoStretch : W.kitOne K (.ref y_NoStamp) (.ref y_NoStretch) = some false) (ki_NoStamp_Missing : W.kitOne K (.ref y_NoStamp) (.ref y_Missing) = some false) (ki_NoStamp_NoValue : W.kitOne K (.ref y_NoStamp) (.ref y_NoValue) = some false) (ki_NoStamp_NoKey : W.kitOne K (.ref y_NoStamp) (.ref y_NoKey) = some false) (ki_NoStamp_NoBits : W.kitOne K (.ref y_NoStamp) (.ref y_NoBits) = some false) (ki_NoStamp_NoTerm : W.kitOne K (.ref y_NoStamp) (.ref y_NoTerm) = some false) (ki_NoStamp_Parted : W.kitOne K (.ref y_NoStamp) (.ref y_Parted) = some false) (ki_NoStamp_Broken : W.kitOne K (.ref y_NoStamp) (.ref y_Broken) = some false) (ki_NoStamp_NoPart : W.kitOne K (.ref y_NoStamp) (.ref y_NoPart) = some false) (ki_NoStamp_NoRow : W.kitOne K (.ref y_NoStamp) (.ref y_NoRow) = some false) (ki_NoStamp_NoName : W.kitOne K (.ref y_NoStamp) (.ref y_NoName) = some false) (ki_NoStamp_NoWay : W.kitOne K (.ref y_NoStamp) (.ref y_NoWay) = some false) (ki_NoStamp_Silent : W.kitOne K (.ref y_NoStamp) (.ref y_Silent) = some false) (ki_NoStamp_Elder : W.kitOne K (.ref y_NoStamp) (.ref y_Elder) = some false) (ki_NoStamp_Unsealed : W.kitOne K (.ref y_NoStamp) (.ref y_Unsealed) = some false) (ki_NoStamp_NoHead : W.kitOne K (.ref y_NoStamp) (.ref y_NoHead) = some false) (ki_NoStamp_ValueError : W.kitOne K (.ref y_NoStamp) (.type "ValueError") = some true) (ki_NoPlace_NoStamp : W.kitOne K (.ref y_NoPlace) (.ref y_NoStamp) = some false) (ki_NoPlace_NoPlace : W.kitOne K (.ref y_NoPlace) (.ref y_NoPlace) = some true) (ki_NoPlace_NoPaper : W.kitOne K (.ref y_NoPlace) (.ref y_NoPaper) = some false) (ki_NoPlace_NoStretch : W.kitOne K (.ref y_NoPlace) (.ref y_NoStretch) = some false) (ki_NoPlace_Missing : W.kitOne K (.ref y_NoPlace) (.ref y_Missing) = some false) (ki_NoPlace_NoValue : W.kitOne K (.ref y_NoPlace) (.ref y_NoValue) = some false) (ki_NoPlace_NoKey : W.kitOne K (.ref y_NoPlace) (.ref y_NoKey) = some false) (ki_NoPlace_NoBits : W.kitOne K (.ref y_NoPlace) (.ref y_NoBits) = some false) (ki_NoPlace_NoTerm : W.kitOne K (.ref y_NoPlace) (.ref y_NoTerm) = some false) (ki_NoPlace_Parted : W.kitOne K (.ref y_NoPlace) (.ref y_Parted) = some false) (ki_NoPlace_Broken : W.kitOne K (.ref y_NoPlace) (.ref y_Broken) = some false) (ki_NoPlace_NoPart : W.kitOne K (.ref y_NoPlace) (.ref y_NoPart) = some false) (ki_NoPlace_NoRow : W.kitOne K (.ref y_NoPlace) (.ref y_NoRow) = some false) (ki_NoPlace_NoName : W.kitOne K (.ref y_NoPlace) (.ref y_NoName) = some false) (ki_NoPlace_NoWay : W.kitOne K (.ref y_NoPlace) (.ref y_NoWay) = some false) (ki_NoPlace_Silent : W.kitOne K (.ref y_NoPlace) (.ref y_Silent) = some false) (ki_NoPlace_Elder : W.kitOne K (.ref y_NoPlace) (.ref y_Elder) = some false) (ki_NoPlace_Unsealed : W.kitOne K (.ref y_NoPlace) (.ref y_Unsealed) = some false) (ki_NoPlace_NoHead : W.kitOne K (.ref y_NoPlace) (.ref y_NoHead) = some false) (ki_NoPlace_ValueError : W.kitOne K (.ref y_NoPlace) (.type "ValueError") = some true) (ki_NoPaper_NoStamp : W.kitOne K (.ref y_NoPaper) (.ref y_NoStamp) = some false) (ki_NoPaper_NoPlace : W.kitOne K (.ref y_NoPaper) (.ref y_NoPlace) = some false) (ki_NoPaper_NoPaper : W.kitOne K (.ref y_NoPaper) (.ref y_NoPaper) = some true) (ki_NoPaper_NoStretch : W.kitOne K (.ref y_NoPaper) (.ref y_NoStretch) = some false) (ki_NoPaper_Missing : W.kitOne K (.ref y_NoPaper) (.ref y_Missing) = some false) (ki_NoPaper_NoValue : W.kitOne K (.ref y_NoPaper) (.ref y_NoValue) = some false) (ki_NoPaper_NoKey : W.kitOne K (.ref y_NoPaper) (.ref y_NoKey) = some false) (ki_NoPaper_NoBits : W.kitOne K (.ref y_NoPaper) (.ref y_NoBits) = some false) (ki_NoPaper_NoTerm : W.kitOne K (.ref y_NoPaper) (.ref y_NoTerm) = some false) (ki_NoPaper_Parted : W.kitOne K (.ref y_NoPaper) (.ref y_Parted) = some false) (ki_NoPaper_Broken : W.kitOne K (.ref y_NoPaper) (.ref y_Broken) = some false) (ki_NoPaper_NoPart : W.kitOne K (.ref y_NoPaper) (.ref y_NoPart) = some false) (ki_NoPaper_NoRow : W.kitOne K (.ref y_NoPaper) (.ref y_NoRow) = some false) (ki_NoPaper_NoName : W.kitOne K (.ref y_NoPaper) (.ref y_NoName) = some false) (ki_NoPaper_NoWay : W.kitOne K (.ref y_NoPaper) (.ref y_NoWay) = some false) (ki_NoPaper_Silent : W.kitOne K (.ref y_NoPaper) (.ref y_Silent) = some false) (ki_NoPaper_Elder : W.kitOne K (.ref y_NoPaper) (.ref y_Elder) = some false) (ki_NoPaper_Unsealed : W.kitOne K (.ref y_NoPaper) (.ref y_Unsealed) = some false) (ki_NoPaper_NoHead : W.kitOne K (.ref y_NoPaper) (.ref y_NoHead) = some false) (ki_NoPaper_ValueError : W.kitOne K (.ref y_NoPaper) (.type "ValueError") = some true) (ki_NoStretch_NoStamp : W.kitOne K (.ref y_NoStretch) (.ref y_NoStamp) = some false) (ki_NoStretch_NoPlace : W.kitOne K (.ref y_NoStretch) (.ref y_NoPlace) = some false) (ki_NoStretch_NoPaper : W.kitOne K (.ref y_NoStretch) (.ref y_NoPaper) = some false) (ki_NoStretch_NoStretch : W.kitOne K (.ref y_NoStretch) (.ref y_NoStretch) = some true) (ki_NoStretch_Missing : W.kitOne K (.ref y_NoStretch) (.ref y_Missing) = some false) (ki_NoStretch_NoValue : W.kitOne K (.ref y_NoStretch) (.ref y_NoValue) = some false) (ki_NoStretch_NoKey : W.kitOne K (.ref y_NoStretch) (.ref y_NoKey) = some false) (ki_NoStretch_NoBits : W.kitOne K (.ref y_NoStretch) (.ref y_NoBits) = some false) (ki_NoStretch_NoTerm : W.kitOne K (.ref y_NoStretch) (.ref y_NoTerm) = some false) (ki_NoStretch_Parted : W.kitOne K (.ref y_NoStretch) (.ref y_Parted) = some false) (ki_NoStretch_Broken : W.kitOne K (.ref y_NoStretch) (.ref y_Broken) = some false) (ki_NoStretch_NoPart : W.kitOne K (.ref y_NoStretch) (.ref y_NoPart) = some false) (ki_NoStretch_NoRow : W.kitOne K (.ref y_NoStretch) (.ref y_NoRow) = some false) (ki_NoStretch_NoName : W.kitOne K (.ref y_NoStretch) (.ref y_NoName) = some false) (ki_NoStretch_NoWay : W.kitOne K (.ref y_NoStretch) (.ref y_NoWay) = some false) (ki_NoStretch_Silent : W.kitOne K (.ref y_NoStretch) (.ref y_Silent) = some false) (ki_NoStretch_Elder : W.kitOne K (.ref y_NoStretch) (.ref y_Elder) = some false) (ki_NoStretch_Unsealed : W.kitOne K (.ref y_NoStretch) (.ref y_Unsealed) = some false) (ki_NoStretch_NoHead : W.kitOne K (.ref y_NoStretch) (.ref y_NoHead) = some false) (ki_NoStretch_ValueError : W.kitOne K (.ref y_NoStretch) (.type "ValueError") = some true) (ki_Missing_NoStamp : W.kitOne K (.ref y_Missing) (.ref y_NoStamp) = some false) (ki_Missing_NoPlace : W.kitOne K (.ref y_Missing) (.ref y_NoPlace) = some false) (ki_Missing_NoPaper : W.kitOne K (.ref y_Missing) (.ref y_NoPaper) = some false) (ki_Missing_NoStretch : W.kitOne K (.ref y_Missing) (.ref y_NoStretch) = some false) (ki_Missing_Missing : W.kitOne K (.ref y_Missing) (.ref y_Missing) = some true) (ki_Missing_NoValue : W.kitOne K (.ref y_Missing) (.ref y_NoValue) = some false) (ki_Missing_NoKey : W.kitOne K (.ref y_Missing) (.ref y_NoKey) = some false) (ki_Missing_NoBits : W.kitOne K (.ref y_Missing) (.ref y_NoBits) = some false) (ki_Missing_NoTerm : W.kitOne K (.ref y_Missing) (.ref y_NoTerm) = some false) (ki_Missing_Parted : W.kitOne K (.ref y_Missing) (.ref y_Parted) = some false) (ki_Missing_Broken : W.kitOne K (.ref y_Missing) (.ref y_Broken) = some false) (ki_Missing_NoPart : W.kitOne K (.ref y_Missing) (.ref y_NoPart) = some false) (ki_Missing_NoRow : W.kitOne K (.ref y_Missing) (.ref y_NoRow) = some false) (ki_Missing_NoName : W.kitOne K (.ref y_Missing) (.ref y_NoName) = some false) (ki_Missing_NoWay : W.kitOne K (.ref y_Missing) (.ref y_NoWay) = some false) (ki_Missing_Silent : W.kitOne K (.ref y_Missing) (.ref y_Silent) = some false) (ki_Missing_Elder : W.kitOne K (.ref y_Missing) (.ref y_Elder) = some false) (ki_Missing_Unsealed : W.kitOne K (.ref y_Missing) (.ref y_Unsealed) = some false) (ki_Missing_NoHead : W.kitOne K (.ref y_Missing) (.ref y_NoHead) = some false) (ki_Missing_ValueError : W.kitOne K (.ref y_Missing) (.type "ValueError") = some true) (ki_NoValue_NoStamp : W.kitOne K (.ref y_NoValue) (.ref y_NoStamp) = some false) (ki_NoValue_NoPlace : W.kitOne K (.ref y_NoValue) (.ref y_NoPlace) = some false) (ki_NoValue_NoPaper : W.kitOne K (.ref y_NoValue) (.ref y_NoPaper) = some false) (ki_NoValue_NoStretch : W.kitOne K (.ref y_NoValue) (.ref y_NoStretch) = some false) (ki_NoValue_Missing : W.kitOne K (.ref y_NoValue) (.ref y_Missing) = some false) (ki_NoValue_NoValue : W.kitOne K (.ref y_NoValue) (.ref y_NoValue) = some true) (ki_NoValue_NoKey : W.kitOne K (.ref y_NoValue) (.ref y_NoKey) = some false) (ki_NoValue_NoBits : W.kitOne K (.ref y_NoValue) (.ref y_NoBits) = some false) (ki_NoValue_NoTerm : W.kitOne K (.ref y_NoValue) (.ref y_NoTerm) = some false) (ki_NoValue_Parted : W.kitOne K (.ref y_NoValue) (.ref y_Parted) = some false) (ki_NoValue_Broken : W.kitOne K (.ref y_NoValue) (.ref y_Broken) = some false) (ki_NoValue_NoPart : W.kitOne K (.ref y_NoValue) (.ref y_NoPart) = some false) (ki_NoValue_NoRow : W.kitOne K (.ref y_NoValue) (.ref y_NoRow) = some false) (ki_NoValue_NoName : W.kitOne K (.ref y_NoValue) (.ref y_NoName) = some false) (ki_NoValue_NoWay : W.kitOne K (.ref y_NoValue) (.ref y_NoWay) = some false) (ki_NoValue_Silent : W.kitOne K (.ref y_NoValue) (.ref y_Silent) = some false) (ki_NoValue_Elder : W.kitOne K (.ref y_NoValue) (.ref y_Elder) = some false) (ki_NoValue_Unsealed : W.kitOne K (.ref y_NoValue) (.ref y_Unsealed) = some false) (ki_NoValue_NoHead : W.kitOne K (.ref y_NoValue) (.ref y_NoHead) = some false) (ki_NoValue_ValueError : W.kitOne K (.ref y_NoValue) (.type "ValueError") = some true) (ki_NoKey_NoStamp : W.kitOne K (.ref y_NoKey) (.ref y_NoStamp) = some false) (ki_NoKey_NoPlace : W.kitOne K (.ref y_NoKey) (.ref y_NoPlace) = some false) (ki_NoKey_NoPaper : W.kitOne K (.ref y_NoKey) (.ref y_NoPaper) = some false) (ki_NoKey_NoStretch : W.kitOne K (.ref y_NoKey) (.ref y_NoStretch) = some false) (ki_NoKey_Missing : W.kitOne K (.ref y_NoKey) (.ref y_Missing) = some false) (ki_NoKey_NoValue : W.kitOne K (.ref y_NoKey) (.ref y_NoValue) = some false) (ki_NoKey_NoKey : W.kitOne K (.ref y_NoKey) (.ref y_NoKey) = some true) (ki_NoKey_NoBits : W.kitOne K (.ref y_NoKey) (.ref y_NoBits) = some false) (ki_NoKey_NoTerm : W.kitOne K (.ref y_NoKey) (.ref y_NoTerm) = some false) (ki_NoKey_Parted : W.kitOne K (.ref y_NoKey) (.ref y_Parted) = some false) (ki_NoKey_Broken : W.kitOne K (.ref y_NoKey) (.ref y_Broken) = some false) (ki_NoKey_NoPart : W.kitOne K (.ref y_NoKey) (.ref y_NoPart) = some false) (ki_NoKey_NoRow : W.kitOne K (.ref y_NoKey) (.ref y_NoRow) = some false) (ki_NoKey_NoName : W.kitOne K (.ref y_NoKey) (.ref y_NoName) = some false) (ki_NoKey_NoWay : W.kitOne K (.ref y_NoKey) (.ref y_NoWay) = some false) (ki_NoKey_Silent : W.kitOne K (.ref y_NoKey) (.ref y_Silent) = some false) (ki_NoKey_Elder : W.kitOne K (.ref y_NoKey) (.ref y_Elder) = some false) (ki_NoKey_Unsealed : W.kitOne K (.ref y_NoKey) (.ref y_Unsealed) = some false) (ki_NoKey_NoHead : W.kitOne K (.ref y_NoKey) (.ref y_NoHead) = some false) (ki_NoKey_ValueError : W.kitOne K (.ref y_NoKey) (.type "ValueError") = some true) (ki_NoBits_NoStamp : W.kitOne K (.ref y_NoBits) (.ref y_NoStamp) = some false) (ki_NoBits_NoPlace : W.kitOne K (.ref y_NoBits) (.ref y_NoPlace) = some false) (ki_NoBits_NoPaper : W.kitOne K (.ref y_NoBits) (.ref y_NoPaper) = some false) (ki_NoBits_NoStretch : W.kitOne K (.ref y_NoBits) (.ref y_NoStretch) = some false) (ki_NoBits_Missing : W.kitOne K (.ref y_NoBits) (.ref y_Missing) = some false) (ki_NoBits_NoValue : W.kitOne K (.ref y_NoBits) (.ref y_NoValue) = some false) (ki_NoBits_NoKey : W.kitOne K (.ref y_NoBits) (.ref y_NoKey) = some false) (ki_NoBits_NoBits : W.kitOne K (.ref y_NoBits) (.ref y_NoBits) = some true) (ki_NoBits_NoTerm : W.kitOne K (.ref y_NoBits) (.ref y_NoTerm) = some false) (ki_NoBits_Parted : W.kitOne K (.ref y_NoBits) (.ref y_Parted) = some false) (ki_NoBits_Broken : W.kitOne K (.ref y_NoBits) (.ref y_Broken) = some false) (ki_NoBits_NoPart : W.kitOne K (.ref y_NoBits) (.ref y_NoPart) = some false) (ki_NoBits_NoRow : W.kitOne K (.ref y_NoBits) (.ref y_NoRow) = some false) (ki_NoBits_NoName : W.kitOne K (.ref y_NoBits) (.ref y_NoName) = some false) (ki_NoBits_NoWay : W.kitOne K (.ref y_NoBits) (.ref y_NoWay) = some false) (ki_NoBits_Silent : W.kitOne K (.ref y_NoBits) (.ref y_Silent) = some false) (ki_NoBits_Elder : W.kitOne K (.ref y_NoBits) (.ref y_Elder) = some false) (ki_NoBits_Unsealed : W.kitOne K (.ref y_NoBits) (.ref y_Unsealed) = some false) (ki_NoBits_NoHead : W.kitOne K (.ref y_NoBits) (.ref y_NoHead) = some false) (ki_NoBits_ValueError : W.kitOne K (.ref y_NoBits) (.type "ValueError") = some true) (ki_NoTerm_NoStamp : W.kitOne K (.ref y_NoTerm) (.ref y_NoStamp) = some false) (ki_NoTerm_NoPlace : W.kitOne K (.ref y_NoTerm) (.ref y_NoPlace) = some false) (ki_NoTerm_NoPaper : W.kitOne K (.ref y_NoTerm) (.ref y_NoPaper) = some false) (ki_NoTerm_NoStretch : W.kitOne K (.ref y_NoTerm) (.ref y_NoStretch) = some false) (ki_NoTerm_Missing : W.kitOne K (.ref y_NoTerm) (.ref y_Missing) = some false) (ki_NoTerm_NoValue : W.kitOne K (.ref y_NoTerm) (.ref y_NoValue) = some false) (ki_NoTerm_NoKey : W.kitOne K (.ref y_NoTerm) (.ref y_NoKey) = some false) (ki_NoTerm_NoBits : W.kitOne K (.ref y_NoTerm) (.ref y_NoBits) = some false) (ki_NoTerm_NoTerm : W.kitOne K (.ref y_NoTerm) (.ref y_NoTerm) = some true) (ki_NoTerm_Parted : W.kitOne K (.ref y_NoTerm) (.ref y_Parted) = some false) (ki_NoTerm_Broken : W.kitOne K (.ref y_NoTerm) (.ref y_Broken) = some false) (ki_NoTerm_NoPart : W.kitOne K (.ref y_NoTerm) (.ref y_NoPart) = some false) (ki_NoTerm_NoRow : W.kitOne K (.ref y_NoTerm) (.ref y_NoRow) = some false) (ki_NoTerm_NoName : W.kitOne K (.ref y_NoTerm) (.ref y_NoName) = some false) (ki_NoTerm_NoWay : W.kitOne K (.ref y_NoTerm) (.ref y_NoWay) = some false) (ki_NoTerm_Silent : W.kitOne K (.ref y_NoTerm) (.ref y_Silent) = some false) (ki_NoTerm_Elder : W.kitOne K (.ref y_NoTerm) (.ref y_Elder) = some false) (ki_NoTerm_Unsealed : W.kitOne K (.ref y_NoTerm) (.ref y_Unsealed) = some false) (ki_NoTerm_NoHead : W.kitOne K (.ref y_NoTerm) (.ref y_NoHead) = some false) (ki_NoTerm_ValueError : W.kitOne K (.ref y_NoTerm) (.type "ValueError") = some true) (ki_NoRow_NoStamp : W.kitOne K (.ref y_NoRow) (.ref y_NoStamp) = some false) (ki_NoRow_NoPlace : W.kitOne K (.ref y_NoRow) (.ref y_NoPlace) = some false) (ki_NoRow_NoPaper : W.kitOne K (.ref y_NoRow) (.ref y_NoPaper) = some false) (ki_NoRow_NoStretch : W.kitOne K (.ref y_NoRow) (.ref y_NoStretch) = some false) (ki_NoRow_Missing : W.kitOne K (.ref y_NoRow) (.ref y_Missing) = some false) (ki_NoRow_NoValue : W.kitOne K (.ref y_NoRow) (.ref y_NoValue) = some false) (ki_NoRow_NoKey : W.kitOne K (.ref y_NoRow) (.ref y_NoKey) = some false) (ki_NoRow_NoBits : W.kitOne K (.ref y_NoRow) (.ref y_NoBits) = some false) (ki_NoRow_NoTerm : W.kitOne K (.ref y_NoRow) (.ref y_NoTerm) = some false) (ki_NoRow_Parted : W.kitOne K (.ref y_NoRow) (.ref y_Parted) = some false) (ki_NoRow_Broken : W.kitOne K (.ref y_NoRow) (.ref y_Broken) = some false) (ki_NoRow_NoPart : W.kitOne K (.ref y_NoRow) (.ref y_NoPart) = some false) (ki_NoRow_NoRow : W.kitOne K (.ref y_NoRow) (.ref y_NoRow) = some true) (ki_NoRow_NoName : W.kitOne K (.ref y_NoRow) (.ref y_NoName) = some false) (ki_NoRow_NoWay : W.kitOne K (.ref y_NoRow) (.ref y_NoWay) = some false) (ki_NoRow_Silent : W.kitOne K (.ref y_NoRow) (.ref y_Silent) = some false) (ki_NoRow_Elder : W.kitOne K (.ref y_NoRow) (.ref y_Elder) = some false) (ki_NoRow_Unsealed : W.kitOne K (.ref y_NoRow) (.ref y_Unsealed) = some false) (ki_NoRow_NoHead : W.kitOne K (.ref y_NoRow) (.ref y_NoHead) = some false) (ki_NoRow_ValueError : W.kitOne K (.ref y_NoRow) (.type "ValueError") = some true) (ki_NoName_NoStamp : W.kitOne K (.ref y_NoName) (.ref y_NoStamp) = some false) (ki_NoName_NoPlace : W.kitOne K (.ref y_NoName) (.ref y_NoPlace) = some false) (ki_NoName_NoPaper : W.kitOne K (.ref y_NoName) (.ref y_NoPaper) = some false) (ki_NoName_NoStretch : W.kitOne K (.ref y_NoName) (.ref y_NoStretch) = some false) (ki_NoName_Missing : W.kitOne K (.ref y_NoName) (.ref y_Missing) = some false) (ki_NoName_NoValue : W.kitOne K (.ref y_NoName) (.ref y_NoValue) = some false) (ki_NoName_NoKey : W.kitOne K (.ref y_NoName) (.ref y_NoKey) = some false) (ki_NoName_NoBits : W.kitOne K (.ref y_NoName) (.ref y_NoBits) = some false) (ki_NoName_NoTerm : W.kitOne K (.ref y_NoName) (.ref y_NoTerm) = some false) (ki_NoName_Parted : W.kitOne K (.ref y_NoName) (.ref y_Parted) = some false) (ki_NoName_Broken : W.kitOne K (.ref y_NoName) (.ref y_Broken) = some false) (ki_NoName_NoPart : W.kitOne K (.ref y_NoName) (.ref y_NoPart) = some false) (ki_NoName_NoRow : W.kitOne K (.ref y_NoName) (.ref y_NoRow) = some false) (ki_NoName_NoName : W.kitOne K (.ref y_NoName) (.ref y_NoName) = some true) (ki_NoName_NoWay : W.kitOne K (.ref y_NoName) (.ref y_NoWay) = some false) (ki_NoName_Silent : W.kitOne K (.ref y_NoName) (.ref y_Silent) = some false) (ki_NoName_Elder : W.kitOne K (.ref y_NoName) (.ref y_Elder) = some false) (ki_NoName_Unsealed : W.kitOne K (.ref y_NoName) (.ref y_Unsealed) = some false) (ki_NoName_NoHead : W.kitOne K (.ref y_NoName) (.ref y_NoHead) = some false) (ki_NoName_ValueError : W.kitOne K (.ref y_NoName) (.type "ValueError") = some true) (ki_NoWay_NoStamp : W.kitOne K (.ref y_NoWay) (.ref y_NoStamp) = some false) (ki_NoWay_NoPlace : W.kitOne K (.ref y_NoWay) (.ref y_NoPlace) = some false) (ki_NoWay_NoPaper : W.kitOne K (.ref y_NoWay) (.ref y_NoPaper) = some false) (ki_NoWay_NoStretch : W.kitOne K (.ref y_NoWay) (.ref y_NoStretch) = some false) (ki_NoWay_Missing : W.kitOne K (.ref y_NoWay) (.ref y_Missing) = some false) (ki_NoWay_NoValue : W.kitOne K (.ref y_NoWay) (.ref y_NoValue) = some false) (ki_NoWay_NoKey : W.kitOne K (.ref y_NoWay) (.ref y_NoKey) = some false) (ki_NoWay_NoBits : W.kitOne K (.ref y_NoWay) (.ref y_NoBits) = some false) (ki_NoWay_NoTerm : W.kitOne K (.ref y_NoWay) (.ref y_NoTerm) = some false) (ki_NoWay_Parted : W.kitOne K (.ref y_NoWay) (.ref y_Parted) = some false) (ki_NoWay_Broken : W.kitOne K (.ref y_NoWay) (.ref y_Broken) = some false) (ki_NoWay_NoPart : W.kitOne K (.ref y_NoWay) (.ref y_NoPart) = some false) (ki_NoWay_NoRow : W.kitOne K (.ref y_NoWay) (.ref y_NoRow) = some false) (ki_NoWay_NoName : W.kitOne K (.ref y_NoWay) (.ref y_NoName) = some false) (ki_NoWay_NoWay : W.kitOne K (.ref y_NoWay) (.ref y_NoWay) = some true) (ki_NoWay_Silent : W.kitOne K (.ref y_NoWay) (.ref y_Silent) = some false) (ki_NoWay_Elder : W.kitOne K (.ref y_NoWay) (.ref y_Elder) = some false) (ki_NoWay_Unsealed : W.kitOne K (.ref y_NoWay) (.ref y_Unsealed) = some false) (ki_NoWay_NoHead : W.kitOne K (.ref y_NoWay) (.ref y_NoHead) = some false) (ki_NoWay_ValueError : W.kitOne K (.ref y_NoWay) (.type "ValueError") = some true) (ki_Silent_NoStamp : W.kitOne K (.ref y_Silent) (.ref y_NoStamp) = some false) (ki_Silent_NoPlace : W.kitOne K (.ref y_Silent) (.ref y_NoPlace) = some false) (ki_Silent_NoPaper : W.kitOne K (.ref y_Silent) (.ref y_NoPaper) = some false) (ki_Silent_NoStretch : W.kitOne K (.ref y_Silent) (.ref y_NoStretch) = some false) (ki_Silent_Missing : W.kitOne K (.ref y_Silent) (.ref y_Missing) = some false) (ki_Silent_NoValue : W.kitOne K (.ref y_Silent) (.ref y_NoValue) = some false) (ki_Silent_NoKey : W.kitOne K (.ref y_Silent) (.ref y_NoKey) = some false) (ki_Silent_NoBits : W.kitOne K (.ref y_Silent) (.ref y_NoBits) = some false) (ki_Silent_NoTerm : W.kitOne K (.ref y_Silent) (.ref y_NoTerm) = some false) (ki_Silent_Parted : W.kitOne K (.ref y_Silent) (.ref y_Parted) = some false) (ki_Silent_Broken : W.kitOne K (.ref y_Silent) (.ref y_Broken) = some false) (ki_Silent_NoPart : W.kitOne K (.ref y_Silent) (.ref y_NoPart) = some false) (ki_Silent_NoRow : W.kitOne K (.ref y_Silent) (.ref y_NoRow) = some false) (ki_Silent_NoName : W.kitOne K (.ref y_Silent) (.ref y_NoName) = some false) (ki_Silent_NoWay : W.kitOne K (.ref y_Silent) (.ref y_NoWay) = some false) (ki_Silent_Silent : W.kitOne K (.ref y_Silent) (.ref y_Silent) = some true) (ki_Silent_Elder : W.kitOne K (.ref y_Silent) (.ref y_Elder) = some false) (ki_Silent_Unsealed : W.kitOne K (.ref y_Silent) (.ref y_Unsealed) = some false) (ki_Silent_NoHead : W.kitOne K (.ref y_Silent) (.ref y_NoHead) = some false) (ki_Silent_ValueError : W.kitOne K (.ref y_Silent) (.type "ValueError") = some true) (ki_Elder_NoStamp : W.kitOne K (.ref y_Elder) (.ref y_NoStamp) = some false) (ki_Elder_NoPlace : W.kitOne K (.ref y_Elder) (.ref y_NoPlace) = some false) (ki_Elder_NoPaper : W.kitOne K (.ref y_Elder) (.ref y_NoPaper) = some false) (ki_Elder_NoStretch : W.kitOne K (.ref y_Elder) (.ref y_NoStretch) = some false) (ki_Elder_Missing : W.kitOne K (.ref y_Elder) (.ref y_Missing) = some false) (ki_Elder_NoValue : W.kitOne K (.ref y_Elder) (.ref y_NoValue) = some false) (ki_Elder_NoKey : W.kitOne K (.ref y_Elder) (.ref y_NoKey) = some false) (ki_Elder_NoBits : W.kitOne K (.ref y_Elder) (.ref y_NoBits) = some false) (ki_Elder_NoTerm : W.kitOne K (.ref y_Elder) (.ref y_NoTerm) = some false) (ki_Elder_Parted : W.kitOne K (.ref y_Elder) (.ref y_Parted) = some false) (ki_Elder_Broken : W.kitOne K (.ref y_Elder) (.ref y_Broken) = some false) (ki_Elder_NoPart : W.kitOne K (.ref y_Elder) (.ref y_NoPart) = some false) (ki_Elder_NoRow : W.kitOne K (.ref y_Elder) (.ref y_NoRow) = some false) (ki_Elder_NoName : W.kitOne K (.ref y_Elder) (.ref y_NoName) = some false) (ki_Elder_NoWay : W.kitOne K (.ref y_Elder) (.ref y_NoWay) = some false) (ki_Elder_Silent : W.kitOne K (.ref y_Elder) (.ref y_Silent) = some false) (ki_Elder_Elder : W.kitOne K (.ref y_Elder) (.ref y_Elder) = some true) (ki_Elder_Unsealed : W.kitOne K (.ref y_Elder) (.ref y_Unsealed) = some false) (ki_Elder_NoHead : W.kitOne K (.ref y_Elder) (.ref y_NoHead) = some false) (ki_Elder_ValueError : W.kitOne K (.ref y_Elder) (.type "ValueError") = some true) (ki_Unsealed_NoStamp : W.kitOne K (.ref y_Unsealed) (.ref y_NoStamp) = some false) (ki_Unsealed_NoPlace : W.kitOne K (.ref y_Unsealed) (.ref y_NoPlace) = some false) (ki_Unsealed_NoPaper : W.kitOne K (.ref y_Unsealed) (.ref y_NoPaper) = some false) (ki_Unsealed_NoStretch : W.kitOne K (.ref y_Unsealed) (.ref y_NoStretch) = some false) (ki_Unsealed_Missing : W.kitOne K (.ref y_Unsealed) (.ref y_Missing) = some false) (ki_Unsealed_NoValue : W.kitOne K (.ref y_Unsealed) (.ref y_NoValue) = some false) (ki_Unsealed_NoKey : W.kitOne K (.ref y_Unsealed) (.ref y_NoKey) = some false) (ki_Unsealed_NoBits : W.kitOne K (.ref y_Unsealed) (.ref y_NoBits) = some false) (ki_Unsealed_NoTerm : W.kitOne K (.ref y_Unsealed) (.ref y_NoTerm) = some false) (ki_Unsealed_Parted : W.kitOne K (.ref y_Unsealed) (.ref y_Parted) = some false) (ki_Unsealed_Broken : W.kitOne K (.ref y_Unsealed) (.ref y_Broken) = some false) (ki_Unsealed_NoPart : W.kitOne K (.ref y_Unsealed) (.ref y_NoPart) = some false) (ki_Unsealed_NoRow : W.kitOne K (.ref y_Unsealed) (.ref y_NoRow) = some false) (ki_Unsealed_NoName : W.kitOne K (.ref y_Unsealed) (.ref y_NoName) = some false) (ki_Unsealed_NoWay : W.kitOne K (.ref y_Unsealed) (.ref y_NoWay) = some false) (ki_Unsealed_Silent : W.kitOne K (.ref y_Unsealed) (.ref y_Silent) = some false) (ki_Unsealed_Elder : W.kitOne K (.ref y_Unsealed) (.ref y_Elder) = some false) (ki_Unsealed_Unsealed : W.kitOne K (.ref y_Unsealed) (.ref y_Unsealed) = some true) (ki_Unsealed_NoHead : W.kitOne K (.ref y_Unsealed) (.ref y_NoHead) = some false) (ki_Unsealed_ValueError : W.kitOne K (.ref y_Unsealed) (.type "ValueError") = some true) (ki_NoHead_NoStamp : W.kitOne K (.ref y_NoHead) (.ref y_NoStamp) = some false) (ki_NoHead_NoPlace : W.kitOne K (.ref y_NoHead) (.ref y_NoPlace) = some false) (ki_NoHead_NoPaper : W.kitOne K (.ref y_NoHead) (.ref y_NoPaper) = some false) (ki_NoHead_NoStretch : W.kitOne K (.ref y_NoHead) (.ref y_NoStretch) = some false) (ki_NoHead_Missing : W.kitOne K (.ref y_NoHead) (.ref y_Missing) = some false) (ki_NoHead_NoValue : W.kitOne K (.ref y_NoHead) (.ref y_NoValue) = some false) (ki_NoHead_NoKey : W.kitOne K (.ref y_NoHead) (.ref y_NoKey) = some false) (ki_NoHead_NoBits : W.kitOne K (.ref y_NoHead) (.ref y_NoBits) = some false) (ki_NoHead_NoTerm : W.kitOne K (.ref y_NoHead) (.ref y_NoTerm) = some false) (ki_NoHead_Parted : W.kitOne K (.ref y_NoHead) (.ref y_Parted) = some false) (ki_NoHead_Broken : W.kitOne K (.ref y_NoHead) (.ref y_Broken) = some false) (ki_NoHead_NoPart : W.kitOne K (.ref y_NoHead) (.ref y_NoPart) = some false) (ki_NoHead_NoRow : W.kitOne K (.ref y_NoHead) (.ref y_NoRow) = some false) (ki_NoHead_NoName : W.kitOne K (.ref y_NoHead) (.ref y_NoName) = some false) (ki_NoHead_NoWay : W.kitOne K (.ref y_NoHead) (.ref y_NoWay) = some false) (ki_NoHead_Silent : W.kitOne K (.ref y_NoHead) (.ref y_Silent) = some false) (ki_NoHead_Elder : W.kitOne K (.ref y_NoHead) (.ref y_Elder) = some false) (ki_NoHead_Unsealed : W.kitOne K (.ref y_NoHead) (.ref y_Unsealed) = some false) (ki_NoHead_NoHead : W.kitOne K (.ref y_NoHead) (.ref y_NoHead) = some true) (ki_NoHead_ValueError : W.kitOne K (.ref y_NoHead) (.type "ValueError") = some true) (ki_NoPart_NoStamp : W.kitOne K (.ref y_NoPart) (.ref y_NoStamp) = some false) (ki_NoPart_NoPlace : W.kitOne K (.ref y_NoPart) (.ref y_NoPlace) = some false) (ki_NoPart_NoPaper : W.kitOne K (.ref y_NoPart) (.ref y_NoPaper) = some false) (ki_NoPart_NoStretch : W.kitOne K (.ref y_NoPart) (.ref y_NoStretch) = some false) (ki_NoPart_Missing : W.kitOne K (.ref y_NoPart) (.ref y_Missing) = some false) (ki_NoPart_NoValue : W.kitOne K (.ref y_NoPart) (.ref y_NoValue) = some false) (ki_NoPart_NoKey : W.kitOne K (.ref y_NoPart) (.ref y_NoKey) = some false) (ki_NoPart_NoBits : W.kitOne K (.ref y_NoPart) (.ref y_NoBits) = some false) (ki_NoPart_NoTerm : W.kitOne K (.ref y_NoPart) (.ref y_NoTerm) = some false) (ki_NoPart_Parted : W.kitOne K (.ref y_NoPart) (.ref y_Parted) = some false) (ki_NoPart_Broken : W.kitOne K (.ref y_NoPart) (.ref y_Broken) = some false) (ki_NoPart_NoPart : W.kitOne K (.ref y_NoPart) (.ref y_NoPart) = some true) (ki_NoPart_NoRow : W.kitOne K (.ref y_NoPart) (.ref y_NoRow) = some false) (ki_NoPart_NoName : W.kitOne K (.ref y_NoPart) (.ref y_NoName) = some false) (ki_NoPart_NoWay : W.kitOne K (.ref y_NoPart) (.ref y_NoWay) = some false) (ki_NoPart_Silent : W.kitOne K (.ref y_NoPart) (.ref y_Silent) = some false) (ki_NoPart_Elder : W.kitOne K (.ref y_NoPart) (.ref y_Elder) = some false) (ki_NoPart_Unsealed : W.kitOne K (.ref y_NoPart) (.ref y_Unsealed) = some false) (ki_NoPart_NoHead : W.kitOne K (.ref y_NoPart) (.ref y_NoHead) = some false) (ki_NoPart_ValueError : W.kitOne K (.ref y_NoPart) (.type "ValueError") = some true) (ki_Broken_NoStamp : W.kitOne K (.ref y_Broken) (.ref y_NoStamp) = some false) (ki_Broken_NoPlace : W.kitOne K (.ref y_Broken) (.ref y_NoPlace) = some false) (ki_Broken_NoPaper : W.kitOne K (.ref y_Broken) (.ref y_NoPaper) = some false) (ki_Broken_NoStretch : W.kitOne K (.ref y_Broken) (.ref y_NoStretch) = some false) (ki_Broken_Missing : W.kitOne K (.ref y_Broken) (.ref y_Missing) = some false) (ki_Broken_NoValue : W.kitOne K (.ref y_Broken) (.ref y_NoValue) = some false) (ki_Broken_NoKey : W.kitOne K (.ref y_Broken) (.ref y_NoKey) = some false) (ki_Broken_NoBits : W.kitOne K (.ref y_Broken) (.ref y_NoBits) = some false) (ki_Broken_NoTerm : W.kitOne K (.ref y_Broken) (.ref y_NoTerm) = some false) (ki_Broken_Parted : W.kitOne K (.ref y_Broken) (.ref y_Parted) = some false) (ki_Broken_Broken : W.kitOne K (.ref y_Broken) (.ref y_Broken) = some true) (ki_Broken_NoPart : W.kitOne K (.ref y_Broken) (.ref y_NoPart) = some false) (ki_Broken_NoRow : W.kitOne K (.ref y_Broken) (.ref y_NoRow) = some false) (ki_Broken_NoName : W.kitOne K (.ref y_Broken) (.ref y_NoName) = some false) (ki_Broken_NoWay : W.kitOne K (.ref y_Broken) (.ref y_NoWay) = some false) (ki_Broken_Silent : W.kitOne K (.ref y_Broken) (.ref y_Silent) = some false) (ki_Broken_Elder : W.kitOne K (.ref y_Broken) (.ref y_Elder) = some false) (ki_Broken_Unsealed : W.kitOne K (.ref y_Broken) (.ref y_Unsealed) = some false) (ki_Broken_NoHead : W.kitOne K (.ref y_Broken) (.ref y_NoHead) = some false) (ki_Broken_ValueError : W.kitOne K (.ref y_Broken) (.type "ValueError") = some true) (ki_Parted_NoStamp : W.kitOne K (.ref y_Parted) (.ref y_NoStamp) = some false) (ki_Parted_NoPlace : W.kitOne K (.ref y_Parted) (.ref y_NoPlace) = some false) (ki_Parted_NoPaper : W.kitOne K (.ref y_Parted) (.ref y_NoPaper) = some false) (ki_Parted_NoStretch : W.kitOne K (.ref y_Parted) (.ref y_NoStretch) = some false) (ki_Parted_Missing : W.kitOne K (.ref y_Parted) (.ref y_Missing) = some false) (ki_Parted_NoValue : W.kitOne K (.ref y_Parted) (.ref y_NoValue) = some false) (ki_Parted_NoKey : W.kitOne K (.ref y_Parted) (.ref y_NoKey) = some false) (ki_Parted_NoBits : W.kitOne K (.ref y_Parted) (.ref y_NoBits) = some false) (ki_Parted_NoTerm : W.kitOne K (.ref y_Parted) (.ref y_NoTerm) = some false) (ki_Parted_Parted : W.kitOne K (.ref y_Parted) (.ref y_Parted) = some true) (ki_Parted_Broken : W.kitOne K (.ref y_Parted) (.ref y_Broken) = some false) (ki_Parted_NoPart : W.kitOne K (.ref y_Parted) (.ref y_NoPart) = some false) (ki_Parted_NoRow : W.kitOne K (.ref y_Parted) (.ref y_NoRow) = some false) (ki_Parted_NoName : W.kitOne K (.ref y_Parted) (.ref y_NoName) = some false) (ki_Parted_NoWay : W.kitOne K (.ref y_Parted) (.ref y_NoWay) = some false) (ki_Parted_Silent : W.kitOne K (.ref y_Parted) (.ref y_Silent) = some false) (ki_Parted_Elder : W.kitOne K (.ref y_Parted) (.ref y_Elder) = some false) (ki_Parted_Unsealed : W.kitOne K (.ref y_Parted) (.ref y_Unsealed) = some false) (ki_Parted_NoHead : W.kitOne K (.ref y_Parted) (.ref y_NoHead) = some false) (ki_Parted_ValueError : W.kitOne K (.ref y_Parted) (.type "ValueError") = some true) (z_ValueError : W.nsIn K mainGlobals "ValueError" = some none) (z_isinstance : W.nsIn K mainGlobals "isinstance" = some none) (z_range : W.nsIn K mainGlobals "range" = some none) (z_str : W.nsIn K mainGlobals "str" = some none) (nt : W.noTabs K = true) (td : ej K [] = true) : fZ P w K mg fa := by
 cases hfa.symm.trans (W.mg_of X G h11.m)
 have tdn : ([] : List Addr).Nodup := ix (by unfold ej at td; simp only [List.map_cons, List.map_nil, Option.map_some] at td; exact of_decide_eq_true td)
 exact kh (A := ⟨x_4, d0, x_9, d1, x_1, d2, x_0, d3, x_2, d4, x_10, d5, x_7, d6, x_5, d7, x_6, d8, x_8, d9, x_3, d10, fa, d11, y_NoStamp, y_NoPlace, y_NoPaper, y_NoStretch, y_Missing, y_NoValue, y_NoKey, y_NoBits, y_NoTerm, y_NoRow, y_NoName, y_NoWay, y_Silent, y_Elder, y_Unsealed, y_NoHead, y_NoPart, y_Broken, y_Parted, y_StampError⟩) ⟨h0.fm1 X G, h1.fm1 X G, h2, h2.b3, h3, h3.b3, h4, h4.b3, h5.fm3 X G, h6.fm3 X G, h7.fm1 X G, h8.fm1 X G, h9.fm3 X G, h10.fm2 X G, h11.fm1 X G, W.mg_none_of X G z_ValueError, W.mg_none_of X G z_isinstance, W.mg_none_of X G z_range, W.mg_none_of X G z_str, W.mg_of X G bc_NoStamp, ap.ok eo_NoStamp, W.mg_of X G bc_NoPlace, ap.ok eo_NoPlace, W.mg_of X G bc_NoPaper, ap.ok eo_NoPaper, W.mg_of X G bc_NoStretch, ap.ok eo_NoStretch, W.mg_of X G bc_Missing, ap.ok eo_Missing, W.mg_of X G bc_NoValue, ap.ok eo_NoValue, W.mg_of X G bc_NoKey, ap.ok eo_NoKey, W.mg_of X G bc_NoBits, ap.ok eo_NoBits, W.mg_of X G bc_NoTerm, ap.ok eo_NoTerm, W.mg_of X G bc_NoRow, ap.ok eo_NoRow, W.mg_of X G bc_NoName, ap.ok eo_NoName, W.mg_of X G bc_NoWay, ap.ok eo_NoWay, W.mg_of X G bc_Silent, ap.ok eo_Silent, W.mg_of X G bc_Elder, ap.ok eo_Elder, W.mg_of X G bc_Unsealed, ap.ok eo_Unsealed, W.mg_of X G bc_NoHead, ap.ok eo_NoHead, W.mg_of X G bc_NoPart, eo2_NoPart, W.mg_of X G bc_Broken, eo2_Broken, W.mg_of X G bc_Parted, eo2_Parted, W.mg_of X G bc_StampError, ap.ok eo_StampError, eo_NoStamp, eo_NoPlace, eo_NoPaper, eo_NoStretch, eo_Missing, eo_NoValue, eo_NoKey, eo_NoBits, eo_NoTerm, eo_NoRow, eo_NoName, eo_NoWay, eo_Silent, eo_Elder, eo_Unsealed, eo_NoHead, ⟨e0_NoStamp, e1_NoStamp, e2_NoStamp, em0_NoStamp, em1_NoStamp⟩, ⟨e0_NoPlace, e1_NoPlace, e2_NoPlace, em0_NoPlace, em1_NoPlace⟩, ⟨e0_NoPaper, e1_NoPaper, e2_NoPaper, em0_NoPaper, em1_NoPaper⟩, ⟨e0_NoStretch, e1_NoStretch, e2_NoStretch, em0_NoStretch, em1_NoStretch⟩, ⟨e0_Missing, e1_Missing, e2_Missing, em0_Missing, em1_Missing⟩, ⟨e0_NoValue, e1_NoValue, e2_NoValue, em0_NoValue, em1_NoValue⟩, ⟨e0_NoKey, e1_NoKey, e2_NoKey, em0_NoKey, em1_NoKey⟩, ⟨e0_NoBits, e1_NoBits, e2_NoBits, em0_NoBits, em1_NoBits⟩, ⟨e0_NoTerm, e1_NoTerm, e2_NoTerm, em0_NoTerm, em1_NoTerm⟩, ⟨e0_NoRow, e1_NoRow, e2_NoRow, em0_NoRow, em1_NoRow⟩, ⟨e0_NoName, e1_NoName, e2_NoName, em0_NoName, em1_NoName⟩, ⟨e0_NoWay, e1_NoWay, e2_NoWay, em0_NoWay, em1_NoWay⟩, ⟨e0_Silent, e1_Silent, e2_Silent, em0_Silent, em1_Silent⟩, ⟨e0_Elder, e1_Elder, e2_Elder, em0_Elder, em1_Elder⟩, ⟨e0_Unsealed, e1_Unsealed, e2_Unsealed, em0_Unsealed, em1_Unsealed⟩, ⟨e0_NoHead, e1_NoHead, e2_NoHead, em0_NoHead, em1_NoHead⟩, ⟨e0_NoPart, e1_NoPart, e2_NoPart, em0_NoPart, em1_NoPart⟩, ⟨e0_Broken, e1_Broken, e2_Broken, em0_Broken, em1_Broken⟩, ⟨e0_Parted, e1_Parted, e2_Parted, em0_Parted, em1_Parted⟩, ⟨eo2_NoPart, sa_NoPart, ⟨e0_NoPart, e1_NoPart, e2_NoPart, em0_NoPart, em1_NoPart⟩, na_NoPart_begin, hd_NoPart⟩, ⟨eo2_NoPart, sa_NoPart, ⟨e0_NoPart, e1_NoPart, e2_NoPart, em0_NoPart, em1_NoPart⟩, na_NoPart_depth, hd_NoPart⟩, ⟨eo2_Broken, sa_Broken, ⟨e0_Broken, e1_Broken, e2_Broken, em0_Broken, em1_Broken⟩, na_Broken_came, hd_Broken⟩, ⟨eo2_Broken, sa_Broken, ⟨e0_Broken, e1_Broken, e2_Broken, em0_Broken, em1_Broken⟩, na_Broken_due, hd_Broken⟩, ⟨eo2_Parted, sa_Parted, ⟨e0_Parted, e1_Parted, e2_Parted, em0_Parted, em1_Parted⟩, na_Parted_came, hd_Parted⟩, ⟨eo2_Parted, sa_Parted, ⟨e0_Parted, e1_Parted, e2_Parted, em0_Parted, em1_Parted⟩, na_Parted_due, hd_Parted⟩, ⟨eo2_Parted, a4, fn4, kc_Parted⟩, ⟨eo2_Broken, a3, fn3, kc_Broken⟩, ⟨eo2_NoPart, a2, fn2, kc_NoPart⟩, aa sb_NoStamp_StampError, aa sb_NoStamp_Parted, aa sb_NoStamp_Broken, aa sb_NoStamp_NoPart, aa sb_NoPlace_StampError, aa sb_NoPlace_Parted, aa sb_NoPlace_Broken, aa sb_NoPlace_NoPart, aa sb_NoPaper_StampError, aa sb_NoPaper_Parted, aa sb_NoPaper_Broken, aa sb_NoPaper_NoPart, aa sb_NoStretch_StampError, aa sb_NoStretch_Parted, aa sb_NoStretch_Broken, aa sb_NoStretch_NoPart, aa sb_Missing_StampError, aa sb_Missing_Parted, aa sb_Missing_Broken, aa sb_Missing_NoPart, aa sb_NoValue_StampError, aa sb_NoValue_Parted, aa sb_NoValue_Broken, aa sb_NoValue_NoPart, aa sb_NoKey_StampError, aa sb_NoKey_Parted, aa sb_NoKey_Broken, aa sb_NoKey_NoPart, aa sb_NoBits_StampError, aa sb_NoBits_Parted, aa sb_NoBits_Broken, aa sb_NoBits_NoPart, aa sb_NoTerm_StampError, aa sb_NoTerm_Parted, aa sb_NoTerm_Broken, aa sb_NoTerm_NoPart, aa sb_NoRow_StampError, aa sb_NoRow_Parted, aa sb_NoRow_Broken, aa sb_NoRow_NoPart, aa sb_NoName_StampError, aa sb_NoName_Parted, aa sb_NoName_Broken, aa sb_NoName_NoPart, aa sb_NoWay_StampError, aa sb_NoWay_Parted, aa sb_NoWay_Broken, aa sb_NoWay_NoPart, aa sb_Silent_StampError, aa sb_Silent_Parted, aa sb_Silent_Broken, aa sb_Silent_NoPart, aa sb_Elder_StampError, aa sb_Elder_Parted, aa sb_Elder_Broken, aa sb_Elder_NoPart, aa sb_Unsealed_StampError, aa sb_Unsealed_Parted, aa sb_Unsealed_Broken, aa sb_Unsealed_NoPart, aa sb_NoHead_StampError, aa sb_NoHead_Parted, aa sb_NoHead_Broken, aa sb_NoHead_NoPart, aa sb_NoPart_StampError, aa sb_NoPart_Parted, aa sb_NoPart_Broken, aa sb_NoPart_NoPart, aa sb_Broken_StampError, aa sb_Broken_Parted, aa sb_Broken_Broken, aa sb_Broken_NoPart, aa sb_Parted_StampError, aa sb_Parted_Parted, aa sb_Parted_Broken, aa sb_Parted_NoPart, ki_NoStamp_NoStamp, ki_NoStamp_NoPlace, ki_NoStamp_NoPaper, ki_NoStamp_NoStretch, ki_NoStamp_Missing, ki_NoStamp_NoValue, ki_NoStamp_NoKey, ki_NoStamp_NoBits, ki_NoStamp_NoTerm, ki_NoStamp_Parted, ki_NoStamp_Broken, ki_NoStamp_NoPart, ki_NoStamp_NoRow, ki_NoStamp_NoName, ki_NoStamp_NoWay, ki_NoStamp_Silent, ki_NoStamp_Elder, ki_NoStamp_Unsealed, ki_NoStamp_NoHead, ki_NoStamp_ValueError, ki_NoPlace_NoStamp, ki_NoPlace_NoPlace, ki_NoPlace_NoPaper, ki_NoPlace_NoStretch, ki_NoPlace_Missing, ki_NoPlace_NoValue, ki_NoPlace_NoKey, ki_NoPlace_NoBits, ki_NoPlace_NoTerm, ki_NoPlace_Parted, ki_NoPlace_Broken, ki_NoPlace_NoPart, ki_NoPlace_NoRow, ki_NoPlace_NoName, ki_NoPlace_NoWay, ki_NoPlace_Silent, ki_NoPlace_Elder, ki_NoPlace_Unsealed, ki_NoPlace_NoHead, ki_NoPlace_ValueError, ki_NoPaper_NoStamp, ki_NoPaper_NoPlace, ki_NoPaper_NoPaper, ki_NoPaper_NoStretch, ki_NoPaper_Missing, ki_NoPaper_NoValue, ki_NoPaper_NoKey, ki_NoPaper_NoBits, ki_NoPaper_NoTerm, ki_NoPaper_Parted, ki_NoPaper_Broken, ki_NoPaper_NoPart, ki_NoPaper_NoRow, ki_NoPaper_NoName, ki_NoPaper_NoWay, ki_NoPaper_Silent, ki_NoPaper_Elder, ki_NoPaper_Unsealed, ki_NoPaper_NoHead, ki_NoPaper_ValueError, ki_NoStretch_NoStamp, ki_NoStretch_NoPlace, ki_NoStretch_NoPaper, ki_NoStretch_NoStretch, ki_NoStretch_Missing, ki_NoStretch_NoValue, ki_NoStretch_NoKey, ki_NoStretch_NoBits, ki_NoStretch_NoTerm, ki_NoStretch_Parted, ki_NoStretch_Broken, ki_NoStretch_NoPart, ki_NoStretch_NoRow, ki_NoStretch_NoName, ki_NoStretch_NoWay, ki_NoStretch_Silent, ki_NoStretch_Elder, ki_NoStretch_Unsealed, ki_NoStretch_NoHead, ki_NoStretch_ValueError, ki_Missing_NoStamp, ki_Missing_NoPlace, ki_Missing_NoPaper, ki_Missing_NoStretch, ki_Missing_Missing, ki_Missing_NoValue, ki_Missing_NoKey, ki_Missing_NoBits, ki_Missing_NoTerm, ki_Missing_Parted, ki_Missing_Broken, ki_Missing_NoPart, ki_Missing_NoRow, ki_Missing_NoName, ki_Missing_NoWay, ki_Missing_Silent, ki_Missing_Elder, ki_Missing_Unsealed, ki_Missing_NoHead, ki_Missing_ValueError, ki_NoValue_NoStamp, ki_NoValue_NoPlace, ki_NoValue_NoPaper, ki_NoValue_NoStretch, ki_NoValue_Missing, ki_NoValue_NoValue, ki_NoValue_NoKey, ki_NoValue_NoBits, ki_NoValue_NoTerm, ki_NoValue_Parted, ki_NoValue_Broken, ki_NoValue_NoPart, ki_NoValue_NoRow, ki_NoValue_NoName, ki_NoValue_NoWay, ki_NoValue_Silent, ki_NoValue_Elder, ki_NoValue_Unsealed, ki_NoValue_NoHead, ki_NoValue_ValueError, ki_NoKey_NoStamp, ki_NoKey_NoPlace, ki_NoKey_NoPaper, ki_NoKey_NoStretch, ki_NoKey_Missing, ki_NoKey_NoValue, ki_NoKey_NoKey, ki_NoKey_NoBits, ki_NoKey_NoTerm, ki_NoKey_Parted, ki_NoKey_Broken, ki_NoKey_NoPart, ki_NoKey_NoRow, ki_NoKey_NoName, ki_NoKey_NoWay, ki_NoKey_Silent, ki_NoKey_Elder, ki_NoKey_Unsealed, ki_NoKey_NoHead, ki_NoKey_ValueError, ki_NoBits_NoStamp, ki_NoBits_NoPlace, ki_NoBits_NoPaper, ki_NoBits_NoStretch, ki_NoBits_Missing, ki_NoBits_NoValue, ki_NoBits_NoKey, ki_NoBits_NoBits, ki_NoBits_NoTerm, ki_NoBits_Parted, ki_NoBits_Broken, ki_NoBits_NoPart, ki_NoBits_NoRow, ki_NoBits_NoName, ki_NoBits_NoWay, ki_NoBits_Silent, ki_NoBits_Elder, ki_NoBits_Unsealed, ki_NoBits_NoHead, ki_NoBits_ValueError, ki_NoTerm_NoStamp, ki_NoTerm_NoPlace, ki_NoTerm_NoPaper, ki_NoTerm_NoStretch, ki_NoTerm_Missing, ki_NoTerm_NoValue, ki_NoTerm_NoKey, ki_NoTerm_NoBits, ki_NoTerm_NoTerm, ki_NoTerm_Parted, ki_NoTerm_Broken, ki_NoTerm_NoPart, ki_NoTerm_NoRow, ki_NoTerm_NoName, ki_NoTerm_NoWay, ki_NoTerm_Silent, ki_NoTerm_Elder, ki_NoTerm_Unsealed, ki_NoTerm_NoHead, ki_NoTerm_ValueError, ki_NoRow_NoStamp, ki_NoRow_NoPlace, ki_NoRow_NoPaper, ki_NoRow_NoStretch, ki_NoRow_Missing, ki_NoRow_NoValue, ki_NoRow_NoKey, ki_NoRow_NoBits, ki_NoRow_NoTerm, ki_NoRow_Parted, ki_NoRow_Broken, ki_NoRow_NoPart, ki_NoRow_NoRow, ki_NoRow_NoName, ki_NoRow_NoWay, ki_NoRow_Silent, ki_NoRow_Elder, ki_NoRow_Unsealed, ki_NoRow_NoHead, ki_NoRow_ValueError, ki_NoName_NoStamp, ki_NoName_NoPlace, ki_NoName_NoPaper, ki_NoName_NoStretch, ki_NoName_Missing, ki_NoName_NoValue, ki_NoName_NoKey, ki_NoName_NoBits, ki_NoName_NoTerm, ki_NoName_Parted, ki_NoName_Broken, ki_NoName_NoPart, ki_NoName_NoRow, ki_NoName_NoName, ki_NoName_NoWay, ki_NoName_Silent, ki_NoName_Elder, ki_NoName_Unsealed, ki_NoName_NoHead, ki_NoName_ValueError, ki_NoWay_NoStamp, ki_NoWay_NoPlace, ki_NoWay_NoPaper, ki_NoWay_NoStretch, ki_NoWay_Missing, ki_NoWay_NoValue, ki_NoWay_NoKey, ki_NoWay_NoBits, ki_NoWay_NoTerm, ki_NoWay_Parted, ki_NoWay_Broken, ki_NoWay_NoPart, ki_NoWay_NoRow, ki_NoWay_NoName, ki_NoWay_NoWay, ki_NoWay_Silent, ki_NoWay_Elder, ki_NoWay_Unsealed, ki_NoWay_NoHead, ki_NoWay_ValueError, ki_Silent_NoStamp, ki_Silent_NoPlace, ki_Silent_NoPaper, ki_Silent_NoStretch, ki_Silent_Missing, ki_Silent_NoValue, ki_Silent_NoKey, ki_Silent_NoBits, ki_Silent_NoTerm, ki_Silent_Parted, ki_Silent_Broken, ki_Silent_NoPart, ki_Silent_NoRow, ki_Silent_NoName, ki_Silent_NoWay, ki_Silent_Silent, ki_Silent_Elder, ki_Silent_Unsealed, ki_Silent_NoHead, ki_Silent_ValueError, ki_Elder_NoStamp, ki_Elder_NoPlace, ki_Elder_NoPaper, ki_Elder_NoStretch, ki_Elder_Missing, ki_Elder_NoValue, ki_Elder_NoKey, ki_Elder_NoBits, ki_Elder_NoTerm, ki_Elder_Parted, ki_Elder_Broken, ki_Elder_NoPart, ki_Elder_NoRow, ki_Elder_NoName, ki_Elder_NoWay, ki_Elder_Silent, ki_Elder_Elder, ki_Elder_Unsealed, ki_Elder_NoHead, ki_Elder_ValueError, ki_Unsealed_NoStamp, ki_Unsealed_NoPlace, ki_Unsealed_NoPaper, ki_Unsealed_NoStretch, ki_Unsealed_Missing, ki_Unsealed_NoValue, ki_Unsealed_NoKey, ki_Unsealed_NoBits, ki_Unsealed_NoTerm, ki_Unsealed_Parted, ki_Unsealed_Broken, ki_Unsealed_NoPart, ki_Unsealed_NoRow, ki_Unsealed_NoName, ki_Unsealed_NoWay, ki_Unsealed_Silent, ki_Unsealed_Elder, ki_Unsealed_Unsealed, ki_Unsealed_NoHead, ki_Unsealed_ValueError, ki_NoHead_NoStamp, ki_NoHead_NoPlace, ki_NoHead_NoPaper, ki_NoHead_NoStretch, ki_NoHead_Missing, ki_NoHead_NoValue, ki_NoHead_NoKey, ki_NoHead_NoBits, ki_NoHead_NoTerm, ki_NoHead_Parted, ki_NoHead_Broken, ki_NoHead_NoPart, ki_NoHead_NoRow, ki_NoHead_NoName, ki_NoHead_NoWay, ki_NoHead_Silent, ki_NoHead_Elder, ki_NoHead_Unsealed, ki_NoHead_NoHead, ki_NoHead_ValueError, ki_NoPart_NoStamp, ki_NoPart_NoPlace, ki_NoPart_NoPaper, ki_NoPart_NoStretch, ki_NoPart_Missing, ki_NoPart_NoValue, ki_NoPart_NoKey, ki_NoPart_NoBits, ki_NoPart_NoTerm, ki_NoPart_Parted, ki_NoPart_Broken, ki_NoPart_NoPart, ki_NoPart_NoRow, ki_NoPart_NoName, ki_NoPart_NoWay, ki_NoPart_Silent, ki_NoPart_Elder, ki_NoPart_Unsealed, ki_NoPart_NoHead, ki_NoPart_ValueError, ki_Broken_NoStamp, ki_Broken_NoPlace, ki_Broken_NoPaper, ki_Broken_NoStretch, ki_Broken_Missing, ki_Broken_NoValue, ki_Broken_NoKey, ki_Broken_NoBits, ki_Broken_NoTerm, ki_Broken_Parted, ki_Broken_Broken, ki_Broken_NoPart, ki_Broken_NoRow, ki_Broken_NoName, ki_Broken_NoWay, ki_Broken_Silent, ki_Broken_Elder, ki_Broken_Unsealed, ki_Broken_NoHead, ki_Broken_ValueError, ki_Parted_NoStamp, ki_Parted_NoPlace, ki_Parted_NoPaper, ki_Parted_NoStretch, ki_Parted_Missing, ki_Parted_NoValue, ki_Parted_NoKey, ki_Parted_NoBits, ki_Parted_NoTerm, ki_Parted_Parted, ki_Parted_Broken, ki_Parted_NoPart, ki_Parted_NoRow, ki_Parted_NoName, ki_Parted_NoWay, ki_Parted_Silent, ki_Parted_Elder, ki_Parted_Unsealed, ki_Parted_NoHead, ki_Parted_ValueError⟩ nt  tdn
theorem mW {l : W.OpenLaw} {q : Program} {loose : List Str} {XP : (Str → Option Value) → Heap → Prop} {YP : World → Heap → Prop} {d : DefRec} {K : Params → W.Frag} (hn : l.most = some 63) (hdf : d.params.defaults = [])
  (hY : ∀ (w : World) (h : Heap), YP w h → (K w.params).In h) (hq : ∀ y ∈ ([] : List Str), ((PyProof.Rows.recsOf q).find? fun e => e.name == y).isSome = true)
  (F : ∀ (w : World) (mg : Str → Option Value) (fa : Addr) (h : Heap), (K w.params).In h → h.Ns mainGlobals mg → mg d.name = some (.ref fa) → fZ l.prog w (K w.params) mg fa) :
  W.WalkO q loose XP YP l.row.toRowW d [] (fun f vs => PySem.call f vs) :=
 L2.iC (n := 63) (k := 6) (x := "_law_script") (CX := fun w => CX1 l.prog w) hn (by decide) hdf ⟨rfl, by decide, by decide⟩ hY hq F fun _ _ _ _ _ ⟨_, _, _, _, _, _, z⟩ => z
end Rs
def PySem.W.Fast.tw2023754000374444077 : Unit := ()
def PySem.W.Fast.tw5667721420005525766 : Unit := ()
def PySem.W.Fast.tw8610245245737363824 : Unit := ()
def PySem.W.Fast.tw6069019473183420100 : Unit := ()
def PySem.W.Fast.tw16140397400521844804 : Unit := ()
def PySem.W.Fast.tw7500590196427668540 : Unit := ()
def PySem.W.Fast.tw7773549505265083088 : Unit := ()
def PySem.W.Fast.tw15002150961730895800 : Unit := ()
def PySem.W.Fast.tw7529758646762741287 : Unit := ()
def PySem.W.Fast.tw8279014735761999190 : Unit := ()
def PySem.W.Fast.tw3585684817460061794 : Unit := ()
def PySem.W.Fast.tw140032403046350899 : Unit := ()
def PySem.W.Fast.tw10792506464966248235 : Unit := ()
def PySem.W.Fast.tw4964178667301722298 : Unit := ()
def PySem.W.Fast.tw8976133160595283690 : Unit := ()
def PySem.W.Fast.tw1493413605015501906 : Unit := ()
def PySem.W.Fast.tw6450138392505718983 : Unit := ()
def PySem.W.Fast.tw13142947788841385173 : Unit := ()
def PySem.W.Fast.tw14547591409592398248 : Unit := ()
def PySem.W.Fast.tw4460372310152159605 : Unit := ()
def PySem.W.Fast.tw7042074534904989474 : Unit := ()
def PySem.W.Fast.tw315678111884377297 : Unit := ()
def PySem.W.Fast.tw2316455613290537175 : Unit := ()
def PySem.W.Fast.tw2510175558348713935 : Unit := ()
def PySem.W.Fast.tw14509674220326879808 : Unit := ()
open PySem PySem.W PyProof.Rows
set_option maxRecDepth 100000 in
set_option maxHeartbeats 0 in
theorem PySem.Challenge.cw_rootstamp_k07_refusals_holds : PySem.Challenge.rw_rootstamp_k07_refusals.Holds := by
 w_on; o_law; k_head; (case hw => w_witness2)
 k_fill
 refine Rs.mW (l := PySem.Challenge.rw_rootstamp_k07_refusals) rfl rfl (fun w h Y => by first | exact PySem.W.kIn_of Y | exact PySem.W.km_in_of Y) (by decide +kernel) ?F
 case F =>
  intro w mg fa h KX G hmg
  refine' Rs.kC KX G hmg ?bc_NoStamp ?bc_NoPlace ?bc_NoPaper ?bc_NoStretch ?bc_Missing ?bc_NoValue ?bc_NoKey ?bc_NoBits ?bc_NoTerm ?bc_NoRow ?bc_NoName ?bc_NoWay ?bc_Silent ?bc_Elder ?bc_Unsealed ?bc_NoHead ?bc_NoPart ?bc_Broken ?bc_Parted ?bc_StampError (L2.bJ ?a0 ?l0 ?c0 ?k0) (L2.bJ ?a1 ?l1 ?c1 ?k1) ?a2 (L2.di ?l2 ?c2 ?k2) ?fn2 ?a3 (L2.di ?l3 ?c3 ?k3) ?fn3 ?a4 (L2.di ?l4 ?c4 ?k4) ?fn4 (L2.bJ ?a5 ?l5 ?c5 ?k5) (L2.bJ ?a6 ?l6 ?c6 ?k6) (L2.bJ ?a7 ?l7 ?c7 ?k7) (L2.bJ ?a8 ?l8 ?c8 ?k8) (L2.bJ ?a9 ?l9 ?c9 ?k9) (L2.bJ ?a10 ?l10 ?c10 ?k10) (L2.bJ ?a11 ?l11 ?c11 ?k11) ?eo_NoStamp ?eo_NoPlace ?eo_NoPaper ?eo_NoStretch ?eo_Missing ?eo_NoValue ?eo_NoKey ?eo_NoBits ?eo_NoTerm ?eo_NoRow ?eo_NoName ?eo_NoWay ?eo_Silent ?eo_Elder ?eo_Unsealed ?eo_NoHead ?eo2_NoPart ?eo2_Broken ?eo2_Parted ?eo_StampError ?sa_NoPart ?hd_NoPart ?sa_Broken ?hd_Broken ?sa_Parted ?hd_Parted ?na_NoPart_begin ?na_NoPart_depth ?na_Broken_came ?na_Broken_due ?na_Parted_came ?na_Parted_due ?kc_Parted ?kc_Broken ?kc_NoPart ?e0_NoStamp ?e1_NoStamp ?e2_NoStamp ?em0_NoStamp ?em1_NoStamp ?e0_NoPlace ?e1_NoPlace ?e2_NoPlace ?em0_NoPlace ?em1_NoPlace ?e0_NoPaper ?e1_NoPaper ?e2_NoPaper ?em0_NoPaper ?em1_NoPaper ?e0_NoStretch ?e1_NoStretch ?e2_NoStretch ?em0_NoStretch ?em1_NoStretch ?e0_Missing ?e1_Missing ?e2_Missing ?em0_Missing ?em1_Missing ?e0_NoValue ?e1_NoValue ?e2_NoValue ?em0_NoValue ?em1_NoValue ?e0_NoKey ?e1_NoKey ?e2_NoKey ?em0_NoKey ?em1_NoKey ?e0_NoBits ?e1_NoBits ?e2_NoBits ?em0_NoBits ?em1_NoBits ?e0_NoTerm ?e1_NoTerm ?e2_NoTerm ?em0_NoTerm ?em1_NoTerm ?e0_NoRow ?e1_NoRow ?e2_NoRow ?em0_NoRow ?em1_NoRow ?e0_NoName ?e1_NoName ?e2_NoName ?em0_NoName ?em1_NoName ?e0_NoWay ?e1_NoWay ?e2_NoWay ?em0_NoWay ?em1_NoWay ?e0_Silent ?e1_Silent ?e2_Silent ?em0_Silent ?em1_Silent ?e0_Elder ?e1_Elder ?e2_Elder ?em0_Elder ?em1_Elder ?e0_Unsealed ?e1_Unsealed ?e2_Unsealed ?em0_Unsealed ?em1_Unsealed ?e0_NoHead ?e1_NoHead ?e2_NoHead ?em0_NoHead ?em1_NoHead ?e0_NoPart ?e1_NoPart ?e2_NoPart ?em0_NoPart ?em1_NoPart ?e0_Broken ?e1_Broken ?e2_Broken ?em0_Broken ?em1_Broken ?e0_Parted ?e1_Parted ?e2_Parted ?em0_Parted ?em1_Parted ?sb_NoStamp_StampError ?sb_NoStamp_Parted ?sb_NoStamp_Broken ?sb_NoStamp_NoPart ?sb_NoPlace_StampError ?sb_NoPlace_Parted ?sb_NoPlace_Broken ?sb_NoPlace_NoPart ?sb_NoPaper_StampError ?sb_NoPaper_Parted ?sb_NoPaper_Broken ?sb_NoPaper_NoPart ?sb_NoStretch_StampError ?sb_NoStretch_Parted ?sb_NoStretch_Broken ?sb_NoStretch_NoPart ?sb_Missing_StampError ?sb_Missing_Parted ?sb_Missing_Broken ?sb_Missing_NoPart ?sb_NoValue_StampError ?sb_NoValue_Parted ?sb_NoValue_Broken ?sb_NoValue_NoPart ?sb_NoKey_StampError ?sb_NoKey_Parted ?sb_NoKey_Broken ?sb_NoKey_NoPart ?sb_NoBits_StampError ?sb_NoBits_Parted ?sb_NoBits_Broken ?sb_NoBits_NoPart ?sb_NoTerm_StampError ?sb_NoTerm_Parted ?sb_NoTerm_Broken ?sb_NoTerm_NoPart ?sb_NoRow_StampError ?sb_NoRow_Parted ?sb_NoRow_Broken ?sb_NoRow_NoPart ?sb_NoName_StampError ?sb_NoName_Parted ?sb_NoName_Broken ?sb_NoName_NoPart ?sb_NoWay_StampError ?sb_NoWay_Parted ?sb_NoWay_Broken ?sb_NoWay_NoPart ?sb_Silent_StampError ?sb_Silent_Parted ?sb_Silent_Broken ?sb_Silent_NoPart ?sb_Elder_StampError ?sb_Elder_Parted ?sb_Elder_Broken ?sb_Elder_NoPart ?sb_Unsealed_StampError ?sb_Unsealed_Parted ?sb_Unsealed_Broken ?sb_Unsealed_NoPart ?sb_NoHead_StampError ?sb_NoHead_Parted ?sb_NoHead_Broken ?sb_NoHead_NoPart ?sb_NoPart_StampError ?sb_NoPart_Parted ?sb_NoPart_Broken ?sb_NoPart_NoPart ?sb_Broken_StampError ?sb_Broken_Parted ?sb_Broken_Broken ?sb_Broken_NoPart ?sb_Parted_StampError ?sb_Parted_Parted ?sb_Parted_Broken ?sb_Parted_NoPart ?ki_NoStamp_NoStamp ?ki_NoStamp_NoPlace ?ki_NoStamp_NoPaper ?ki_NoStamp_NoStretch ?ki_NoStamp_Missing ?ki_NoStamp_NoValue ?ki_NoStamp_NoKey ?ki_NoStamp_NoBits ?ki_NoStamp_NoTerm ?ki_NoStamp_Parted ?ki_NoStamp_Broken ?ki_NoStamp_NoPart ?ki_NoStamp_NoRow ?ki_NoStamp_NoName ?ki_NoStamp_NoWay ?ki_NoStamp_Silent ?ki_NoStamp_Elder ?ki_NoStamp_Unsealed ?ki_NoStamp_NoHead ?ki_NoStamp_ValueError ?ki_NoPlace_NoStamp ?ki_NoPlace_NoPlace ?ki_NoPlace_NoPaper ?ki_NoPlace_NoStretch ?ki_NoPlace_Missing ?ki_NoPlace_NoValue ?ki_NoPlace_NoKey ?ki_NoPlace_NoBits ?ki_NoPlace_NoTerm ?ki_NoPlace_Parted ?ki_NoPlace_Broken ?ki_NoPlace_NoPart ?ki_NoPlace_NoRow ?ki_NoPlace_NoName ?ki_NoPlace_NoWay ?ki_NoPlace_Silent ?ki_NoPlace_Elder ?ki_NoPlace_Unsealed ?ki_NoPlace_NoHead ?ki_NoPlace_ValueError ?ki_NoPaper_NoStamp ?ki_NoPaper_NoPlace ?ki_NoPaper_NoPaper ?ki_NoPaper_NoStretch ?ki_NoPaper_Missing ?ki_NoPaper_NoValue ?ki_NoPaper_NoKey ?ki_NoPaper_NoBits ?ki_NoPaper_NoTerm ?ki_NoPaper_Parted ?ki_NoPaper_Broken ?ki_NoPaper_NoPart ?ki_NoPaper_NoRow ?ki_NoPaper_NoName ?ki_NoPaper_NoWay ?ki_NoPaper_Silent ?ki_NoPaper_Elder ?ki_NoPaper_Unsealed ?ki_NoPaper_NoHead ?ki_NoPaper_ValueError ?ki_NoStretch_NoStamp ?ki_NoStretch_NoPlace ?ki_NoStretch_NoPaper ?ki_NoStretch_NoStretch ?ki_NoStretch_Missing ?ki_NoStretch_NoValue ?ki_NoStretch_NoKey ?ki_NoStretch_NoBits ?ki_NoStretch_NoTerm ?ki_NoStretch_Parted ?ki_NoStretch_Broken ?ki_NoStretch_NoPart ?ki_NoStretch_NoRow ?ki_NoStretch_NoName ?ki_NoStretch_NoWay ?ki_NoStretch_Silent ?ki_NoStretch_Elder ?ki_NoStretch_Unsealed ?ki_NoStretch_NoHead ?ki_NoStretch_ValueError ?ki_Missing_NoStamp ?ki_Missing_NoPlace ?ki_Missing_NoPaper ?ki_Missing_NoStretch ?ki_Missing_Missing ?ki_Missing_NoValue ?ki_Missing_NoKey ?ki_Missing_NoBits ?ki_Missing_NoTerm ?ki_Missing_Parted ?ki_Missing_Broken ?ki_Missing_NoPart ?ki_Missing_NoRow ?ki_Missing_NoName ?ki_Missing_NoWay ?ki_Missing_Silent ?ki_Missing_Elder ?ki_Missing_Unsealed ?ki_Missing_NoHead ?ki_Missing_ValueError ?ki_NoValue_NoStamp ?ki_NoValue_NoPlace ?ki_NoValue_NoPaper ?ki_NoValue_NoStretch ?ki_NoValue_Missing ?ki_NoValue_NoValue ?ki_NoValue_NoKey ?ki_NoValue_NoBits ?ki_NoValue_NoTerm ?ki_NoValue_Parted ?ki_NoValue_Broken ?ki_NoValue_NoPart ?ki_NoValue_NoRow ?ki_NoValue_NoName ?ki_NoValue_NoWay ?ki_NoValue_Silent ?ki_NoValue_Elder ?ki_NoValue_Unsealed ?ki_NoValue_NoHead ?ki_NoValue_ValueError ?ki_NoKey_NoStamp ?ki_NoKey_NoPlace ?ki_NoKey_NoPaper ?ki_NoKey_NoStretch ?ki_NoKey_Missing ?ki_NoKey_NoValue ?ki_NoKey_NoKey ?ki_NoKey_NoBits ?ki_NoKey_NoTerm ?ki_NoKey_Parted ?ki_NoKey_Broken ?ki_NoKey_NoPart ?ki_NoKey_NoRow ?ki_NoKey_NoName ?ki_NoKey_NoWay ?ki_NoKey_Silent ?ki_NoKey_Elder ?ki_NoKey_Unsealed ?ki_NoKey_NoHead ?ki_NoKey_ValueError ?ki_NoBits_NoStamp ?ki_NoBits_NoPlace ?ki_NoBits_NoPaper ?ki_NoBits_NoStretch ?ki_NoBits_Missing ?ki_NoBits_NoValue ?ki_NoBits_NoKey ?ki_NoBits_NoBits ?ki_NoBits_NoTerm ?ki_NoBits_Parted ?ki_NoBits_Broken ?ki_NoBits_NoPart ?ki_NoBits_NoRow ?ki_NoBits_NoName ?ki_NoBits_NoWay ?ki_NoBits_Silent ?ki_NoBits_Elder ?ki_NoBits_Unsealed ?ki_NoBits_NoHead ?ki_NoBits_ValueError ?ki_NoTerm_NoStamp ?ki_NoTerm_NoPlace ?ki_NoTerm_NoPaper ?ki_NoTerm_NoStretch ?ki_NoTerm_Missing ?ki_NoTerm_NoValue ?ki_NoTerm_NoKey ?ki_NoTerm_NoBits ?ki_NoTerm_NoTerm ?ki_NoTerm_Parted ?ki_NoTerm_Broken ?ki_NoTerm_NoPart ?ki_NoTerm_NoRow ?ki_NoTerm_NoName ?ki_NoTerm_NoWay ?ki_NoTerm_Silent ?ki_NoTerm_Elder ?ki_NoTerm_Unsealed ?ki_NoTerm_NoHead ?ki_NoTerm_ValueError ?ki_NoRow_NoStamp ?ki_NoRow_NoPlace ?ki_NoRow_NoPaper ?ki_NoRow_NoStretch ?ki_NoRow_Missing ?ki_NoRow_NoValue ?ki_NoRow_NoKey ?ki_NoRow_NoBits ?ki_NoRow_NoTerm ?ki_NoRow_Parted ?ki_NoRow_Broken ?ki_NoRow_NoPart ?ki_NoRow_NoRow ?ki_NoRow_NoName ?ki_NoRow_NoWay ?ki_NoRow_Silent ?ki_NoRow_Elder ?ki_NoRow_Unsealed ?ki_NoRow_NoHead ?ki_NoRow_ValueError ?ki_NoName_NoStamp ?ki_NoName_NoPlace ?ki_NoName_NoPaper ?ki_NoName_NoStretch ?ki_NoName_Missing ?ki_NoName_NoValue ?ki_NoName_NoKey ?ki_NoName_NoBits ?ki_NoName_NoTerm ?ki_NoName_Parted ?ki_NoName_Broken ?ki_NoName_NoPart ?ki_NoName_NoRow ?ki_NoName_NoName ?ki_NoName_NoWay ?ki_NoName_Silent ?ki_NoName_Elder ?ki_NoName_Unsealed ?ki_NoName_NoHead ?ki_NoName_ValueError ?ki_NoWay_NoStamp ?ki_NoWay_NoPlace ?ki_NoWay_NoPaper ?ki_NoWay_NoStretch ?ki_NoWay_Missing ?ki_NoWay_NoValue ?ki_NoWay_NoKey ?ki_NoWay_NoBits ?ki_NoWay_NoTerm ?ki_NoWay_Parted ?ki_NoWay_Broken ?ki_NoWay_NoPart ?ki_NoWay_NoRow ?ki_NoWay_NoName ?ki_NoWay_NoWay ?ki_NoWay_Silent ?ki_NoWay_Elder ?ki_NoWay_Unsealed ?ki_NoWay_NoHead ?ki_NoWay_ValueError ?ki_Silent_NoStamp ?ki_Silent_NoPlace ?ki_Silent_NoPaper ?ki_Silent_NoStretch ?ki_Silent_Missing ?ki_Silent_NoValue ?ki_Silent_NoKey ?ki_Silent_NoBits ?ki_Silent_NoTerm ?ki_Silent_Parted ?ki_Silent_Broken ?ki_Silent_NoPart ?ki_Silent_NoRow ?ki_Silent_NoName ?ki_Silent_NoWay ?ki_Silent_Silent ?ki_Silent_Elder ?ki_Silent_Unsealed ?ki_Silent_NoHead ?ki_Silent_ValueError ?ki_Elder_NoStamp ?ki_Elder_NoPlace ?ki_Elder_NoPaper ?ki_Elder_NoStretch ?ki_Elder_Missing ?ki_Elder_NoValue ?ki_Elder_NoKey ?ki_Elder_NoBits ?ki_Elder_NoTerm ?ki_Elder_Parted ?ki_Elder_Broken ?ki_Elder_NoPart ?ki_Elder_NoRow ?ki_Elder_NoName ?ki_Elder_NoWay ?ki_Elder_Silent ?ki_Elder_Elder ?ki_Elder_Unsealed ?ki_Elder_NoHead ?ki_Elder_ValueError ?ki_Unsealed_NoStamp ?ki_Unsealed_NoPlace ?ki_Unsealed_NoPaper ?ki_Unsealed_NoStretch ?ki_Unsealed_Missing ?ki_Unsealed_NoValue ?ki_Unsealed_NoKey ?ki_Unsealed_NoBits ?ki_Unsealed_NoTerm ?ki_Unsealed_Parted ?ki_Unsealed_Broken ?ki_Unsealed_NoPart ?ki_Unsealed_NoRow ?ki_Unsealed_NoName ?ki_Unsealed_NoWay ?ki_Unsealed_Silent ?ki_Unsealed_Elder ?ki_Unsealed_Unsealed ?ki_Unsealed_NoHead ?ki_Unsealed_ValueError ?ki_NoHead_NoStamp ?ki_NoHead_NoPlace ?ki_NoHead_NoPaper ?ki_NoHead_NoStretch ?ki_NoHead_Missing ?ki_NoHead_NoValue ?ki_NoHead_NoKey ?ki_NoHead_NoBits ?ki_NoHead_NoTerm ?ki_NoHead_Parted ?ki_NoHead_Broken ?ki_NoHead_NoPart ?ki_NoHead_NoRow ?ki_NoHead_NoName ?ki_NoHead_NoWay ?ki_NoHead_Silent ?ki_NoHead_Elder ?ki_NoHead_Unsealed ?ki_NoHead_NoHead ?ki_NoHead_ValueError ?ki_NoPart_NoStamp ?ki_NoPart_NoPlace ?ki_NoPart_NoPaper ?ki_NoPart_NoStretch ?ki_NoPart_Missing ?ki_NoPart_NoValue ?ki_NoPart_NoKey ?ki_NoPart_NoBits ?ki_NoPart_NoTerm ?ki_NoPart_Parted ?ki_NoPart_Broken ?ki_NoPart_NoPart ?ki_NoPart_NoRow ?ki_NoPart_NoName ?ki_NoPart_NoWay ?ki_NoPart_Silent ?ki_NoPart_Elder ?ki_NoPart_Unsealed ?ki_NoPart_NoHead ?ki_NoPart_ValueError ?ki_Broken_NoStamp ?ki_Broken_NoPlace ?ki_Broken_NoPaper ?ki_Broken_NoStretch ?ki_Broken_Missing ?ki_Broken_NoValue ?ki_Broken_NoKey ?ki_Broken_NoBits ?ki_Broken_NoTerm ?ki_Broken_Parted ?ki_Broken_Broken ?ki_Broken_NoPart ?ki_Broken_NoRow ?ki_Broken_NoName ?ki_Broken_NoWay ?ki_Broken_Silent ?ki_Broken_Elder ?ki_Broken_Unsealed ?ki_Broken_NoHead ?ki_Broken_ValueError ?ki_Parted_NoStamp ?ki_Parted_NoPlace ?ki_Parted_NoPaper ?ki_Parted_NoStretch ?ki_Parted_Missing ?ki_Parted_NoValue ?ki_Parted_NoKey ?ki_Parted_NoBits ?ki_Parted_NoTerm ?ki_Parted_Parted ?ki_Parted_Broken ?ki_Parted_NoPart ?ki_Parted_NoRow ?ki_Parted_NoName ?ki_Parted_NoWay ?ki_Parted_Silent ?ki_Parted_Elder ?ki_Parted_Unsealed ?ki_Parted_NoHead ?ki_Parted_ValueError ?z_ValueError ?z_isinstance ?z_range ?z_str ?nt ?td
  case bc_NoStamp | bc_NoPlace | bc_NoPaper | bc_NoStretch | bc_Missing | bc_NoValue | bc_NoKey | bc_NoBits | bc_NoTerm | bc_NoRow | bc_NoName | bc_NoWay | bc_Silent | bc_Elder | bc_Unsealed | bc_NoHead | bc_NoPart | bc_Broken | bc_Parted | bc_StampError | a0 | l0 | c0 | k0 | a1 | l1 | c1 | k1 | a2 | l2 | c2 | k2 | fn2 | a3 | l3 | c3 | k3 | fn3 | a4 | l4 | c4 | k4 | fn4 | a5 | l5 | c5 | k5 | a6 | l6 | c6 | k6 | a7 | l7 | c7 | k7 | a8 | l8 | c8 | k8 | a9 | l9 | c9 | k9 | a10 | l10 | c10 | k10 | a11 | l11 | c11 | k11 => k_is
  case eo_NoStamp | eo_NoPlace | eo_NoPaper | eo_NoStretch | eo_Missing | eo_NoValue | eo_NoKey | eo_NoBits | eo_NoTerm | eo_NoRow | eo_NoName | eo_NoWay | eo_Silent | eo_Elder | eo_Unsealed | eo_NoHead => k_exc
  case eo2_NoPart | eo2_Broken | eo2_Parted => kernel_rfl
  case eo_StampError => k_exc
  case sa_NoPart | hd_NoPart | sa_Broken | hd_Broken | sa_Parted | hd_Parted | na_NoPart_begin | na_NoPart_depth | na_Broken_came | na_Broken_due | na_Parted_came | na_Parted_due | kc_Parted | kc_Broken | kc_NoPart | e0_NoStamp | e1_NoStamp | e2_NoStamp | em0_NoStamp | em1_NoStamp | e0_NoPlace | e1_NoPlace | e2_NoPlace | em0_NoPlace | em1_NoPlace | e0_NoPaper | e1_NoPaper | e2_NoPaper | em0_NoPaper | em1_NoPaper | e0_NoStretch | e1_NoStretch | e2_NoStretch | em0_NoStretch | em1_NoStretch | e0_Missing | e1_Missing | e2_Missing | em0_Missing | em1_Missing | e0_NoValue | e1_NoValue | e2_NoValue | em0_NoValue | em1_NoValue | e0_NoKey | e1_NoKey | e2_NoKey | em0_NoKey | em1_NoKey | e0_NoBits | e1_NoBits | e2_NoBits | em0_NoBits | em1_NoBits | e0_NoTerm | e1_NoTerm | e2_NoTerm | em0_NoTerm | em1_NoTerm | e0_NoRow | e1_NoRow | e2_NoRow | em0_NoRow | em1_NoRow | e0_NoName | e1_NoName | e2_NoName | em0_NoName | em1_NoName | e0_NoWay | e1_NoWay | e2_NoWay | em0_NoWay | em1_NoWay | e0_Silent | e1_Silent | e2_Silent | em0_Silent | em1_Silent | e0_Elder | e1_Elder | e2_Elder | em0_Elder | em1_Elder | e0_Unsealed | e1_Unsealed | e2_Unsealed | em0_Unsealed | em1_Unsealed | e0_NoHead | e1_NoHead | e2_NoHead | em0_NoHead | em1_NoHead | e0_NoPart | e1_NoPart | e2_NoPart | em0_NoPart | em1_NoPart | e0_Broken | e1_Broken | e2_Broken | em0_Broken | em1_Broken | e0_Parted | e1_Parted | e2_Parted | em0_Parted | em1_Parted | sb_NoStamp_StampError | sb_NoStamp_Parted | sb_NoStamp_Broken | sb_NoStamp_NoPart | sb_NoPlace_StampError | sb_NoPlace_Parted | sb_NoPlace_Broken | sb_NoPlace_NoPart | sb_NoPaper_StampError | sb_NoPaper_Parted | sb_NoPaper_Broken | sb_NoPaper_NoPart | sb_NoStretch_StampError | sb_NoStretch_Parted | sb_NoStretch_Broken | sb_NoStretch_NoPart | sb_Missing_StampError | sb_Missing_Parted | sb_Missing_Broken | sb_Missing_NoPart | sb_NoValue_StampError | sb_NoValue_Parted | sb_NoValue_Broken | sb_NoValue_NoPart | sb_NoKey_StampError | sb_NoKey_Parted | sb_NoKey_Broken | sb_NoKey_NoPart | sb_NoBits_StampError | sb_NoBits_Parted | sb_NoBits_Broken | sb_NoBits_NoPart | sb_NoTerm_StampError | sb_NoTerm_Parted | sb_NoTerm_Broken | sb_NoTerm_NoPart | sb_NoRow_StampError | sb_NoRow_Parted | sb_NoRow_Broken | sb_NoRow_NoPart | sb_NoName_StampError | sb_NoName_Parted | sb_NoName_Broken | sb_NoName_NoPart | sb_NoWay_StampError | sb_NoWay_Parted | sb_NoWay_Broken | sb_NoWay_NoPart | sb_Silent_StampError | sb_Silent_Parted | sb_Silent_Broken | sb_Silent_NoPart | sb_Elder_StampError | sb_Elder_Parted | sb_Elder_Broken | sb_Elder_NoPart | sb_Unsealed_StampError | sb_Unsealed_Parted | sb_Unsealed_Broken | sb_Unsealed_NoPart | sb_NoHead_StampError | sb_NoHead_Parted | sb_NoHead_Broken | sb_NoHead_NoPart | sb_NoPart_StampError | sb_NoPart_Parted | sb_NoPart_Broken | sb_NoPart_NoPart | sb_Broken_StampError | sb_Broken_Parted | sb_Broken_Broken | sb_Broken_NoPart | sb_Parted_StampError | sb_Parted_Parted | sb_Parted_Broken | sb_Parted_NoPart => k_is
  case ki_NoStamp_NoStamp | ki_NoStamp_NoPlace | ki_NoStamp_NoPaper | ki_NoStamp_NoStretch | ki_NoStamp_Missing | ki_NoStamp_NoValue | ki_NoStamp_NoKey | ki_NoStamp_NoBits | ki_NoStamp_NoTerm | ki_NoStamp_Parted | ki_NoStamp_Broken | ki_NoStamp_NoPart | ki_NoStamp_NoRow | ki_NoStamp_NoName | ki_NoStamp_NoWay | ki_NoStamp_Silent | ki_NoStamp_Elder | ki_NoStamp_Unsealed | ki_NoStamp_NoHead | ki_NoStamp_ValueError | ki_NoPlace_NoStamp | ki_NoPlace_NoPlace | ki_NoPlace_NoPaper | ki_NoPlace_NoStretch | ki_NoPlace_Missing | ki_NoPlace_NoValue | ki_NoPlace_NoKey | ki_NoPlace_NoBits | ki_NoPlace_NoTerm | ki_NoPlace_Parted | ki_NoPlace_Broken | ki_NoPlace_NoPart | ki_NoPlace_NoRow | ki_NoPlace_NoName | ki_NoPlace_NoWay | ki_NoPlace_Silent | ki_NoPlace_Elder | ki_NoPlace_Unsealed | ki_NoPlace_NoHead | ki_NoPlace_ValueError | ki_NoPaper_NoStamp | ki_NoPaper_NoPlace | ki_NoPaper_NoPaper | ki_NoPaper_NoStretch | ki_NoPaper_Missing | ki_NoPaper_NoValue | ki_NoPaper_NoKey | ki_NoPaper_NoBits | ki_NoPaper_NoTerm | ki_NoPaper_Parted | ki_NoPaper_Broken | ki_NoPaper_NoPart | ki_NoPaper_NoRow | ki_NoPaper_NoName | ki_NoPaper_NoWay | ki_NoPaper_Silent | ki_NoPaper_Elder | ki_NoPaper_Unsealed | ki_NoPaper_NoHead | ki_NoPaper_ValueError | ki_NoStretch_NoStamp | ki_NoStretch_NoPlace | ki_NoStretch_NoPaper | ki_NoStretch_NoStretch | ki_NoStretch_Missing | ki_NoStretch_NoValue | ki_NoStretch_NoKey | ki_NoStretch_NoBits | ki_NoStretch_NoTerm | ki_NoStretch_Parted | ki_NoStretch_Broken | ki_NoStretch_NoPart | ki_NoStretch_NoRow | ki_NoStretch_NoName | ki_NoStretch_NoWay | ki_NoStretch_Silent | ki_NoStretch_Elder | ki_NoStretch_Unsealed | ki_NoStretch_NoHead | ki_NoStretch_ValueError | ki_Missing_NoStamp | ki_Missing_NoPlace | ki_Missing_NoPaper | ki_Missing_NoStretch | ki_Missing_Missing | ki_Missing_NoValue | ki_Missing_NoKey | ki_Missing_NoBits | ki_Missing_NoTerm | ki_Missing_Parted | ki_Missing_Broken | ki_Missing_NoPart | ki_Missing_NoRow | ki_Missing_NoName | ki_Missing_NoWay | ki_Missing_Silent | ki_Missing_Elder | ki_Missing_Unsealed | ki_Missing_NoHead | ki_Missing_ValueError | ki_NoValue_NoStamp | ki_NoValue_NoPlace | ki_NoValue_NoPaper | ki_NoValue_NoStretch | ki_NoValue_Missing | ki_NoValue_NoValue | ki_NoValue_NoKey | ki_NoValue_NoBits | ki_NoValue_NoTerm | ki_NoValue_Parted | ki_NoValue_Broken | ki_NoValue_NoPart | ki_NoValue_NoRow | ki_NoValue_NoName | ki_NoValue_NoWay | ki_NoValue_Silent | ki_NoValue_Elder | ki_NoValue_Unsealed | ki_NoValue_NoHead | ki_NoValue_ValueError | ki_NoKey_NoStamp | ki_NoKey_NoPlace | ki_NoKey_NoPaper | ki_NoKey_NoStretch | ki_NoKey_Missing | ki_NoKey_NoValue | ki_NoKey_NoKey | ki_NoKey_NoBits | ki_NoKey_NoTerm | ki_NoKey_Parted | ki_NoKey_Broken | ki_NoKey_NoPart | ki_NoKey_NoRow | ki_NoKey_NoName | ki_NoKey_NoWay | ki_NoKey_Silent | ki_NoKey_Elder | ki_NoKey_Unsealed | ki_NoKey_NoHead | ki_NoKey_ValueError | ki_NoBits_NoStamp | ki_NoBits_NoPlace | ki_NoBits_NoPaper | ki_NoBits_NoStretch | ki_NoBits_Missing | ki_NoBits_NoValue | ki_NoBits_NoKey | ki_NoBits_NoBits | ki_NoBits_NoTerm | ki_NoBits_Parted | ki_NoBits_Broken | ki_NoBits_NoPart | ki_NoBits_NoRow | ki_NoBits_NoName | ki_NoBits_NoWay | ki_NoBits_Silent | ki_NoBits_Elder | ki_NoBits_Unsealed | ki_NoBits_NoHead | ki_NoBits_ValueError | ki_NoTerm_NoStamp | ki_NoTerm_NoPlace | ki_NoTerm_NoPaper | ki_NoTerm_NoStretch | ki_NoTerm_Missing | ki_NoTerm_NoValue | ki_NoTerm_NoKey | ki_NoTerm_NoBits | ki_NoTerm_NoTerm | ki_NoTerm_Parted | ki_NoTerm_Broken | ki_NoTerm_NoPart | ki_NoTerm_NoRow | ki_NoTerm_NoName | ki_NoTerm_NoWay | ki_NoTerm_Silent | ki_NoTerm_Elder | ki_NoTerm_Unsealed | ki_NoTerm_NoHead | ki_NoTerm_ValueError | ki_NoRow_NoStamp | ki_NoRow_NoPlace | ki_NoRow_NoPaper | ki_NoRow_NoStretch | ki_NoRow_Missing | ki_NoRow_NoValue | ki_NoRow_NoKey | ki_NoRow_NoBits | ki_NoRow_NoTerm | ki_NoRow_Parted | ki_NoRow_Broken | ki_NoRow_NoPart | ki_NoRow_NoRow | ki_NoRow_NoName | ki_NoRow_NoWay | ki_NoRow_Silent | ki_NoRow_Elder | ki_NoRow_Unsealed | ki_NoRow_NoHead | ki_NoRow_ValueError | ki_NoName_NoStamp | ki_NoName_NoPlace | ki_NoName_NoPaper | ki_NoName_NoStretch | ki_NoName_Missing | ki_NoName_NoValue | ki_NoName_NoKey | ki_NoName_NoBits | ki_NoName_NoTerm | ki_NoName_Parted | ki_NoName_Broken | ki_NoName_NoPart | ki_NoName_NoRow | ki_NoName_NoName | ki_NoName_NoWay | ki_NoName_Silent | ki_NoName_Elder | ki_NoName_Unsealed | ki_NoName_NoHead | ki_NoName_ValueError | ki_NoWay_NoStamp | ki_NoWay_NoPlace | ki_NoWay_NoPaper | ki_NoWay_NoStretch | ki_NoWay_Missing | ki_NoWay_NoValue | ki_NoWay_NoKey | ki_NoWay_NoBits | ki_NoWay_NoTerm | ki_NoWay_Parted | ki_NoWay_Broken | ki_NoWay_NoPart | ki_NoWay_NoRow | ki_NoWay_NoName | ki_NoWay_NoWay | ki_NoWay_Silent | ki_NoWay_Elder | ki_NoWay_Unsealed | ki_NoWay_NoHead | ki_NoWay_ValueError | ki_Silent_NoStamp | ki_Silent_NoPlace | ki_Silent_NoPaper | ki_Silent_NoStretch | ki_Silent_Missing | ki_Silent_NoValue | ki_Silent_NoKey | ki_Silent_NoBits | ki_Silent_NoTerm | ki_Silent_Parted | ki_Silent_Broken | ki_Silent_NoPart | ki_Silent_NoRow | ki_Silent_NoName | ki_Silent_NoWay | ki_Silent_Silent | ki_Silent_Elder | ki_Silent_Unsealed | ki_Silent_NoHead | ki_Silent_ValueError | ki_Elder_NoStamp | ki_Elder_NoPlace | ki_Elder_NoPaper | ki_Elder_NoStretch | ki_Elder_Missing | ki_Elder_NoValue | ki_Elder_NoKey | ki_Elder_NoBits | ki_Elder_NoTerm | ki_Elder_Parted | ki_Elder_Broken | ki_Elder_NoPart | ki_Elder_NoRow | ki_Elder_NoName | ki_Elder_NoWay | ki_Elder_Silent | ki_Elder_Elder | ki_Elder_Unsealed | ki_Elder_NoHead | ki_Elder_ValueError | ki_Unsealed_NoStamp | ki_Unsealed_NoPlace | ki_Unsealed_NoPaper | ki_Unsealed_NoStretch | ki_Unsealed_Missing | ki_Unsealed_NoValue | ki_Unsealed_NoKey | ki_Unsealed_NoBits | ki_Unsealed_NoTerm | ki_Unsealed_Parted | ki_Unsealed_Broken | ki_Unsealed_NoPart | ki_Unsealed_NoRow | ki_Unsealed_NoName | ki_Unsealed_NoWay | ki_Unsealed_Silent | ki_Unsealed_Elder | ki_Unsealed_Unsealed | ki_Unsealed_NoHead | ki_Unsealed_ValueError | ki_NoHead_NoStamp | ki_NoHead_NoPlace | ki_NoHead_NoPaper | ki_NoHead_NoStretch | ki_NoHead_Missing | ki_NoHead_NoValue | ki_NoHead_NoKey | ki_NoHead_NoBits | ki_NoHead_NoTerm | ki_NoHead_Parted | ki_NoHead_Broken | ki_NoHead_NoPart | ki_NoHead_NoRow | ki_NoHead_NoName | ki_NoHead_NoWay | ki_NoHead_Silent | ki_NoHead_Elder | ki_NoHead_Unsealed | ki_NoHead_NoHead | ki_NoHead_ValueError | ki_NoPart_NoStamp | ki_NoPart_NoPlace | ki_NoPart_NoPaper | ki_NoPart_NoStretch | ki_NoPart_Missing | ki_NoPart_NoValue | ki_NoPart_NoKey | ki_NoPart_NoBits | ki_NoPart_NoTerm | ki_NoPart_Parted | ki_NoPart_Broken | ki_NoPart_NoPart | ki_NoPart_NoRow | ki_NoPart_NoName | ki_NoPart_NoWay | ki_NoPart_Silent | ki_NoPart_Elder | ki_NoPart_Unsealed | ki_NoPart_NoHead | ki_NoPart_ValueError | ki_Broken_NoStamp | ki_Broken_NoPlace | ki_Broken_NoPaper | ki_Broken_NoStretch | ki_Broken_Missing | ki_Broken_NoValue | ki_Broken_NoKey | ki_Broken_NoBits | ki_Broken_NoTerm | ki_Broken_Parted | ki_Broken_Broken | ki_Broken_NoPart | ki_Broken_NoRow | ki_Broken_NoName | ki_Broken_NoWay | ki_Broken_Silent | ki_Broken_Elder | ki_Broken_Unsealed | ki_Broken_NoHead | ki_Broken_ValueError | ki_Parted_NoStamp | ki_Parted_NoPlace | ki_Parted_NoPaper | ki_Parted_NoStretch | ki_Parted_Missing | ki_Parted_NoValue | ki_Parted_NoKey | ki_Parted_NoBits | ki_Parted_NoTerm | ki_Parted_Parted | ki_Parted_Broken | ki_Parted_NoPart | ki_Parted_NoRow | ki_Parted_NoName | ki_Parted_NoWay | ki_Parted_Silent | ki_Parted_Elder | ki_Parted_Unsealed | ki_Parted_NoHead | ki_Parted_ValueError => kit_is
  case z_ValueError | z_isinstance | z_range | z_str => k_is
  case nt | td => kernel_rfl

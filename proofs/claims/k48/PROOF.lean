import PyProof.Rows.All
import Wide.All
import OpenK.AllK
import Wide.FinOn
import Lean
import PyProof.EqAt
import PyProof.EqKinds
import PyProof.TupleCall
import PyProof.P3In
import KE.KDictLaws
import KE.KTabLook
import KE.KRevIter
import KE.KItemsList
import PyProof.TupleOfGen
import PySem.Challenge.RW_rootstamp_k48_whole_one_paper_of_a_place
set_option Elab.async false
set_option linter.all false
set_option maxRecDepth 100000
set_option maxHeartbeats 4000000
namespace L2
open PySem PySem.Spec PyProof.Rows
abbrev Key := Sum Int Str
def iL : Key → Value → Bool
 | .inl k, v => Value.isInt k v
 | .inr x, v => Value.isStrOf x v
def Ej (w : World) : Key → Int
 | .inl k => hashInt k
 | .inr x => hashStr w x
theorem bU : ∀ {k : Key} {v : Value}, iL k v = true → (∃ i t, k = Sum.inl i ∧ v = Value.int i t) ∨ (∃ x t, k = Sum.inr x ∧ v = Value.str x t)
  | .inl i, v, h => by
    obtain ⟨t, e⟩ := Value.isInt_shape (k := i) (v := v) h
    exact .inl ⟨i, t, rfl, e⟩
  | .inr x, v, h => by
    obtain ⟨t, e⟩ := Value.isStrOf_shape (x := x) (v := v) h
    exact .inr ⟨x, t, rfl, e⟩
theorem sH (i : Int) (t : Tok) : iL (.inl i) (.int i t) = true := by simp [iL, Value.isInt]
theorem qN (x : Str) (t : Tok) : iL (.inr x) (.str x t) = true := by simp [iL, Value.isStrOf]
theorem As (a b : Int) : decide ((Sum.inl a : Key) = Sum.inl b) = (a == b) := by
 by_cases e : a = b
 · subst e; simp
 · have h : ¬ (Sum.inl a : Key) = Sum.inl b := fun q => e (Sum.inl.inj q)
   rw [decide_eq_false h]
   exact (beq_eq_false_iff_ne.mpr e).symm
theorem zL (a b : Str) : decide ((Sum.inr a : Key) = Sum.inr b) = decide (a = b) := by
 by_cases e : a = b
 · subst e; simp
 · have h : ¬ (Sum.inr a : Key) = Sum.inr b := fun q => e (Sum.inr.inj q)
   rw [decide_eq_false h, decide_eq_false e]
theorem zn (a : Int) (b : Str) : decide ((Sum.inl a : Key) = Sum.inr b) = false := decide_eq_false (fun q => nomatch q)
theorem zF (a : Str) (b : Int) : decide ((Sum.inr a : Key) = Sum.inl b) = false := decide_eq_false (fun q => nomatch q)
def bu (prog : Program) (w : World) : PySem.KeyKind prog w Key where
 is := iL
 hash := Ej w
 inj := fun v a b ha hb => by
  rcases bU ha with ⟨i, t, rfl, rfl⟩ | ⟨x, t, rfl, rfl⟩
  · rcases bU hb with ⟨j, u, rfl, e⟩ | ⟨y, u, rfl, e⟩
    · injection e with e1 _; rw [e1]
    · exact nomatch e
  · rcases bU hb with ⟨j, u, rfl, e⟩ | ⟨y, u, rfl, e⟩
    · exact nomatch e
    · injection e with e1 _; rw [e1]
 byValue := fun k v h => by
  rcases bU h with ⟨i, t, rfl, rfl⟩ | ⟨x, t, rfl, rfl⟩ <;> rfl
 pyHash := fun hv h => by
  rcases bU hv with ⟨i, t, rfl, rfl⟩ | ⟨x, t, rfl, rfl⟩
  · exact wpAny_pyHash_int h
  · exact wpAny_pyHash_str h
 eqBool := fun hu hv h => by
  rcases bU hu with ⟨i, t, rfl, rfl⟩ | ⟨x, t, rfl, rfl⟩
  · rcases bU hv with ⟨j, u, rfl, rfl⟩ | ⟨y, u, rfl, rfl⟩
    · rw [As] at h; exact wpAny_eqBool_int h
    · rw [zn] at h; exact SeqAt.EqAt.int_str i t y u _ _ _ _ h
  · rcases bU hv with ⟨j, u, rfl, rfl⟩ | ⟨y, u, rfl, rfl⟩
    · rw [zF] at h; exact SeqAt.EqAt.str_int x t j u _ _ _ _ h
    · rw [zL] at h; exact wpAny_eqBool_str h
 «strs» := fun k x t v h => by
  rcases bU h with ⟨i, u, rfl, e⟩ | ⟨y, u, rfl, e⟩
  · exact nomatch e
  · injection e with e1 _
    subst e1
    cases v <;> rfl
theorem nU (prog : Program) (w : World) (i : Int) (t : Tok) : (bu prog w).is (.inl i) (.int i t) = true := sH i t
theorem nX (prog : Program) (w : World) (x : Str) (t : Tok) : (bu prog w).is (.inr x) (.str x t) = true := qN x t
end L2
namespace L2
open PySem PySem.Spec PyProof.Rows
inductive V where
 | non | bl (b : Bool) | int (i : Int) | str (x : Str) | byt (b : Array UInt8) | flt (b : UInt64) | ref (a : Addr) | ty (n : String)
 deriving DecidableEq
def aC : V → Value → Prop
 | .non, u => u = Value.none
 | .bl b, u => u = Value.bool b
 | .int i, u => ∃ t, u = Value.int i t
 | .str x, u => ∃ t, u = Value.str x t
 | .byt b, u => ∃ t, u = Value.bytes b t
 | .flt b, u => ∃ t, u = Value.float b t
 | .ref a, u => u = Value.ref a
 | .ty n, u => u = Value.type n
abbrev aA : List V → List Value → Prop := Paired aC
theorem aA.length {xs : List V} {us : List Value} (r : aA xs us) : xs.length = us.length := Paired.length r
theorem aA.get : ∀ {xs : List V} {us : List Value} {i : Nat} {x : V}, aA xs us → xs[i]? = some x → ∃ u, us[i]? = some u ∧ aC x u
  | _, _, _, _, .nil, e => by simp at e
  | _, _, 0, _, .cons r _, e => by simp at e; subst e; exact ⟨_, rfl, r⟩
  | _, _, i + 1, x, .cons _ t, e => by
    obtain ⟨u, h1, h2⟩ := aA.get (i := i) (x := x) t (by simpa using e)
    exact ⟨u, by simpa using h1, h2⟩
theorem aA.set {x : V} {u : Value} (r : aC x u) : ∀ {xs : List V} {us : List Value} (i : Nat), aA xs us → aA (xs.set i x) (us.set i u)
 | _, _, _, .nil => .nil
 | _, _, 0, .cons _ t => .cons r t
 | _, _, i + 1, .cons q t => .cons q (aA.set r i t)
theorem aA.append : ∀ {xs ys : List V} {us ws : List Value}, aA xs us → aA ys ws → aA (xs ++ ys) (us ++ ws)
 | _, _, _, _, .nil, s => s
 | _, _, _, _, .cons r t, s => .cons r (aA.append t s)
theorem aA.take : ∀ {xs : List V} {us : List Value} (n : Nat), aA xs us → aA (xs.take n) (us.take n)
 | _, _, 0, _ => .nil
 | _, _, _ + 1, .nil => .nil
 | _, _, n + 1, .cons r t => .cons r (aA.take n t)
theorem aA.drop : ∀ {xs : List V} {us : List Value} (n : Nat), aA xs us → aA (xs.drop n) (us.drop n)
 | _, _, 0, r => r
 | _, _, _ + 1, .nil => .nil
 | _, _, n + 1, .cons _ t => aA.drop n t
def bJ : Option V → Option Value → Prop
 | some v, some u => aC v u
 | none, none => True
 | _, _ => False
def KV {κ : Type} : List (κ × V) → List (κ × Value) → Prop := Paired fun (p : κ × V) (q : κ × Value) => p.1 = q.1 ∧ aC p.2 q.2
def kV : Key → V
 | .inl i => .int i
 | .inr x => .str x
inductive HO where
 | lst (xs : List V)
 | tup (xs : List V)
 | dK (kvs : List (Key × V)) | dT (kvs : List (List Key × V))
 | set (S : Int → Bool) (n : Nat)
 | ins (C dx : Addr) (fs : List (Str × V))
 | own (x : Addr)
 | xd (fs : List (Str × V))
 | met (f x : Addr)
 | rng (lo hi : Int)
 | frz (o : Obj) (u : HO)
 | tbl (ps : Array Value)
 | ext (φ : Heap → Prop)
abbrev Hp := Addr → Option HO
def upd (H : Hp) (a : Addr) (o : HO) : Hp := fun b => if b = a then some o else H b
theorem am {H : Hp} {a : Addr} {o : HO} : upd H a o a = some o := by unfold upd; rw [if_pos rfl]
theorem aj {H : Hp} {a b : Addr} {o : HO} (h : b ≠ a) : upd H a o b = H b := by unfold upd; rw [if_neg h]
theorem dI {H : Hp} {a : Addr} {o u : HO} : upd (upd H a o) a u = upd H a u := by
 funext b; unfold upd; split <;> rfl
theorem bN {H : Hp} {a b : Addr} {o u : HO} (h : H a = some o) (h' : H b = some u) (d : o ≠ u) : a ≠ b := by
 intro e; subst e; rw [h] at h'; exact d (Option.some.inj h')
theorem aq {H : Hp} {a b : Addr} {o : HO} (h : H a = some o) (h' : H b = none) : a ≠ b := by
 intro e; subst e; rw [h] at h'; cases h'
section
variable (P : Program) (w : World)
def aO (H : Hp) (h : Heap) (a : Addr) : HO → Prop
 | .lst xs => xs.length ≤ sizeLine ∧ ∃ (its : List Value) (n : Nat), aA xs its ∧ h.get? a = some { cls := .type "list", data := .seq its.toArray n }
 | .tup xs => xs.length ≤ sizeLine ∧ ∃ its : List Value, aA xs its ∧ IsTup h a its.toArray
 | .dK kvs => kvs.length ≤ sizeLine ∧ (a == sysModules) = false ∧ ∃ vs, KV kvs vs ∧ h.DictOf (bu P w) a vs
 | .dT kvs => kvs.length ≤ sizeLine ∧ (a == sysModules) = false ∧ ∃ xs : List (List Key × Addr × Value),
  Paired (fun (p : List Key × V) (q : List Key × Addr × Value) => p.1 = q.1 ∧ H q.2.1 = some (.tup (p.1.map kV)) ∧ aC p.2 q.2.2) kvs xs ∧
  ∃ o es ep, h.get? a = some o ∧ o.ExactDict ∧ o.data = .dict es ep ∧ es.toList = xs.map (entryOfKey (tupleKind (bu P w))) ∧ (xs.map (·.1)).Nodup
 | .set S n => h.SetOf (intKind P w) a S n
 | .ins C dx fs => H dx = some (.own a) ∧ fs.length ≤ 1000 ∧ dx ≠ a ∧ h.get? a = some (W.instObj C dx) ∧
  ∃ mA, h.Ns1 dx mA ∧ (∀ f, bJ (fs.lookup f) (mA f)) ∧ PySem.Within mA (fs.map (·.1))
 | .own _ => ∃ o, h.get? a = some o
 | .xd fs => ∃ mA, h.Ns1 a mA ∧ ∀ f, bJ (fs.lookup f) (mA f)
 | .rng lo hi => ∃ t u v, h.get? a = some { cls := .type "range", data := .fields #[.int lo t, .int hi u, .int 1 v] }
 | .frz o u => h.get? a = some o ∧ aO H h a u
 | .tbl ps => h.get? a = some { cls := .none, data := .fields ps }
 | .met f x => h.get? a = some (W.methodObj (.ref f) (.ref x))
 | .ext φ => φ h ∧ (∃ o, h.get? a = some o) ∧ ∀ h1 h2 : Heap, φ h1 → (∀ o, h1.get? a = some o → h2.get? a = some o) → φ h2
def HOk (H : Hp) (h : Heap) : Prop := ∀ a o, H a = some o → aO P w H h a o
end
section
variable {P : Program} {w : World} {H H' : Hp} {h h' : Heap} {a : Addr} {o : HO}
theorem aO.lt (x : aO P w H h a o) : a < h.objs.size := by
 cases o with
 | lst xs => obtain ⟨_, _, _, _, e⟩ := x; exact Heap.lt_size e
 | tup xs => obtain ⟨_, _, _, p⟩ := x; exact p.lt
 | dK kvs => obtain ⟨_, _, _, _, o, _, _, e, _⟩ := x; exact Heap.lt_size e
 | dT kvs => obtain ⟨_, _, _, _, o, _, _, e, _⟩ := x; exact Heap.lt_size e
 | set S n => obtain ⟨o, _, _, _, e, _⟩ := x; exact Heap.lt_size e
 | ins C dx fs => obtain ⟨_, _, _, e, _⟩ := x; exact Heap.lt_size e
 | own y => obtain ⟨_, e⟩ := x; exact Heap.lt_size e
 | xd fs => obtain ⟨_, ⟨_, _, _, e, _⟩, _⟩ := x; exact Heap.lt_size e
 | rng lo hi => obtain ⟨_, _, _, e⟩ := x; exact Heap.lt_size e
 | frz ob u => obtain ⟨e, _⟩ := x; exact Heap.lt_size e
 | tbl ps => exact Heap.lt_size (show h.get? a = some _ from x)
 | met f y => exact Heap.lt_size (show h.get? a = some _ from x)
 | ext φ => obtain ⟨_, ⟨_, e⟩, _⟩ := x; exact Heap.lt_size e
theorem Paired.mapP {α β : Type} {F G : α → β → Prop} : ∀ {l₁ : List α} {l₂ : List β}, Paired F l₁ l₂ → (∀ a b, F a b → G a b) → Paired G l₁ l₂
 | _, _, .nil, _ => .nil
 | _, _, .cons r t, f => .cons (f _ _ r) (Paired.mapP t f)
theorem aO.stay (x : aO P w H h a o) (k : ∀ b u, (b = a ∨ H b = some (.own a)) → h.get? b = some u → h'.get? b = some u)
    (ho : ∀ b, H b = some (.own a) → H' b = some (.own a)) (ht : ∀ b xs, H b = some (.tup xs) → H' b = some (.tup xs)) : aO P w H' h' a o := by
  induction o with
  | lst xs => obtain ⟨z, its, n, r, e⟩ := x; exact ⟨z, its, n, r, k _ _ (.inl rfl) e⟩
  | tup xs => obtain ⟨z, its, r, ob, e, c⟩ := x; exact ⟨z, its, r, ob, k _ _ (.inl rfl) e, c⟩
  | dK kvs => obtain ⟨z, y, vs, r, ob, es, ep, e, c⟩ := x; exact ⟨z, y, vs, r, ob, es, ep, k _ _ (.inl rfl) e, c⟩
  | dT kvs =>
    obtain ⟨z, y, xs, r, ob, es, ep, e, c⟩ := x
    exact ⟨z, y, xs, Paired.mapP r fun p q z => ⟨z.1, ht _ _ z.2.1, z.2.2⟩, ob, es, ep, k _ _ (.inl rfl) e, c⟩
  | set S n => obtain ⟨ob, es, ep, t, e, c⟩ := x; exact ⟨ob, es, ep, t, k _ _ (.inl rfl) e, c⟩
  | ins C dx fs =>
    obtain ⟨d, z, ne, e, mA, ⟨od, es, ep, e2, c⟩, r⟩ := x
    exact ⟨ho _ d, z, ne, k _ _ (.inl rfl) e, mA, ⟨od, es, ep, k _ _ (.inr d) e2, c⟩, r⟩
  | own y => obtain ⟨ob, e⟩ := x; exact ⟨ob, k _ _ (.inl rfl) e⟩
  | xd fs => obtain ⟨mA, ⟨od, es, ep, e, c⟩, r⟩ := x; exact ⟨mA, ⟨od, es, ep, k _ _ (.inl rfl) e, c⟩, r⟩
  | rng lo hi => obtain ⟨t, u, v, e⟩ := x; exact ⟨t, u, v, k _ _ (.inl rfl) e⟩
  | frz ob u ih => obtain ⟨e, q⟩ := x; exact ⟨k _ _ (.inl rfl) e, ih q⟩
  | tbl ps =>
    have e : h.get? a = some { cls := .none, data := .fields ps } := x
    show h'.get? a = some { cls := .none, data := .fields ps }
    exact k a _ (.inl rfl) e
  | met f y =>
    have e : h.get? a = some (W.methodObj (.ref f) (.ref y)) := x
    show h'.get? a = some (W.methodObj (.ref f) (.ref y))
    exact k a _ (.inl rfl) e
  | ext φ => obtain ⟨p, ⟨o, e⟩, st⟩ := x; exact ⟨st _ _ p fun o q => k _ _ (.inl rfl) q, ⟨o, k _ _ (.inl rfl) e⟩, st⟩
theorem HOk.lt (x : HOk P w H h) (e : H a = some o) : a < h.objs.size := (x a o e).lt
theorem HOk.fresh (x : HOk P w H h) (e : h.objs.size ≤ a) : H a = none := by
 cases q : H a with
 | none => rfl
 | some u => exact absurd (Nat.lt_of_lt_of_le (x.lt q) e) (Nat.lt_irrefl _)
theorem HOk.kept (x : HOk P w H h) (k : ∀ b u, h.get? b = some u → h'.get? b = some u) : HOk P w H h' := fun a o e =>
 (x a o e).stay (fun b u _ q => k b u q) (fun _ q => q) fun _ _ q => q
theorem HOk.laid (x : HOk P w H h) (k : ∀ b u, h.get? b = some u → h'.get? b = some u) (hp : h.objs.size ≤ a) (new : aO P w (upd H a o) h' a o) : HOk P w (upd H a o) h' := fun b u e => by
 have hn := x.fresh hp
 by_cases hb : b = a
 · subst hb; rw [am] at e; cases e; exact new
 · rw [aj hb] at e
   exact (x b u e).stay (fun c v _ q => k c v q) (fun c q => by rw [aj (aq q hn)]; exact q) fun c xs q => by rw [aj (aq q hn)]; exact q
end
def Rd (H : Hp) (a : Addr) (u : HO) : Prop := H a = some u ∨ ∃ o, H a = some (.frz o u)
theorem Rd.ok {P : Program} {w : World} {H : Hp} {h : Heap} {a : Addr} {u : HO} (r : Rd H a u) (x : HOk P w H h) : aO P w H h a u := by
 rcases r with r | ⟨o, r⟩
 · exact x a u r
 · obtain ⟨_, q⟩ := x a _ r
   exact q
def Mut : Option HO → Prop
 | some (.lst _) => True
 | some (.dK _) => True
 | some (.dT _) => True
 | some (.set _ _) => True
 | some (.ins _ _ _) => True
 | some (.ext _) => True
 | _ => False
section
variable {P : Program} {w : World} {H : Hp} {h h' : Heap} {x e : Addr} {o' : HO}
theorem HOk.write (ok : HOk P w H h) (mu : Mut (H x)) (he : e = x ∨ H e = some (.own x)) (k : ∀ b u, b ≠ e → h.get? b = some u → h'.get? b = some u) (heo : ∃ u, h'.get? e = some u)
   (new : aO P w (upd H x o') h' x o') : HOk P w (upd H x o') h' := fun b u q => by
 have nown : ∀ c y, H c = some (.own y) → c ≠ x := fun c y r z => by subst z; rw [r] at mu; exact mu
 have ntup : ∀ c xs, H c = some (.tup xs) → c ≠ x := fun c xs r z => by subst z; rw [r] at mu; exact mu
 by_cases hb : b = x
 · subst hb; rw [am] at q; cases q; exact new
 · rw [aj hb] at q
   by_cases hbe : b = e
   · have q' : H b = some (.own x) := by
       rcases he with z | z
       · exact absurd (hbe.trans z) hb
       · rw [hbe]; exact z
     rw [q] at q'; cases q'
     obtain ⟨v, hv⟩ := heo
     exact ⟨v, by rw [hbe]; exact hv⟩
   · refine (ok b u q).stay (fun c v hc r => k c v ?_ r) (fun c r => by rw [aj (nown c b r)]; exact r) fun c xs r => by rw [aj (ntup c xs r)]; exact r
     rcases hc with rfl | hc
     · exact hbe
     · rintro rfl
       rcases he with z | z
       · exact nown c b hc z
       · rw [hc] at z; cases z; exact hb rfl
end
structure Un (fs ex : List Addr) (H H' : Hp) (h h' : Heap) : Prop where
 keep : ∀ b o, h.get? b = some o → H b = none → b ∉ fs → b ∉ ex → h'.get? b = some o
 slot : ∀ b o, h.get? b = some o → H b = none → b ∈ fs → b ∉ ex → ∃ sl, h'.get? b = some { o with slots := sl }
 free : ∀ b o, h.get? b = some o → H b = none → b ∉ ex → H' b = none
 there : ∀ b o, h.get? b = some o → b ∉ ex → ∃ o', h'.get? b = some o'
 tups : ∀ b xs, H b = some (.tup xs) → H' b = some (.tup xs)
 frzs : ∀ b o u, H b = some (.frz o u) → H' b = some (.frz o u)
 tbls : ∀ b ps, H b = some (.tbl ps) → ∃ more, H' b = some (.tbl (ps ++ more))
section
variable {fs fs' ex ex' : List Addr} {H H1 H2 : Hp} {h h1 h2 h' : Heap} {a x e : Addr} {o : HO}
theorem Un.any (u : Un fs ex H H1 h h1) {b : Addr} {ob : Obj} (q : h.get? b = some ob) (n : H b = none) (hx : b ∉ ex) : ∃ sl, h1.get? b = some { ob with slots := sl } := by
 by_cases hb : b ∈ fs
 · exact u.slot b ob q n hb hx
 · exact ⟨ob.slots, u.keep b ob q n hb hx⟩
theorem Un.trans (a : Un fs ex H H1 h h1) (b : Un fs ex H1 H2 h1 h2) : Un fs ex H H2 h h2 where
 keep := fun c ob q n hc hx => b.keep c ob (a.keep c ob q n hc hx) (a.free c ob q n hx) hc hx
 slot := fun c ob q n hc hx => by
  obtain ⟨sl, e1⟩ := a.slot c ob q n hc hx
  obtain ⟨sl', e2⟩ := b.slot c _ e1 (a.free c ob q n hx) hc hx
  exact ⟨sl', e2⟩
 free := fun c ob q n hx => by
  obtain ⟨o', e1⟩ := a.there c ob q hx
  exact b.free c o' e1 (a.free c ob q n hx) hx
 there := fun c ob q hx => by
  obtain ⟨o', e1⟩ := a.there c ob q hx
  exact b.there c o' e1 hx
 tups := fun c xs q => b.tups c xs (a.tups c xs q)
 frzs := fun c ob xs q => b.frzs c ob xs (a.frzs c ob xs q)
 tbls := fun c ps q => by
  obtain ⟨m1, e1⟩ := a.tbls c ps q
  obtain ⟨m2, e2⟩ := b.tbls c _ e1
  exact ⟨m1 ++ m2, by rw [e2, Array.append_assoc]⟩
theorem Un.kept (k : ∀ b u, h.get? b = some u → h'.get? b = some u) : Un fs ex H H h h' :=
 ⟨fun b ob q _ _ _ => k b ob q, fun b ob q _ _ _ => ⟨ob.slots, k b ob q⟩, fun _ _ _ n _ => n, fun b ob q _ => ⟨ob, k b ob q⟩, fun _ _ q => q, fun _ _ _ q => q, fun _ ps q => ⟨#[], by rw [q]; simp⟩⟩
theorem Un.refl : Un fs ex H H h h := Un.kept fun _ _ q => q
theorem Un.laid (k : ∀ b u, h.get? b = some u → h'.get? b = some u) (hp : h.objs.size ≤ a) (hn : H a = none) : Un fs ex H (upd H a o) h h' where
 keep := fun b u q _ _ _ => k b u q
 slot := fun b u q _ _ _ => ⟨u.slots, k b u q⟩
 free := fun b u q n _ => by rw [aj (Nat.ne_of_lt (Nat.lt_of_lt_of_le (Heap.lt_size q) hp))]; exact n
 there := fun b u q _ => ⟨u, k b u q⟩
 tups := fun b xs q => by rw [aj (aq q hn)]; exact q
 frzs := fun b u xs q => by rw [aj (aq q hn)]; exact q
 tbls := fun b ps q => ⟨#[], by rw [aj (aq q hn), q]; simp⟩
theorem Un.write (mu : Mut (H x)) (he : e = x ∨ H e = some (.own x)) (k : ∀ b u, b ≠ e → h.get? b = some u → h'.get? b = some u) (heo : ∃ u, h'.get? e = some u) : Un fs ex H (upd H x o) h h' := by
 have hx : ∀ b, H b = none → b ≠ x := fun b n z => by subst z; rw [n] at mu; exact mu
 have hb : ∀ b, H b = none → b ≠ e := fun b n z => by
   subst z
   rcases he with r | r
   · exact hx b n r
   · rw [n] at r; cases r
 have hm : ∀ b u, H b = some u → ¬ Mut (some u) → b ≠ x := fun b u q nm z => by subst z; rw [q] at mu; exact nm mu
 refine ⟨fun b u q n _ _ => k b u (hb b n) q, fun b u q n _ _ => ⟨u.slots, k b u (hb b n) q⟩, fun b u q n _ => by rw [aj (hx b n)]; exact n, fun b u q _ => ?_,
   fun b xs q => by rw [aj (hm b _ q fun z => z)]; exact q, fun b u xs q => by rw [aj (hm b _ q fun z => z)]; exact q, fun b ps q => ⟨#[], by rw [aj (hm b _ q fun z => z), q]; simp⟩⟩
 by_cases hbe : b = e
 · subst hbe; exact heo
 · exact ⟨u, k b u hbe q⟩
end
def trk (h : Heap) (H : Hp) : List Addr := (List.range h.objs.size).filter fun a => (H a).isSome
def fw (h : Heap) (H : Hp) : Heap := W.hideAll h (trk h H)
theorem su (h : Heap) (H : Hp) : (fw h H).objs.size = h.objs.size := W.hideAll_size _ _
theorem tG {h : Heap} {H : Hp} {b : Addr} {o : Obj} (e : h.get? b = some o) (n : H b = none) : (fw h H).get? b = some o :=
 W.hideAll_get _ e fun hm => by
  have q : (H b).isSome = true := (List.mem_filter.mp hm).2
  rw [n] at q; simp at q
theorem wX {h : Heap} {H : Hp} {b : Addr} {o : Obj} (e : (fw h H).get? b = some o) : h.get? b = some o ∧ H b = none := by
  have e' : h.get? b = some o := W.of_hideAll (trk h H) e
  refine ⟨e', ?_⟩
  cases q : H b with
  | none => rfl
  | some x =>
    have hm : b ∈ trk h H := List.mem_filter.mpr ⟨List.mem_range.mpr (Heap.lt_size e'), by simp [q]⟩
    have z : (fw h H).get? b = none := W.hideAll_none (trk h H) hm
    rw [z] at e; cases e
def xo (g h : Heap) (L : Addr) : List (Addr × Obj) := (List.range h.objs.size).filterMap fun a => if a = L ∨ (g.get? a).isSome = true then none else (h.get? a).map fun o => (a, o)
def bP (g h : Heap) (L d : Addr) : List (Addr × Obj) := (xo g h L).filter fun p => decide (p.1 ≠ d)
end L2
namespace L2
open PySem PySem.Spec PyProof.Rows
structure Mod (K : W.Frag) (mg : Str → Option Value) (base : Heap) : Prop where
 kin : K.In base
 glob : base.Ns mainGlobals mg
 blt : ∃ mb, base.Ns builtinsNs mb ∧ ∀ x : Str, x ≠ "__name__" → mb x = bootBuiltins x
 nolimit : base.NoLimit
set_option genInjectivity false in
set_option genSizeOf false in
structure Cx where
 prog : Program
 w : World
 K : W.Frag
 mg : Str → Option Value
 base : Heap
 A : Around
 N : List Str
 s₀ : Shared
 H₀ : Hp
 env : Env
 outer : List Env
 stack : List Env
 ex : List Addr
 fn : Str → Bool
 calm : Bool
 pn : List (Addr × Obj)
 xe : Value → Shared → Prop
def frs (l : List Env) : List Addr := l.filterMap (·.frame)
abbrev Cx.fs (X : Cx) : List Addr := frs X.outer
def Vis (sc : Scope) (x : Str) : Prop := sc.names.lookup x = some .local ∨ sc.names.lookup x = some .cell ∨ sc.names.lookup x = some .free
def Loc (sc : Scope) (x : Str) : Prop := sc.names.lookup x = some .local ∨ sc.names.lookup x = some .cell
def ze (env : Env) (h : Heap) (m : Str → Option Value) (x : Str) (u : Value) : Prop :=
 (env.kindOf x = some .local ∧ m x = some u) ∨ ((env.kindOf x = some .cell ∨ env.kindOf x = some .free) ∧ ∃ c, env.cells.lookup x = some c ∧ h.IsCell c (some u))
set_option genInjectivity false in
set_option genSizeOf false in
structure Cx.Ok (X : Cx) : Prop where
 mod : Mod X.K X.mg X.base
 kind : X.env.scope.kind = .function
 glob : X.env.globals = mainGlobals
 blt : X.env.builtins = builtinsNs
 above : X.s₀.heap.objs.size ≤ X.env.locals
 inj : ∀ x y c, X.env.cells.lookup x = some c → X.env.cells.lookup y = some c → x = y
 has : ∀ x, (X.env.kindOf x = some .cell ∨ X.env.kindOf x = some .free) → ∃ c, X.env.cells.lookup x = some c
 cab : ∀ x c, X.fn x = true → X.env.cells.lookup x = some c → X.s₀.heap.objs.size ≤ c
 hd : X.calm = true → X.A.handled = none
 frames : X.A.frames = some X.stack
 stk : X.stack = X.outer ∨ (X.stack = X.env :: X.outer ∧ X.env.frame = some X.env.locals)
 exf : ∀ b ∈ X.ex, b ≠ X.env.locals ∧ ∀ x c, X.env.cells.lookup x = some c → c ≠ b
 bs : ∀ b o, X.base.get? b = some o → X.s₀.heap.get? b = some o ∧ X.H₀ b = none
 bsz : X.base.objs.size ≤ X.s₀.heap.objs.size
 noex : ∀ b o, X.base.get? b = some o → b ∉ X.ex
 exfs : ∀ b ∈ X.ex, b ∉ X.fs
 funs : X.s₀.heap.FunFrames X.base X.outer
 frf : ∀ b ∈ X.fs, X.H₀ b = none
structure Inv (X : Cx) (pins : List (Addr × Obj)) (σ : List (Option V)) (H : Hp) (s : Shared) : Prop where
 ok : X.Ok
 os : s.os = X.s₀.os
 bare : AllBare s.gens
 base : Un X.fs X.ex X.H₀ H X.s₀.heap s.heap
 loc : ∃ m, s.heap.Ns X.env.locals m ∧ ∀ (i : Nat) (x : Str) (v : V), X.N[i]? = some x → σ[i]? = some (some v) → Vis X.env.scope x → ∃ u, aC v u ∧ ze X.env s.heap m x u
 cell : ∀ x c, X.env.cells.lookup x = some c → ∃ v, s.heap.IsCell c v
 free : H X.env.locals = none
 freeC : ∀ x c, X.env.cells.lookup x = some c → H c = none
 pin : ∀ p ∈ X.pn ++ pins, s.heap.get? p.1 = some p.2 ∧ H p.1 = none ∧ p.1 ≠ X.env.locals ∧ p.1 ∉ X.fs ∧ ∀ v, p.2.data ≠ .cell v
 hok : HOk X.prog X.w H s.heap
 len : σ.length = X.N.length
section
variable {X : Cx} {pins : List (Addr × Obj)} {σ : List (Option V)} {H H' : Hp} {s : Shared} {h' : Heap}
theorem Cx.Ok.nofr (ok : X.Ok) {b : Addr} {o : Obj} (e : X.base.get? b = some o) : b ∉ X.fs := fun hb => by
 have := (ok.funs.mem hb).1
 rw [e] at this; cases this
theorem Inv.bs (I : Inv X pins σ H s) : ∀ b o, X.base.get? b = some o → s.heap.get? b = some o ∧ H b = none := fun b o e =>
 ⟨I.base.keep b o (I.ok.bs b o e).1 (I.ok.bs b o e).2 (I.ok.nofr e) (I.ok.noex b o e), I.base.free b o (I.ok.bs b o e).1 (I.ok.bs b o e).2 (I.ok.noex b o e)⟩
theorem Inv.bk (I : Inv X pins σ H s) : ∀ b o, X.base.get? b = some o → s.heap.get? b = some o := fun b o e => (I.bs b o e).1
theorem Inv.mod (I : Inv X pins σ H s) : Mod X.K X.mg X.base := I.ok.mod
theorem Inv.kIn (I : Inv X pins σ H s) : X.K.In s.heap := I.ok.mod.kin.keeps I.bk
theorem Inv.lt (I : Inv X pins σ H s) : X.env.locals < s.heap.objs.size := let ⟨_, hn, _⟩ := I.loc; hn.lt
theorem Inv.sz (I : Inv X pins σ H s) : X.s₀.heap.objs.size ≤ s.heap.objs.size := Nat.le_trans I.ok.above (Nat.le_of_lt I.lt)
theorem Inv.nofs (I : Inv X pins σ H s) {a : Addr} (h : s.heap.objs.size ≤ a) : a ∉ X.fs := fun hb => by
 obtain ⟨_, o, ho, _⟩ := I.ok.funs.mem hb
 exact absurd (Nat.lt_of_lt_of_le (Heap.lt_size ho) (Nat.le_trans I.sz h)) (Nat.lt_irrefl _)
theorem Inv.cne (I : Inv X pins σ H s) : ∀ x c, X.env.cells.lookup x = some c → c ≠ X.env.locals := fun x c e z => by
 obtain ⟨v, o, ho, hd⟩ := I.cell x c e
 obtain ⟨m, ⟨o', es, ep, ho', hd', _⟩, _⟩ := I.loc
 rw [z, ho'] at ho; cases ho; rw [hd'] at hd; cases hd
theorem Inv.funs (I : Inv X pins σ H s) : s.heap.FunFrames X.base X.outer := by
  have all : ∀ (l : List Env), (∀ b ∈ frs l, b ∈ X.fs) → X.s₀.heap.FunFrames X.base l → s.heap.FunFrames X.base l := by
    intro l
    induction l with
    | nil => intro _ _; trivial
    | cons env r ih =>
      intro hs hl
      obtain ⟨hk, ⟨L, o, hf, hn, ho, hd⟩, hr⟩ := hl
      have hL : L ∈ X.fs := hs L (by unfold frs; rw [List.filterMap_cons, hf]; exact List.mem_cons_self)
      obtain ⟨sl, e⟩ := I.base.slot L o ho (I.ok.frf L hL) hL fun z => I.ok.exfs L z hL
      exact ⟨hk, ⟨L, _, hf, hn, e, hd⟩, ih (fun b hb => hs b (by unfold frs; rw [List.filterMap_cons, hf]; exact List.mem_cons_of_mem _ hb)) hr⟩
  exact all X.outer (fun _ hb => hb) I.ok.funs
theorem Inv.stack (I : Inv X pins σ H s) : s.heap.FunFrames X.base X.stack := by
 rcases I.ok.stk with e | ⟨e, hf⟩
 · rw [e]; exact I.funs
 · rw [e]
   obtain ⟨m, hn, _⟩ := I.loc
   refine .cons (by rw [I.ok.kind]; decide) hf hn ?_ I.funs
   exact Heap.get?_none_of_le (Nat.le_trans I.ok.bsz I.ok.above)
theorem Inv.stkSub (I : Inv X pins σ H s) : ∀ b ∈ frs X.stack, b ∈ X.env.locals :: X.fs := fun b hb => by
 rcases I.ok.stk with e | ⟨e, hf⟩
 · rw [e] at hb; exact List.mem_cons_of_mem _ hb
 · rw [e] at hb
   unfold frs at hb
   rw [List.filterMap_cons, hf] at hb
   exact hb
theorem Inv.stkFree (I : Inv X pins σ H s) : ∀ b ∈ frs X.stack, H b = none := fun b hb => by
 rcases List.mem_cons.mp (I.stkSub b hb) with e | hb
 · rw [e]; exact I.free
 · obtain ⟨_, o, ho, _⟩ := I.ok.funs.mem hb
   exact I.base.free b o ho (I.ok.frf b hb) fun z => I.ok.exfs b z hb
theorem Inv.step {g' : Array GenState} {t' : Nat} {d' : Drawn} {ch : List Addr} (I : Inv X pins σ H s)
   (hch : ∀ b ∈ ch, (b ∈ X.ex ∨ X.s₀.heap.objs.size ≤ b) ∧ b ≠ X.env.locals ∧ (∀ x c, X.env.cells.lookup x = some c → c ≠ b) ∧ ∀ p ∈ X.pn ++ pins, p.1 ≠ b)
   (keep : ∀ b o, b ≠ X.env.locals → b ∉ X.fs → b ∉ ch → s.heap.get? b = some o → H b = none → h'.get? b = some o)
   (slot : ∀ b o, b ≠ X.env.locals → b ∈ X.fs → b ∉ ch → s.heap.get? b = some o → H b = none → ∃ sl, h'.get? b = some { o with slots := sl }) (free : ∀ b o, b ∉ ch → s.heap.get? b = some o → H b = none → H' b = none)
   (there : ∀ b o, b ∉ ch → s.heap.get? b = some o → ∃ o', h'.get? b = some o')
   (tups : ∀ b xs, H b = some (.tup xs) → H' b = some (.tup xs)) (frzs : ∀ b o u, H b = some (.frz o u) → H' b = some (.frz o u)) (tbls : ∀ b ps, H b = some (.tbl ps) → ∃ more, H' b = some (.tbl (ps ++ more)))
   (ns : ∀ m, s.heap.Ns X.env.locals m → h'.Ns X.env.locals m) (hok : HOk X.prog X.w H' h') (hg : AllBare g') :
   Inv X pins σ H' { s with heap := h', gens := g', drawn := d', toks := t' } := by
 have neL : ∀ b o, X.s₀.heap.get? b = some o → b ≠ X.env.locals := fun b o e => Nat.ne_of_lt (Nat.lt_of_lt_of_le (Heap.lt_size e) I.ok.above)
 have neC : ∀ b o, X.s₀.heap.get? b = some o → b ∉ X.ex → b ∉ ch := fun b o e hx hb => by
   rcases (hch b hb).1 with z | z
   · exact hx z
   · exact absurd (Nat.lt_of_lt_of_le (Heap.lt_size e) z) (Nat.lt_irrefl _)
 have cellK : ∀ x c, X.env.cells.lookup x = some c → ∀ v, s.heap.IsCell c v → h'.IsCell c v := fun x c e v ⟨o, ho, hd⟩ => by
   have nch : c ∉ ch := fun z => (hch c z).2.2.1 x c e rfl
   by_cases hc : c ∈ X.fs
   · obtain ⟨sl, q⟩ := slot c o (I.cne x c e) hc nch ho (I.freeC x c e)
     exact ⟨_, q, hd⟩
   · exact ⟨o, keep c o (I.cne x c e) hc nch ho (I.freeC x c e), hd⟩
 refine ⟨I.ok, I.os, hg, ⟨fun b o e n hb hx => ?_, fun b o e n hb hx => ?_, fun b o e n hx => ?_, fun b o e hx => ?_, fun b xs e => tups b xs (I.base.tups b xs e), fun b o xs e => frzs b o xs (I.base.frzs b o xs e), fun b ps e => ?_⟩, ?_, fun x c e => ?_, ?_, fun x c e => ?_, fun p hp => ?_, hok, I.len⟩
 · exact keep b o (neL b o e) hb (neC b o e hx) (I.base.keep b o e n hb hx) (I.base.free b o e n hx)
 · obtain ⟨sl, e1⟩ := I.base.slot b o e n hb hx
   obtain ⟨sl', e2⟩ := slot b _ (neL b o e) hb (neC b o e hx) e1 (I.base.free b o e n hx)
   exact ⟨sl', e2⟩
 · obtain ⟨o', e1⟩ := I.base.there b o e hx
   exact free b o' (neC b o e hx) e1 (I.base.free b o e n hx)
 · obtain ⟨o', e1⟩ := I.base.there b o e hx
   exact there b o' (neC b o e hx) e1
 · obtain ⟨m1, e1⟩ := I.base.tbls b ps e
   obtain ⟨m2, e2⟩ := tbls b _ e1
   exact ⟨m1 ++ m2, by rw [e2, Array.append_assoc]⟩
 · obtain ⟨m, hn, hl⟩ := I.loc
   refine ⟨m, ns m hn, fun i x v e1 e2 e3 => ?_⟩
   obtain ⟨u, r, l⟩ := hl i x v e1 e2 e3
   refine ⟨u, r, ?_⟩
   rcases l with l | ⟨k, c, e, z⟩
   · exact .inl l
   · exact .inr ⟨k, c, e, cellK x c e _ z⟩
 · obtain ⟨v, z⟩ := I.cell x c e
   exact ⟨v, cellK x c e v z⟩
 · obtain ⟨m, ⟨o, _, _, ho, _⟩, _⟩ := I.loc
   exact free _ o (fun z => (hch _ z).2.1 rfl) ho I.free
 · obtain ⟨v, o, ho, hd⟩ := I.cell x c e
   exact free c o (fun z => (hch c z).2.2.1 x c e rfl) ho (I.freeC x c e)
 · obtain ⟨e, n, ne, nf, d⟩ := I.pin p hp
   have nch : p.1 ∉ ch := fun z => (hch p.1 z).2.2.2 p hp rfl
   exact ⟨keep p.1 p.2 ne nf nch e n, free p.1 p.2 nch e n, ne, nf, d⟩
theorem Inv.un {t' : Nat} (I : Inv X pins σ H s) (u : Un X.fs [] H H' s.heap h') (hok : HOk X.prog X.w H' h') : Inv X pins σ H' { s with heap := h', toks := t' } := by
 obtain ⟨m, ⟨o, es, ep, ho, r⟩, _⟩ := id I.loc
 obtain ⟨sl, hL⟩ := u.any ho I.free (by simp)
 exact I.step (g' := s.gens) (d' := s.drawn) (ch := []) (fun _ z => nomatch z) (fun b o _ hb _ e n => u.keep b o e n hb (by simp)) (fun b o _ hb _ e n => u.slot b o e n hb (by simp)) (fun b o _ e n => u.free b o e n (by simp)) (fun b o _ e => u.there b o e (by simp)) u.tups u.frzs u.tbls (fun m' hm => by
  obtain ⟨o', es', ep', ho', r'⟩ := hm
  rw [ho] at ho'; cases ho'
  exact ⟨_, es', ep', hL, r'⟩) hok I.bare
theorem Inv.call {g' : Array GenState} {t' : Nat} {d' : Drawn} {ch : List Addr} (I : Inv X pins σ H s) (u : Un (frs X.stack) ch H H' s.heap h') (hok : HOk X.prog X.w H' h') (hg : AllBare g')
  (hch : ∀ b ∈ ch, (b ∈ X.ex ∨ X.s₀.heap.objs.size ≤ b) ∧ b ≠ X.env.locals ∧ (∀ x c, X.env.cells.lookup x = some c → c ≠ b) ∧ ∀ p ∈ X.pn ++ pins, p.1 ≠ b) :
  Inv X pins σ H' { s with heap := h', gens := g', drawn := d', toks := t' } := by
 obtain ⟨m, ⟨o, es, ep, ho, r⟩, _⟩ := id I.loc
 obtain ⟨sl, hL⟩ := u.any ho I.free fun z => (hch _ z).2.1 rfl
 exact I.step (ch := ch) hch (fun b o hL hb hc e n => u.keep b o e n (fun z => (List.mem_cons.mp (I.stkSub b z)).elim hL hb) hc) (fun b o _ _ hc e n => u.any e n hc) (fun b o hc e n => u.free b o e n hc) (fun b o hc e => u.there b o e hc) u.tups u.frzs u.tbls (fun m' hm => by
  obtain ⟨o', es', ep', ho', r'⟩ := hm
  rw [ho] at ho'; cases ho'
  exact ⟨_, es', ep', hL, r'⟩) hok hg
theorem Inv.turned {t' : Nat} {it : Addr} (I : Inv X pins σ H s) (k : ∀ b o, b ≠ it → s.heap.get? b = some o → h'.get? b = some o) (hn : H it = none) (hL : it ≠ X.env.locals)
   (h1 : it ∈ X.ex ∨ X.s₀.heap.objs.size ≤ it) (h2 : ∀ x c, X.env.cells.lookup x = some c → c ≠ it) (h3 : ∀ p ∈ X.pn ++ pins, p.1 ≠ it) : Inv X pins σ H { s with heap := h', toks := t' } := by
 have nit : ∀ b u, H b = some u → b ≠ it := fun b u e z => by rw [z, hn] at e; cases e
 refine I.step (g' := s.gens) (d' := s.drawn) (ch := [it]) (fun b hb => ?_) (fun b o _ _ hc e _ => k b o (fun z => hc (by simp [z])) e) (fun b o _ _ hc e _ => ⟨o.slots, k b o (fun z => hc (by simp [z])) e⟩) (fun _ _ _ _ n => n)
   (fun b o hc e => ⟨o, k b o (fun z => hc (by simp [z])) e⟩) (fun _ _ e => e) (fun _ _ _ e => e) (fun b ps e => ⟨#[], by rw [e]; simp⟩) (fun m hm => ?_) (fun b u e => ?_) I.bare
 · have e : b = it := by simpa using hb
   subst e
   exact ⟨h1, hL, h2, h3⟩
 · obtain ⟨o, es, ep, ho, r⟩ := hm
   exact ⟨o, es, ep, k _ o (Ne.symm hL) ho, r⟩
 · refine (I.hok b u e).stay (fun c v hc q => k c v ?_ q) (fun _ q => q) fun _ _ q => q
   rcases hc with z | z
   · rw [z]; exact nit b u e
   · exact nit c _ z
theorem Inv.tok (I : Inv X pins σ H s) (t : Nat) : Inv X pins σ H { s with toks := t } := I.un (h' := s.heap) (t' := t) Un.refl I.hok
theorem Inv.kept {t' : Nat} (I : Inv X pins σ H s) (k : ∀ b u, s.heap.get? b = some u → h'.get? b = some u) : Inv X pins σ H { s with heap := h', toks := t' } := I.un (Un.kept k) (I.hok.kept k)
theorem Inv.laid {a : Addr} {o : HO} {t' : Nat} (I : Inv X pins σ H s) (k : ∀ b u, s.heap.get? b = some u → h'.get? b = some u) (hp : s.heap.objs.size ≤ a) (new : aO X.prog X.w (upd H a o) h' a o) :
 Inv X pins σ (upd H a o) { s with heap := h', toks := t' } := I.un (Un.laid k hp (I.hok.fresh hp)) (I.hok.laid k hp new)
theorem Inv.write {x e : Addr} {o : HO} {t' : Nat} (I : Inv X pins σ H s) (mu : Mut (H x)) (he : e = x ∨ H e = some (.own x)) (k : ∀ b u, b ≠ e → s.heap.get? b = some u → h'.get? b = some u) (heo : ∃ u, h'.get? e = some u)
 (new : aO X.prog X.w (upd H x o) h' x o) : Inv X pins σ (upd H x o) { s with heap := h', toks := t' } := I.un (Un.write mu he k heo) (I.hok.write mu he k heo new)
theorem Inv.pins_of {pins' : List (Addr × Obj)} (I : Inv X pins σ H s) (h : ∀ p ∈ pins', s.heap.get? p.1 = some p.2 ∧ H p.1 = none ∧ p.1 ≠ X.env.locals ∧ p.1 ∉ X.fs ∧ ∀ v, p.2.data ≠ .cell v) : Inv X pins' σ H s :=
 ⟨I.ok, I.os, I.bare, I.base, I.loc, I.cell, I.free, I.freeC, fun p hp => (List.mem_append.mp hp).elim (fun z => I.pin p (List.mem_append_left _ z)) (h p), I.hok, I.len⟩
theorem jf {N : List Str} (hN : N.Nodup) {i j : Nat} {x : Str} (a : N[i]? = some x) (b : N[j]? = some x) : i = j := by
 obtain ⟨h1, e1⟩ := List.getElem?_eq_some_iff.mp a
 obtain ⟨h2, e2⟩ := List.getElem?_eq_some_iff.mp b
 exact (List.getElem_inj hN).mp (e1.trans e2.symm)
theorem lw {M : Model} {A : Around} {E : Value → Shared → Prop} {i : Nat} {x : Str} {v : V} {u : Value} {Q : Unit → Shared → Prop} (I : Inv X pins σ H s) (hN : X.N.Nodup) (hi : X.N[i]? = some x) (hx : Loc X.env.scope x) (r : aC v u)
   (h : ∀ s', Inv X pins (σ.set i (some v)) H s' → (∃ a, Heap.SameBut a s.heap s'.heap ∧ (a = X.env.locals ∨ X.env.cells.lookup x = some a)) → Q () s') (hf : X.fn x = true ∨ X.env.scope.names.lookup x = some .local := by first | exact .inl rfl | exact .inr rfl | assumption) : wpAny M A (storeName X.env x u) Q E s := by
 obtain ⟨m, hn, hl⟩ := id I.loc
 have hcls : (X.env.scope.kind == .class || (X.env.scope.kind == .module && X.env.locals != X.env.globals)) = false := by rw [I.ok.kind]; rfl
 have hiσ : i < σ.length := by rw [I.len]; exact (List.getElem?_eq_some_iff.mp hi).1
 have cne := I.cne
 have tracked : ∀ {a : Addr} {h' : Heap}, (∃ o, s.heap.get? a = some o ∧ H a = none) → Heap.SameBut a s.heap h' → HOk X.prog X.w H h' := fun {a h'} ha hs b ob e => by
   obtain ⟨_, _, hfree⟩ := ha
   refine (I.hok b ob e).stay (fun c w' hc q => (hs.2 c ?_).trans q) (fun _ q => q) fun _ _ q => q
   rintro rfl
   rcases hc with rfl | hc
   · rw [hfree] at e; cases e
   · rw [hfree] at hc; cases hc
 rcases hx with hk | hk
 · refine wpAny_storeName_local hk hn (fun h' hn' hs => ?_) hcls
   obtain ⟨oL, _, _, hoL, _⟩ := id hn
   refine h _ ⟨I.ok, I.os, I.bare, ⟨fun b o e n hb hx => ?_, fun b o e n hb hx => ?_, I.base.free, fun b o e hx => ?_, I.base.tups, I.base.frzs, I.base.tbls⟩, ⟨_, hn', fun j y v' e1 e2 e3 => ?_⟩, fun y c e => ?_, I.free, I.freeC, fun p hp => ?_, tracked ⟨oL, hoL, I.free⟩ hs, by simpa using I.len⟩ ⟨_, hs, .inl rfl⟩
   · exact (hs.2 b (Nat.ne_of_lt (Nat.lt_of_lt_of_le (Heap.lt_size e) I.ok.above))).trans (I.base.keep b o e n hb hx)
   · obtain ⟨sl, e1⟩ := I.base.slot b o e n hb hx
     exact ⟨sl, (hs.2 b (Nat.ne_of_lt (Nat.lt_of_lt_of_le (Heap.lt_size e) I.ok.above))).trans e1⟩
   · obtain ⟨o', e1⟩ := I.base.there b o e hx
     exact ⟨o', (hs.2 b (Nat.ne_of_lt (Nat.lt_of_lt_of_le (Heap.lt_size e) I.ok.above))).trans e1⟩
   · by_cases hj : j = i
     · subst hj
       rw [hi] at e1; cases e1
       rw [List.getElem?_set_self hiσ] at e2
       cases e2
       exact ⟨u, r, .inl ⟨hk, by simp⟩⟩
     · rw [List.getElem?_set_ne (Ne.symm hj)] at e2
       obtain ⟨u', r', q⟩ := hl j y v' e1 e2 e3
       refine ⟨u', r', ?_⟩
       rcases q with ⟨k, e⟩ | ⟨k, c, e, z⟩
       · refine .inl ⟨k, ?_⟩
         have : y ≠ x := fun e => hj (jf hN e1 (e ▸ hi))
         simp [this, e]
       · exact .inr ⟨k, c, e, z.sameBut hs (cne y c e)⟩
   · obtain ⟨w', z⟩ := I.cell y c e
     exact ⟨w', z.sameBut hs (cne y c e)⟩
   · obtain ⟨e, n, ne, nf, d⟩ := I.pin p hp
     exact ⟨(hs.2 p.1 ne).trans e, n, ne, nf, d⟩
 · have hfn : X.fn x = true := by
     rcases hf with z | z
     · exact z
     · rw [z] at hk; cases hk
   obtain ⟨c, hc⟩ := I.ok.has x (.inl hk)
   obtain ⟨w', z⟩ := I.cell x c hc
   refine wpAny_storeName_cell I.ok.kind hk hc z (fun h' hc' hs => ?_)
   obtain ⟨oc, hoc, hocd⟩ := id z
   refine h { s with heap := h' } ⟨I.ok, I.os, I.bare, ⟨fun b o e n hb hx => ?_, fun b o e n hb hx => ?_, I.base.free, fun b o e hx => ?_, I.base.tups, I.base.frzs, I.base.tbls⟩, ⟨m, hn.sameBut hs (Ne.symm (cne x c hc)), fun j y v' e1 e2 e3 => ?_⟩, fun y c' e => ?_, I.free, I.freeC, fun p hp => ?_, tracked ⟨oc, hoc, I.freeC x c hc⟩ hs, by simpa using I.len⟩ ⟨c, hs, .inr hc⟩
   · exact (hs.2 b (Nat.ne_of_lt (Nat.lt_of_lt_of_le (Heap.lt_size e) (I.ok.cab x c hfn hc)))).trans (I.base.keep b o e n hb hx)
   · obtain ⟨sl, e1⟩ := I.base.slot b o e n hb hx
     exact ⟨sl, (hs.2 b (Nat.ne_of_lt (Nat.lt_of_lt_of_le (Heap.lt_size e) (I.ok.cab x c hfn hc)))).trans e1⟩
   · obtain ⟨o', e1⟩ := I.base.there b o e hx
     exact ⟨o', (hs.2 b (Nat.ne_of_lt (Nat.lt_of_lt_of_le (Heap.lt_size e) (I.ok.cab x c hfn hc)))).trans e1⟩
   · by_cases hj : j = i
     · subst hj
       rw [hi] at e1; cases e1
       rw [List.getElem?_set_self hiσ] at e2
       cases e2
       exact ⟨u, r, .inr ⟨.inl hk, c, hc, hc'⟩⟩
     · rw [List.getElem?_set_ne (Ne.symm hj)] at e2
       obtain ⟨u', r', q⟩ := hl j y v' e1 e2 e3
       refine ⟨u', r', ?_⟩
       rcases q with q | ⟨k, c', e, z'⟩
       · exact .inl q
       · refine .inr ⟨k, c', e, z'.sameBut hs ?_⟩
         rintro rfl
         exact hj (jf hN e1 (I.ok.inj _ _ _ e hc ▸ hi))
   · by_cases hcc : c' = c
     · subst hcc; exact ⟨_, hc'⟩
     · obtain ⟨w2, z2⟩ := I.cell y c' e
       exact ⟨w2, z2.sameBut hs hcc⟩
   · obtain ⟨e, n, ne, nf, d⟩ := I.pin p hp
     refine ⟨(hs.2 p.1 ?_).trans e, n, ne, nf, d⟩
     intro q
     rw [q, hoc] at e
     have q' : oc = p.2 := Option.some.inj e
     exact d w' (by rw [← q']; exact hocd)
theorem dY {M : Model} {A : Around} {E : Value → Shared → Prop} {i : Nat} {x : Str} {v : V} {u : Value} {Q : Unit → Shared → Prop} (I : Inv X pins σ H s) (hN : X.N.Nodup) (hi : X.N[i]? = some x) (hx : Loc X.env.scope x) (r : aC v u)
  (h : ∀ s', Inv X pins (σ.set i (some v)) H s' → Q () s') (hf : X.fn x = true ∨ X.env.scope.names.lookup x = some .local := by first | exact .inl rfl | exact .inr rfl | assumption) : wpAny M A (storeName X.env x u) Q E s :=
 lw I hN hi hx r (fun s' I' _ => h s' I') hf
theorem Inv.call' {s' : Shared} {ch : List Addr} (I : Inv X pins σ H s) (ho : s'.os = s.os) (u : Un (frs X.stack) ch H H' s.heap s'.heap) (hok : HOk X.prog X.w H' s'.heap) (hg : AllBare s'.gens)
  (hch : ∀ b ∈ ch, (b ∈ X.ex ∨ X.s₀.heap.objs.size ≤ b) ∧ b ≠ X.env.locals ∧ (∀ x c, X.env.cells.lookup x = some c → c ≠ b) ∧ ∀ p ∈ X.pn ++ pins, p.1 ≠ b) : Inv X pins σ H' s' := by
 obtain ⟨h', g', d', t', o'⟩ := s'
 have e : o' = s.os := ho
 subst e
 exact I.call (g' := g') (t' := t') (d' := d') u hok hg hch
end
abbrev XK := Value → Option Addr → Hp → Prop
abbrev St := List (Option V)
abbrev VK := V → Hp → Prop
abbrev TE := St → Hp → VK → Prop
abbrev TT := St → Hp → (Bool → Hp → Prop) → Prop
abbrev TA := St → Hp → (List V → Hp → Prop) → Prop
structure dE where
 nx : St → Hp → Prop
 rt : VK
 bk : St → Hp → Prop := fun _ _ => False
 ct : St → Hp → Prop := fun _ _ => False
abbrev TS := dE → St → Hp → Prop
def EP (X : Cx) (pins : List (Addr × Obj)) (σ : St) (Q : VK) (u : Value) (s' : Shared) : Prop := ∃ v H', Inv X pins σ H' s' ∧ aC v u ∧ Q v H'
def TP (X : Cx) (pins : List (Addr × Obj)) (σ : St) (Q : Bool → Hp → Prop) (b : Bool) (s' : Shared) : Prop := ∃ H', Inv X pins σ H' s' ∧ Q b H'
def AP (X : Cx) (pins : List (Addr × Obj)) (σ : St) (Q : List V → Hp → Prop) (us : List Value) (s' : Shared) : Prop := ∃ vs H', Inv X pins σ H' s' ∧ aA vs us ∧ Q vs H'
def SP (X : Cx) (pins : List (Addr × Obj)) (D : dE) (f : Flow) (s' : Shared) : Prop :=
 match f with
 | .next => ∃ σ' H', Inv X pins σ' H' s' ∧ D.nx σ' H'
 | .brk => ∃ σ' H', Inv X pins σ' H' s' ∧ D.bk σ' H'
 | .cont => ∃ σ' H', Inv X pins σ' H' s' ∧ D.ct σ' H'
 | .ret u => ∃ v σ' H', Inv X pins σ' H' s' ∧ aC v u ∧ D.rt v H'
def PE (X : Cx) (e : Expr) (t : TE) : Prop :=
 ∀ (pins : List (Addr × Obj)) (s : Shared) (σ : St) (H : Hp) (Q : VK), Inv X pins σ H s → t σ H Q → wpAny (model X.prog X.w) X.A (eval e X.env) (EP X pins σ Q) X.xe s
def PT (X : Cx) (e : Expr) (t : TT) : Prop :=
 ∀ (pins : List (Addr × Obj)) (s : Shared) (σ : St) (H : Hp) (Q : Bool → Hp → Prop), Inv X pins σ H s → t σ H Q → wpAny (model X.prog X.w) X.A (isTrue e X.env (eval e X.env)) (TP X pins σ Q) X.xe s
def PW (X : Cx) (e : Expr) (t : TT) : Prop :=
 ∀ (whole : Sem Value) (pins : List (Addr × Obj)) (s : Shared) (σ : St) (H : Hp) (Q : Bool → Hp → Prop), Inv X pins σ H s → t σ H Q → wpAny (model X.prog X.w) X.A (isTrue e X.env whole) (TP X pins σ Q) X.xe s
theorem PW.pt {X : Cx} {e : Expr} {t : TT} (h : PW X e t) : PT X e t := h _
def PA (X : Cx) (es : List Expr) (t : TA) : Prop :=
 ∀ (pos : Pos) (pins : List (Addr × Obj)) (s : Shared) (σ : St) (H : Hp) (Q : List V → Hp → Prop), Inv X pins σ H s → t σ H Q → wpAny (model X.prog X.w) X.A (spliced (backTo pos (starEach es X.env))) (AP X pins σ Q) X.xe s
def PS (X : Cx) (st : Stmt) (t : TS) : Prop :=
 ∀ (pins : List (Addr × Obj)) (s : Shared) (σ : St) (H : Hp) (D : dE), Inv X pins σ H s → t D σ H → wpAny (model X.prog X.w) X.A (exec st X.env) (SP X pins D) X.xe s
def PSs (X : Cx) (st : List Stmt) (t : TS) : Prop :=
 ∀ (pins : List (Addr × Obj)) (s : Shared) (σ : St) (H : Hp) (D : dE), Inv X pins σ H s → t D σ H → wpAny (model X.prog X.w) X.A (execs st X.env) (SP X pins D) X.xe s
theorem thn {α : Type} {t : Sem α} {Q Q' : α → Shared → Prop} {M : Model} {A : Around} {E : Value → Shared → Prop} {s : Shared} (h : wpAny M A t Q E s) (hQ : ∀ a s, Q a s → Q' a s) : wpAny M A t Q' E s := wpAny_mono h hQ fun _ _ x => x
end L2
namespace L2
open PySem PySem.Spec PyProof.Rows
section
variable {X : Cx}
def DT (i : Nat) : TE := fun σ H Q => ∃ v, σ[i]? = some (some v) ∧ Q v H
def tC (v : V) : TE := fun _ H Q => Q v H
theorem yJ {i : Nat} {x : Str} {pos : Pos} (hN : X.N[i]? = some x) (hv : Vis X.env.scope x) (hd : (x == ("__debug__" : Str)) = false := by decide) (hcd : (x == ("__classdict__" : Str)) = false := by decide) : PE X (.Name x pos) (DT i) := by
 intro pins s σ H Q I h
 obtain ⟨v, e, h⟩ := h
 obtain ⟨m, hn, hl⟩ := I.loc
 obtain ⟨u, r, l⟩ := hl i x v hN e hv
 have fin : EP X pins σ Q u s := ⟨v, H, I, r, h⟩
 rcases l with ⟨hk, hm⟩ | ⟨hk, c, hc, hcell⟩
 · exact wpAny_Name (wpAny_loadName_local I.ok.kind hk hn hm fin) hd
 · rcases hk with hk | hk
   · exact wpAny_Name (wpAny_loadName_cell I.ok.kind hk hc hcell fin) hd
   · exact wpAny_Name (wpAny_loadName_free I.ok.kind hk hc hcell fin hcd) hd
theorem yY {i j pos} : PE X (.Constant (.int i) j pos) (tC (.int i)) := fun _ _ _ H _ I h => wpAny_Constant_int ⟨.int i, H, I.tok _, ⟨_, rfl⟩, h⟩
theorem AJ {b j pos} : PE X (.Constant (.bool b) j pos) (tC (.bl b)) := fun _ _ _ H _ I h => Constant_bool ⟨.bl b, H, I, rfl, h⟩
theorem zY {j pos} : PE X (.Constant .none j pos) (tC .non) := fun _ _ _ H _ I h => Constant_none ⟨.non, H, I, rfl, h⟩
theorem Ao {x j pos} : PE X (.Constant (.str x) j pos) (tC (.str x)) := fun _ _ _ H _ I h => Calls.Constant_str ⟨.str x, H, I.tok _, ⟨_, rfl⟩, h⟩
def Gl (X : Cx) (x : Str) : Prop := X.env.kindOf x = some .globalImplicit
theorem fX {E : Value → Shared → Prop} {pins : List (Addr × Obj)} {s : Shared} {σ : St} {H : Hp} {x : Str} {u : Value} {pos : Pos} {Q : Value → Shared → Prop} (I : Inv X pins σ H s) (hg : Gl X x) (hm : X.mg x = some u) (h : Q u s)
  (hd : (x == ("__debug__" : Str)) = false := by decide) : wpAny (model X.prog X.w) X.A (eval (.Name x pos) X.env) Q E s :=
 Calls.Name_function_global I.ok.kind hg (Calls.loadGlobal_global (by rw [I.ok.glob]; exact I.mod.glob.keeps I.bk) hm h) hd
theorem dw {E : Value → Shared → Prop} {pins : List (Addr × Obj)} {s : Shared} {σ : St} {H : Hp} {x : Str} {u : Value} {pos : Pos} {Q : Value → Shared → Prop} (I : Inv X pins σ H s) (hg : Gl X x) (hm : X.mg x = none) (hv : bootBuiltins x = some u) (h : Q u s)
  (hn : x ≠ "__name__" := by decide) (hd : (x == ("__debug__" : Str)) = false := by decide) : wpAny (model X.prog X.w) X.A (eval (.Name x pos) X.env) Q E s := by
 obtain ⟨mb, h1, h2⟩ := I.mod.blt
 exact Calls.Name_function_global I.ok.kind hg (Calls.loadGlobal_builtin (by rw [I.ok.glob]; exact I.mod.glob.keeps I.bk) hm (by rw [I.ok.blt]; exact h1.keeps I.bk) ((h2 x hn).trans hv) h) hd
theorem wJ {x : Str} {v : V} {u : Value} {pos : Pos} (hg : Gl X x) (hm : X.mg x = some u) (r : aC v u) (hd : (x == ("__debug__" : Str)) = false := by decide) : PE X (.Name x pos) (tC v) :=
 fun _ _ _ H _ I h => fX I hg hm ⟨v, H, I, r, h⟩ hd
theorem xD {x : Str} {v : V} {u : Value} {pos : Pos} (hg : Gl X x) (hm : X.mg x = none) (hv : bootBuiltins x = some u) (r : aC v u) (hn : x ≠ "__name__" := by decide) (hd : (x == ("__debug__" : Str)) = false := by decide) : PE X (.Name x pos) (tC v) :=
 fun _ _ _ H _ I h => dw I hg hm hv ⟨v, H, I, r, h⟩ hn hd
variable {a b : Expr} {ta tb : TE} {pos : Pos}
variable {tA tB' : TT} {bP : List Expr}
def cS (t : TT) : TT := fun σ H Q => t σ H fun c H1 => Q (!c) H1
theorem xK (ha : PT X a tA) : PW X (.BoolOp .And [a] pos) tA := by
 intro wh pins s σ H Q I h
 refine isTrue_and (thn (ha pins s σ H Q I h) fun c s1 e => ?_)
 cases c with
 | true => exact isTrue_and_nil e
 | false => exact e
theorem xR (ha : PT X a tA) : PW X (.BoolOp .Or [a] pos) tA := by
 intro wh pins s σ H Q I h
 refine isTrue_or (thn (ha pins s σ H Q I h) fun c s1 e => ?_)
 cases c with
 | false => exact isTrue_or_nil e
 | true => exact e
theorem xO (ha : PT X a tA) : PT X (.UnaryOp .Not a pos) (cS tA) := by
 intro pins s σ H Q I h
 exact isTrue_not (ha pins s σ H (fun c H1 => Q (!c) H1) I h)
theorem xT {op} {t : TE} (h : PE X a t) : PE X (.BoolOp op [a] pos) t := fun pins s σ H Q I hw => BoolOp_one (h pins s σ H Q I hw)
end
end L2
namespace L2
open PySem PySem.Spec PyProof.Rows
def SqL (K : W.Frag) (H : Hp) (a : Addr) (xs : List V) : Prop :=
 Rd H a (.lst xs) ∨
  ∃ (o : Obj) (its : Array Value) (n : Nat), K.lookup a = some o ∧ o.cls = .type "list" ∧ o.dict = none ∧ o.data = .seq its n ∧ its.size ≤ sizeLine ∧ aA xs its.toList
def SqT (K : W.Frag) (H : Hp) (a : Addr) (xs : List V) : Prop :=
 Rd H a (.tup xs) ∨
  ∃ (o : Obj) (its : Array Value) (n : Nat), K.lookup a = some o ∧ o.cls = .type "tuple" ∧ o.data = .seq its n ∧ its.size ≤ sizeLine ∧ aA xs its.toList
def Er : Value → Option V
 | .none => some .non
 | .bool b => some (.bl b)
 | .int i _ => some (.int i)
 | .str x _ => some (.str x)
 | .bytes b _ => some (.byt b)
 | .float b _ => some (.flt b)
 | .ref a => some (.ref a)
 | .type n => some (.ty n)
 | _ => none
theorem aC.abs {x : V} {u : Value} (r : aC x u) : Er u = some x := by
 cases x with
 | non => cases r; rfl
 | bl _ => cases r; rfl
 | int _ => obtain ⟨t, rfl⟩ := r; rfl
 | str _ => obtain ⟨t, rfl⟩ := r; rfl
 | byt _ => obtain ⟨t, rfl⟩ := r; rfl
 | flt _ => obtain ⟨t, rfl⟩ := r; rfl
 | ref _ => cases r; rfl
 | ty _ => cases r; rfl
theorem aC.inj {x y : V} {u : Value} (r : aC x u) (q : aC y u) : x = y := Option.some.inj (r.abs.symm.trans q.abs)
theorem aA.inj : ∀ {xs ys : List V} {us : List Value}, aA xs us → aA ys us → xs = ys
 | _, _, _, .nil, .nil => rfl
 | _, _, _, .cons r t, .cons r' t' => by rw [r.inj r', aA.inj t t']
section
variable {X : Cx} {pins : List (Addr × Obj)} {σ : St} {H : Hp} {s : Shared} {a : Addr} {xs ys : List V}
theorem SqL.of {K : W.Frag} (h : H a = some (.lst xs)) : SqL K H a xs := .inl (.inl h)
theorem SqT.of {K : W.Frag} (h : H a = some (.tup xs)) : SqT K H a xs := .inl (.inl h)
theorem Inv.list (I : Inv X pins σ H s) (h : SqL X.K H a xs) : ∃ its : List Value, aA xs its ∧ PlainL s.heap a its.toArray ∧ xs.length ≤ sizeLine := by
 rcases h with h | ⟨o, its, n, hk, hc, hd, hs, hz, r⟩
 · obtain ⟨z, its, n, r, e⟩ := h.ok I.hok
   exact ⟨its, r, ⟨_, n, e, rfl, rfl, rfl⟩, z⟩
 · refine ⟨its.toList, r, ⟨o, n, I.kIn a o hk, hc, hd, by simpa using hs⟩, ?_⟩
   have e := r.length
   simp only [Array.length_toList] at e
   omega
theorem Inv.tuple (I : Inv X pins σ H s) (h : SqT X.K H a xs) : ∃ its : List Value, aA xs its ∧ IsTup s.heap a its.toArray ∧ xs.length ≤ sizeLine := by
 rcases h with h | ⟨o, its, n, hk, hc, hs, hz, r⟩
 · obtain ⟨z, its, r, p⟩ := h.ok I.hok
   exact ⟨its, r, p, z⟩
 · refine ⟨its.toList, r, ⟨o, I.kIn a o hk, hc, n, by simpa using hs⟩, ?_⟩
   have e := r.length
   simp only [Array.length_toList] at e
   omega
theorem Inv.list_inj (I : Inv X pins σ H s) (h : SqL X.K H a xs) (h' : SqL X.K H a ys) : xs = ys := by
 obtain ⟨its, r, ⟨o, n, e, _, _, d⟩, _⟩ := I.list h
 obtain ⟨its', r', ⟨o', n', e', _, _, d'⟩, _⟩ := I.list h'
 rw [e] at e'; cases e'
 rw [d] at d'
 injection d' with d1 _
 have : its = its' := by simpa using congrArg Array.toList d1
 subst this
 exact r.inj r'
theorem Inv.tuple_inj (I : Inv X pins σ H s) (h : SqT X.K H a xs) (h' : SqT X.K H a ys) : xs = ys := by
 obtain ⟨its, r, ⟨o, e, _, n, d⟩, _⟩ := I.tuple h
 obtain ⟨its', r', ⟨o', e', _, n', d'⟩, _⟩ := I.tuple h'
 rw [e] at e'; cases e'
 rw [d] at d'
 injection d' with d1 _
 have : its = its' := by simpa using congrArg Array.toList d1
 subst this
 exact r.inj r'
end
abbrev Cx.wish (X : Cx) (E : Value → Shared → Prop) : Cx := { X with xe := E }
abbrev Cx.nox (X : Cx) : Cx := X.wish fun _ _ => False
theorem Cx.Ok.wish {X : Cx} (ok : X.Ok) (E : Value → Shared → Prop) : (X.wish E).Ok :=
 ⟨ok.mod, ok.kind, ok.glob, ok.blt, ok.above, ok.inj, ok.has, ok.cab, ok.hd, ok.frames, ok.stk, ok.exf, ok.bs, ok.bsz, ok.noex, ok.exfs, ok.funs, ok.frf⟩
theorem Cx.Ok.unwish {X : Cx} {E : Value → Shared → Prop} (ok : (X.wish E).Ok) : X.Ok :=
 ⟨ok.mod, ok.kind, ok.glob, ok.blt, ok.above, ok.inj, ok.has, ok.cab, ok.hd, ok.frames, ok.stk, ok.exf, ok.bs, ok.bsz, ok.noex, ok.exfs, ok.funs, ok.frf⟩
section
variable {X : Cx} {pins : List (Addr × Obj)} {σ : St} {H : Hp} {s : Shared} {E : Value → Shared → Prop}
theorem Inv.wish (I : Inv X pins σ H s) (E : Value → Shared → Prop) : Inv (X.wish E) pins σ H s := ⟨I.ok.wish E, I.os, I.bare, I.base, I.loc, I.cell, I.free, I.freeC, I.pin, I.hok, I.len⟩
theorem Inv.unwish (I : Inv (X.wish E) pins σ H s) : Inv X pins σ H s := ⟨I.ok.unwish, I.os, I.bare, I.base, I.loc, I.cell, I.free, I.freeC, I.pin, I.hok, I.len⟩
theorem SP.unwish {D : dE} {f : Flow} {s' : Shared} (h : SP (X.wish E) pins D f s') : SP X pins D f s' := by
 cases f with
 | next => obtain ⟨σ', H', I, q⟩ := h; exact ⟨σ', H', I.unwish, q⟩
 | brk => obtain ⟨σ', H', I, q⟩ := h; exact ⟨σ', H', I.unwish, q⟩
 | cont => obtain ⟨σ', H', I, q⟩ := h; exact ⟨σ', H', I.unwish, q⟩
 | ret u => obtain ⟨v, σ', H', I, r, q⟩ := h; exact ⟨v, σ', H', I.unwish, r, q⟩
theorem PE.nox {e : Expr} {t : TE} (h : PE X.nox e t) : PE X e t := fun pins s σ H Q I hw =>
 wpAny_mono (h pins s σ H Q (I.wish _) hw) (fun _ _ ⟨v, H', I', r, q⟩ => ⟨v, H', I'.unwish, r, q⟩) fun _ _ z => False.elim z
theorem PSs.nox {st : List Stmt} {t : TS} (h : PSs X.nox st t) : PSs X st t := fun pins s σ H D I hw =>
 wpAny_mono (h pins s σ H D (I.wish _) hw) (fun _ _ q => q.unwish) fun _ _ z => False.elim z
end
section
variable {X : Cx} {st : Stmt} {bP : List Stmt} {t u : TS} {e : Expr} {te : TE} {pos : Pos}
def aG : TS := fun D σ H => D.nx σ H
def av (t u : TS) : TS := fun D σ H => t { D with nx := u D } σ H
theorem xt : PSs X [] aG := fun _ _ σ H _ I h => wpAny_execs_nil ⟨σ, H, I, h⟩
theorem uB (h1 : PS X st t) (h2 : PSs X bP u) : PSs X (st :: bP) (av t u) := by
  intro pins s σ H D I h
  refine wpAny_execs_cons (thn (h1 pins s σ H { D with nx := u D } I h) fun f s1 q => ?_)
  cases f with
  | next =>
    obtain ⟨σ', H', I', q⟩ := q
    exact h2 pins s1 σ' H' D I' q
  | ret v => exact q
  | brk => exact q
  | cont => exact q
theorem wY (h1 : PS X st t) : PSs X [st] t := by
 intro pins s σ H D I h
 refine wpAny_execs_cons (thn (h1 pins s σ H D I h) fun f s1 q => ?_)
 cases f with
 | next => exact wpAny_execs_nil q
 | ret v => exact q
 | brk => exact q
 | cont => exact q
theorem Inv.quiet {pins : List (Addr × Obj)} {σ : St} {H : Hp} {s : Shared} (I : Inv X pins σ H s) : interactive X.env = false := by simp [interactive, I.ok.kind]
def cX (te : TE) : TS := fun D σ H => te σ H fun _ H1 => D.nx σ H1
theorem xE (he : PE X e te) (hs : swapsWith e none pos.line X.env = pure false := by rfl) : PS X (.Expr e pos) (cX te) := by
 intro pins s σ H D I h
 exact wpAny_Expr_any (thn (he pins s σ H _ I h) fun v s1 ⟨x, H1, I1, r1, q1⟩ => ⟨σ, H1, I1, q1⟩) I.quiet hs
def aB (te : TE) : TS := fun D σ H => te σ H D.rt
theorem zf (he : PE X e te) : PS X (.Return (some e) pos) (aB te) := by
 intro pins s σ H D I h
 exact wpAny_Return_some (thn (he pins s σ H _ I h) fun v s1 ⟨x, H1, I1, r1, q1⟩ => ⟨x, σ, H1, I1, r1, q1⟩)
def fv : TS := fun _ _ _ => False
theorem tM : PS X st fv := fun _ _ _ _ _ _ h => h.elim
end
abbrev TG := V → St → Hp → (St → Hp → Prop) → Prop
abbrev TGs := List V → St → Hp → (St → Hp → Prop) → Prop
def PG (X : Cx) (target : Expr) (t : TG) : Prop :=
 ∀ (pins : List (Addr × Obj)) (s : Shared) (σ : St) (H : Hp) (v : V) (u : Value) (Q : St → Hp → Prop), Inv X pins σ H s → aC v u → t v σ H Q →
  wpAny (model X.prog X.w) X.A (assign target X.env u) (fun _ s' => ∃ σ' H', Inv X pins σ' H' s' ∧ Q σ' H') X.xe s
def PGs (X : Cx) (ts : List Expr) (t : TGs) : Prop :=
 ∀ (pins : List (Addr × Obj)) (s : Shared) (σ : St) (H : Hp) (vs : List V) (us : List Value) (Q : St → Hp → Prop), Inv X pins σ H s → aA vs us → t vs σ H Q →
  wpAny (model X.prog X.w) X.A (assignInOrder ((assignEach ts X.env).map (·.2)) us) (fun _ s' => ∃ σ' H', Inv X pins σ' H' s' ∧ Q σ' H') X.xe s
abbrev uP := V → V → V → Hp → (Hp → Prop) → Prop
def pw (X : Cx) (t : uP) : Prop :=
 ∀ (pins : List (Addr × Obj)) (s : Shared) (σ : St) (H : Hp) (o i v : V) (ov iv u : Value) (Q : Hp → Prop), Inv X pins σ H s → aC o ov → aC i iv → aC v u → t o i v H Q →
  wpAny (model X.prog X.w) X.A (setItem ov iv u) (fun _ s' => ∃ H', Inv X pins σ H' s' ∧ Q H') X.xe s
section
variable {X : Cx} {pos : Pos}
def aw (i : Nat) : TG := fun v σ H Q => Q (σ.set i (some v)) H
theorem gg {i : Nat} {x : Str} (hN : X.N.Nodup) (hi : X.N[i]? = some x) (hx : Loc X.env.scope x) (hf : X.fn x = true ∨ X.env.scope.names.lookup x = some .local := by first | exact .inl rfl | exact .inr rfl | assumption) : PG X (.Name x pos) (aw i) := by
 intro pins s σ H v u Q I r h
 exact wpAny_assign_Name (dY I hN hi hx r (fun s' I' => ⟨_, H, I', h⟩) hf)
def mx : TGs := fun vs σ H Q => vs = [] ∧ Q σ H
def eT (t : TG) (u : TGs) : TGs := fun vs σ H Q => ∃ v r, vs = v :: r ∧ t v σ H fun σ' H' => u r σ' H' Q
theorem oi : PGs X [] mx := by
 intro pins s σ H vs us Q I r h
 obtain ⟨e, h⟩ := h
 subst e
 cases r
 exact assignInOrder_nil ⟨σ, H, I, h⟩
theorem gK {e : Expr} {es : List Expr} {t : TG} {u : TGs} (h1 : PG X e t) (h2 : PGs X es u)
    (hs : (assignEach (e :: es) X.env).map (·.2) = assign e X.env :: (assignEach es X.env).map (·.2) := by rfl) : PGs X (e :: es) (eT t u) := by
  intro pins s σ H vs us Q I r h
  obtain ⟨v, vr, e1, h⟩ := h
  subst e1
  cases r with
  | cons r rr =>
    rw [hs]
    refine assignInOrder_cons (thn (h1 pins s σ H _ _ _ I r h) fun _ s1 ⟨σ1, H1, I1, q1⟩ => ?_)
    exact h2 pins s1 σ1 H1 _ _ Q I1 rr q1
def mK (K : W.Frag) (n : Nat) (t : TGs) : TG := fun v σ H Q => ∃ a xs, v = .ref a ∧ SqT K H a xs ∧ xs.length = n ∧ t xs σ H Q
theorem so {es : List Expr} {k : Nat} {t : TGs} {n : Nat} (hc : X.calm = true) (h : PGs X es t)
  (hn : (assignEach es X.env).length = n := by rfl) (hst : (assignEach es X.env).findIdx? (·.1) = none := by rfl) : PG X (.Tuple es k pos) (mK X.K n t) := by
 intro pins s σ H v u Q I r hw
 obtain ⟨a, xs, e1, hq, hl, hw⟩ := hw
 subst e1
 cases r
 obtain ⟨its, rv, ht, hz⟩ := I.tuple hq
 refine assign_Tuple_tuple (I.ok.hd hc) ht (by simp [hn, ← hl, rv.length]) hst fun h' hx => ?_
 have I1 : Inv X pins σ H { s with heap := h' } := I.kept (t' := s.toks) fun b o e => hx b o (Nat.ne_of_lt (Heap.lt_size e)) e
 exact h pins _ σ H xs _ Q I1 (by simpa using rv) hw
def pD (to ti : TE) (t : uP) : TG := fun v σ H Q => to σ H fun o H1 => ti σ H1 fun i H2 => t o i v H2 fun H3 => Q σ H3
theorem yc {o i : Expr} {to ti : TE} {t : uP} (ho : PE X o to) (hi : PE X i ti) (hs : pw X t)
  (ha : ∀ v, assign (.Subscript o i pos) X.env v = (do
   let ov ← holding [v] (eval o X.env)
   let iv ← holding [v, ov] (eval i X.env)
   standAt pos
   holding [v, ov, iv] (setItem ov iv v)
   release [v, ov, iv] []) := by intro _; rfl) : PG X (.Subscript o i pos) (pD to ti t) := by
 intro pins s σ H v u Q I r h
 rw [ha]
 refine wpAny_bind (wpAny_holding (thn (ho pins s σ H _ I h) fun ov s1 ⟨x, H1, I1, r1, q1⟩ => ?_))
 refine wpAny_bind (wpAny_holding (thn (hi pins s1 σ H1 _ I1 q1) fun iv s2 ⟨y, H2, I2, r2, q2⟩ => ?_))
 refine wpAny_bind (wpAny_standAt (wpAny_bind (wpAny_holding (thn (hs pins s2 σ H2 x y v ov iv u _ I2 r1 r2 r q2) fun _ s3 ⟨H3, I3, q3⟩ => ?_))))
 exact wpAny_release ⟨σ, H3, I3, q3⟩
def aF (te : TE) (g : TG) : TS := fun D σ H => te σ H fun x H1 => g x σ H1 D.nx
theorem rB {tg e : Expr} {te : TE} {g : TG} (he : PE X e te) (hg : PG X tg g) (hs : swapsWithSole [tg] e pos.line X.env = pure false := by rfl) (hw : swappedStores [tg] e X.env = pure none := by rfl)
  (h1 : (assignEach [tg] X.env).map (·.2) = [assign tg X.env] := by rfl) : PS X (.Assign [tg] e pos) (aF te g) := by
 intro pins s σ H D I h
 refine wpAny_Assign_stores (thn (he pins s σ H _ I h) fun v s1 ⟨x, H1, I1, r1, q1⟩ => ?_) hs hw
 rw [h1]
 exact thn (hg pins s1 σ H1 x v _ I1 r1 q1) fun _ s2 q => q
theorem ym {i : Nat} {x : Str} {e : Expr} {te : TE} {pos' : Pos} (hN : X.N.Nodup) (hi : X.N[i]? = some x) (hx : Loc X.env.scope x) (he : PE X e te) (hs : swapsWith e (some (.Name x pos')) pos.line X.env = pure false := by rfl) (hf : X.fn x = true ∨ X.env.scope.names.lookup x = some .local := by first | exact .inl rfl | exact .inr rfl | assumption) :
  PS X (.Assign [.Name x pos'] e pos) (aF te (aw i)) := by
 intro pins s σ H D I h
 refine wpAny_Assign_Name (thn (he pins s σ H _ I h) fun v s1 ⟨y, H1, I1, r1, q1⟩ => ?_) hs
 exact dY I1 hN hi hx r1 (fun s2 I2 => ⟨_, H1, I2, q1⟩) hf
end
section
variable {X : Cx} {pos : Pos}
def iD (c : TT) (tb : TS) : TS := fun D σ H => ∃ W : Nat → St → Hp → Prop, (∃ m, W m σ H) ∧ ∀ m σ H, W m σ H →
 c σ H fun b H1 => if b = true then ∃ N : St → Hp → Prop, (∀ σ' H', N σ' H' → ∃ m', m' < m ∧ W m' σ' H') ∧ tb { D with nx := N, ct := N, bk := D.nx } σ H1 else D.nx σ H1
theorem ux {c : Expr} {body : List Stmt} {tc : TT} {tb : TS} (hp : PassesOwn (model X.prog X.w) X.A X.env X.xe) (hc : PT X c tc) (hb : PSs X body tb) : PS X (.While c body [] pos) (iD tc tb) := by
  intro pins s σ H D I h
  obtain ⟨W, ⟨m0, w0⟩, turn⟩ := h
  refine wpAny_While (codeAny_whileLoop (fun n s' => ∃ σ' H', Inv X pins σ' H' s' ∧ W n σ' H') ?_ m0 ⟨σ, H, I, w0⟩)
  rintro n s1 ⟨σ1, H1, I1, w1⟩
  refine wpAny_passesOwn hp (thn (hc pins s1 σ1 H1 _ I1 (turn n σ1 H1 w1)) fun b s2 ⟨H2, I2, q2⟩ => ?_)
  cases b with
  | true =>
    obtain ⟨N, hN, q2⟩ := q2
    rw [if_pos rfl]
    refine wpAny_passesOwn hp (thn (hb pins s2 σ1 H2 _ I2 q2) fun f s3 q3 => ?_)
    cases f with
    | next =>
      obtain ⟨σ3, H3, I3, n3⟩ := q3
      obtain ⟨m', hm, w3⟩ := hN σ3 H3 n3
      exact ⟨m', hm, σ3, H3, I3, w3⟩
    | cont =>
      obtain ⟨σ3, H3, I3, n3⟩ := q3
      obtain ⟨m', hm, w3⟩ := hN σ3 H3 n3
      exact ⟨m', hm, σ3, H3, I3, w3⟩
    | brk => exact q3
    | ret v => exact q3
  | false =>
    rw [if_neg Bool.false_ne_true]
    exact wpAny_execs_nil ⟨σ1, H2, I2, q2⟩
end
structure It where
 go : Nat → Hp → Prop
 yld : Nat → Hp → V → Hp → Prop
 stop : Nat → Hp → Prop
def gq (X : Cx) (pins : List (Addr × Obj)) (H : Hp) (b : Addr) : Prop :=
 H b = none ∧ b ≠ X.env.locals ∧ b ∉ X.fs ∧ (b ∈ X.ex ∨ X.s₀.heap.objs.size ≤ b) ∧ (∀ x c, X.env.cells.lookup x = some c → c ≠ b) ∧ ∀ p ∈ X.pn ++ pins, p.1 ≠ b
theorem Inv.fpOk {X : Cx} {pins : List (Addr × Obj)} {σ : St} {H H' : Hp} {s : Shared} {b : Addr} (I : Inv X pins σ H s) (hb : s.heap.objs.size ≤ b) (hn : H' b = none) : gq X pins H' b := by
 refine ⟨hn, Nat.ne_of_gt (Nat.lt_of_lt_of_le I.lt hb), I.nofs hb, .inr (Nat.le_trans I.sz hb), fun x c e z => ?_, fun p hp z => ?_⟩
 · obtain ⟨v, q⟩ := I.cell x c e
   exact absurd (Nat.lt_of_lt_of_le q.lt (by rw [z]; exact hb)) (Nat.lt_irrefl _)
 · exact absurd (Nat.lt_of_lt_of_le (Heap.lt_size (I.pin p hp).1) (by rw [z]; exact hb)) (Nat.lt_irrefl _)
structure fM (P : Program) (w : World) (K : W.Frag) (tg : Expr) (J : It) (fp : List Addr) (it : Addr) (tn : Nat → Heap → Prop) : Prop where
 mem : it ∈ fp
 obj : ∀ i h, tn i h → ∀ b ∈ fp, ∃ o, h.get? b = some o ∧ ∀ v, o.data ≠ .cell v
 keep : ∀ i h h', tn i h → (∀ b ∈ fp, ∀ o, h.get? b = some o → h'.get? b = some o) → tn i h'
 item : ∀ (X : Cx), X.prog = P → X.w = w → X.K = K → X.calm = true → ∀ (i : Nat) (pins : List (Addr × Obj)) (s : Shared) (σ : St) (H : Hp) (E : Value → Shared → Prop), Inv X pins σ H s → (∀ b ∈ fp, gq X pins H b) → tn i s.heap → J.go i H →
  wpAny (model P w) X.A (pyNext (.ref it)) (fun r s1 => ∃ u, r = some u ∧
   wpAny (model P w) X.A (letOwnedTupleGo tg (.ref it) u) (fun _ s2 => ∃ x H', Inv X pins σ H' s2 ∧ aC x u ∧ J.yld i H x H' ∧ tn (i + 1) s2.heap ∧ ∀ b ∈ fp, H' b = none) E s1) E s
 done : ∀ (X : Cx), X.prog = P → X.w = w → X.K = K → X.calm = true → ∀ (i : Nat) (pins : List (Addr × Obj)) (s : Shared) (σ : St) (H : Hp) (E : Value → Shared → Prop), Inv X pins σ H s → (∀ b ∈ fp, gq X pins H b) → tn i s.heap → J.stop i H →
  wpAny (model P w) X.A (pyNext (.ref it)) (fun r s1 => r = none ∧ Inv X pins σ H s1) E s
 self : ∀ (A : Around) (i : Nat) (s : Shared) (Q : Value → Shared → Prop) (E : Value → Shared → Prop), tn i s.heap → Q (.ref it) s → wpAny (model P w) A (pyIter (.ref it)) Q E s
abbrev TI := St → Hp → (It → Hp → Prop) → Prop
def PIE (X : Cx) (pins : List (Addr × Obj)) (σ : St) (tg : Expr) (R : It → Hp → Prop) (itv : Value) (s2 : Shared) : Prop :=
 ∃ (it : Addr) (fp : List Addr) (tn : Nat → Heap → Prop) (J : It) (H' : Hp), itv = .ref it ∧ Inv X pins σ H' s2 ∧ fM X.prog X.w X.K tg J fp it tn ∧ tn 0 s2.heap ∧ (∀ b ∈ fp, gq X pins H' b) ∧ R J H'
def PI (X : Cx) (tg iter : Expr) (wi : TI) : Prop :=
 ∀ (pins : List (Addr × Obj)) (s : Shared) (σ : St) (H : Hp) (R : It → Hp → Prop), Inv X pins σ H s → wi σ H R →
  wpAny (model X.prog X.w) X.A (eval iter X.env) (fun v s1 => wpAny (model X.prog X.w) X.A (pyIter v) (PIE X pins σ tg R) X.xe s1) X.xe s
theorem iU {M : Model} {A : Around} {E : Value → Shared → Prop} {s : Shared} {tg : Expr} {it : Addr} {u : Value} {o : Obj} {n : String} {vs : Array Value} {Q : Unit → Shared → Prop} (ho : s.heap.get? it = some o) (hc : o.cls = .type n) (hd : o.data = .fields vs)
    (hn : ["enumerate", "zip", "dict_itemiterator", "dict_reverseitemiterator", "odict_iterator", "itertools.zip_longest", "itertools.pairwise"].contains n = false) (hQ : Q () s) : wpAny M A (letOwnedTupleGo tg (.ref it) u) Q E s := by
  unfold letOwnedTupleGo
  cases tg <;> first
    | exact wpAny_pure hQ
    | (cases u <;> first
        | exact wpAny_pure hQ
        | (refine wpAny_bind (wpAny_load ho ?_)
           rw [hc, hd]
           show wpAny M A (if (["enumerate", "zip", "dict_itemiterator", "dict_reverseitemiterator", "odict_iterator", "itertools.zip_longest", "itertools.pairwise"].contains n && vs[0]? == some (rawInt _)) = true then _ else _) Q E s
           rw [if_neg (by intro h; rw [hn, Bool.false_and] at h; cases h)]
           exact wpAny_pure hQ))
def Itl (K : W.Frag) (a : Addr) : It :=
 ⟨fun i H => ∃ xs x, SqL K H a xs ∧ xs[i]? = some x, fun i H x H' => H' = H ∧ ∀ xs, SqL K H a xs → xs[i]? = some x, fun i H => ∃ xs, SqL K H a xs ∧ xs.length ≤ i⟩
def Itt (K : W.Frag) (a : Addr) : It :=
 ⟨fun i H => ∃ xs x, SqT K H a xs ∧ xs[i]? = some x, fun i H x H' => H' = H ∧ ∀ xs, SqT K H a xs → xs[i]? = some x, fun i H => ∃ xs, SqT K H a xs ∧ xs.length ≤ i⟩
def Itr (lo : Int) (n : Nat) : It := ⟨fun i _ => i < n, fun i H x H' => H' = H ∧ x = .int (lo + i), fun i _ => n ≤ i⟩
theorem qP {P : Program} {w : World} {K : W.Frag} {tg : Expr} (a it : Addr) : fM P w K tg (Itl K a) [it] it (fun i h => h.IsListIter it a i) where
 mem := by simp
 obj := fun i h st b hb => by
  have e : b = it := by simpa using hb
  subst e
  obtain ⟨o, e, c, d⟩ := st
  exact ⟨o, e, fun v z => by rw [d] at z; cases z⟩
 keep := fun i h h' st k => st.at fun o e => k it (by simp) o e
 item := by
  intro X hP hw hK hc i pins s σ H E I hf st hg
  subst hP hw hK
  obtain ⟨xs, x, hq, hx⟩ := hg
  obtain ⟨its, rv, p, hz⟩ := I.list hq
  obtain ⟨u, hu, ru⟩ := rv.get hx
  obtain ⟨f0, f1, f2, f3, f4, f5⟩ := hf it (by simp)
  refine wpAny_pyNext_list_item st p.isList (x := u) (by simpa using hu) fun h' st' sb => ?_
  have I1 : Inv X pins σ H { s with heap := h' } := I.turned (t' := s.toks) (fun b o hb e => (sb.2 b hb).trans e) f0 f1 f3 f4 f5
  obtain ⟨o, e, c, d⟩ := id st'
  exact ⟨u, rfl, iU (s := { s with heap := h' }) e c d (by decide) ⟨x, H, I1, ru, ⟨rfl, fun ys hy => by rw [I.list_inj hy hq]; exact hx⟩, st', fun b hb => (hf b hb).1⟩⟩
 done := by
  intro X hP hw hK hc i pins s σ H E I hf st hg
  subst hP hw hK
  obtain ⟨xs, hq, hx⟩ := hg
  obtain ⟨its, rv, p, hz⟩ := I.list hq
  obtain ⟨f0, f1, f2, f3, f4, f5⟩ := hf it (by simp)
  have hl := rv.length
  exact wpAny_pyNext_list_end (I.ok.hd hc) st p.isList (by simp; omega) fun h' eb => ⟨rfl, I.turned (t' := s.toks) (fun b o hb e => eb b o hb e) f0 f1 f3 f4 f5⟩
 self := fun _ _ _ _ _ st h => wpAny_pyIter_listiter st h
theorem qy {P : Program} {w : World} {K : W.Frag} {tg : Expr} (a it : Addr) : fM P w K tg (Itt K a) [it] it (fun i h => h.IsTupleIter it a i) where
 mem := by simp
 obj := fun i h st b hb => by
  have e : b = it := by simpa using hb
  subst e
  obtain ⟨o, e, c, d⟩ := st
  exact ⟨o, e, fun v z => by rw [d] at z; cases z⟩
 keep := fun i h h' st k => st.at fun o e => k it (by simp) o e
 item := by
  intro X hP hw hK hc i pins s σ H E I hf st hg
  subst hP hw hK
  obtain ⟨xs, x, hq, hx⟩ := hg
  obtain ⟨its, rv, p, hz⟩ := I.tuple hq
  obtain ⟨u, hu, ru⟩ := rv.get hx
  obtain ⟨f0, f1, f2, f3, f4, f5⟩ := hf it (by simp)
  refine wpAny_pyNext_tuple_item st (show s.heap.IsTuple a its.toArray from p) (x := u) (by simpa using hu) fun h' st' sb => ?_
  have I1 : Inv X pins σ H { s with heap := h' } := I.turned (t' := s.toks) (fun b o hb e => (sb.2 b hb).trans e) f0 f1 f3 f4 f5
  obtain ⟨o, e, c, d⟩ := id st'
  exact ⟨u, rfl, iU (s := { s with heap := h' }) e c d (by decide) ⟨x, H, I1, ru, ⟨rfl, fun ys hy => by rw [I.tuple_inj hy hq]; exact hx⟩, st', fun b hb => (hf b hb).1⟩⟩
 done := by
  intro X hP hw hK hc i pins s σ H E I hf st hg
  subst hP hw hK
  obtain ⟨xs, hq, hx⟩ := hg
  obtain ⟨its, rv, p, hz⟩ := I.tuple hq
  obtain ⟨f0, f1, f2, f3, f4, f5⟩ := hf it (by simp)
  have hl := rv.length
  exact wpAny_pyNext_tuple_end (I.ok.hd hc) st (show s.heap.IsTuple a its.toArray from p) (by simp; omega) fun h' eb => ⟨rfl, I.turned (t' := s.toks) (fun b o hb e => eb b o hb e) f0 f1 f3 f4 f5⟩
 self := fun _ _ _ _ _ st h => wpAny_pyIter_tupleiter st h
theorem qg {P : Program} {w : World} {K : W.Frag} {tg : Expr} (it : Addr) (lo : Int) (n : Nat) : fM P w K tg (Itr lo n) [it] it (fun i h => IsRangeIter h it (lo + (i : Nat) * 1) ((n : Int) - (i : Nat)) 1) where
 mem := by simp
 obj := fun i h st b hb => by
  have e : b = it := by simpa using hb
  subst e
  exact ⟨_, st, fun v z => by
   have z' : Data.fields _ = Data.cell v := z
   cases z'⟩
 keep := fun i h h' st k => k it (by simp) _ st
 item := by
  intro X hP hw hK hc i pins s σ H E I hf st hg
  subst hP hw hK
  obtain ⟨f0, f1, f2, f3, f4, f5⟩ := hf it (by simp)
  have W := Walks.range (prog := X.prog) (w := X.w) (I.ok.hd hc) it lo 1 n
  refine W.item i s _ _ hg st fun v h' tk hv st' kk => ?_
  obtain ⟨t, rfl⟩ := hv
  have I1 : Inv X pins σ H { s with heap := h', toks := tk } := I.turned (fun b o hb e => kk b o (by simpa using hb) e) f0 f1 f3 f4 f5
  refine ⟨_, rfl, iU (s := { s with heap := h', toks := tk }) (n := "range_iterator") st' rfl rfl (by decide) ⟨.int (lo + i), H, I1, ⟨t, ?_⟩, ⟨rfl, rfl⟩, st', fun b hb => (hf b hb).1⟩⟩
  rw [Int.mul_one]
 done := by
  intro X hP hw hK hc i pins s σ H E I hf st hg
  subst hP hw hK
  obtain ⟨f0, f1, f2, f3, f4, f5⟩ := hf it (by simp)
  exact wpAny_pyNext_range_end (I.ok.hd hc) st (by have : n ≤ i := hg; omega) fun h' eb => ⟨rfl, I.turned (t' := s.toks) (fun b o hb e => eb b o hb e) f0 f1 f3 f4 f5⟩
 self := fun _ _ _ _ _ st h => wpAny_pyIter_rangeiter st h
end L2
namespace L2
open PySem PySem.Spec PyProof.Rows
section
variable {X : Cx} {tg : Expr}
theorem vC {pins : List (Addr × Obj)} {σ : St} {H : Hp} {s : Shared} {R : It → Hp → Prop} {E : Value → Shared → Prop} {lo hi : Int} {t u v : Tok} {tk : Nat} (I : Inv X pins σ H s) (h1 : -(2 ^ 62) ≤ lo) (h2 : lo < 2 ^ 62) (h3 : -(2 ^ 62) ≤ hi) (h4 : hi < 2 ^ 62)
   (q : R (Itr lo (hi - lo).toNat) H) : wpAny (model X.prog X.w) X.A (pyIter (.ref s.heap.objs.size)) (PIE X pins σ tg R) E { s with heap := s.heap.push { cls := .type "range", data := .fields #[.int lo t, .int hi u, .int 1 v] }, toks := tk } := by
 refine wpAny_pyIter_range (IsRange.new ..) (small_one h1 h2 h3 h4) ?_
 have I1 : Inv X pins σ H { s with heap := s.heap.push { cls := .type "range", data := .fields #[.int lo t, .int hi u, .int 1 v] }, toks := tk } := I.kept fun b o e => Heap.get?_push_of_some _ e
 refine ⟨(s.heap.push { cls := .type "range", data := .fields #[.int lo t, .int hi u, .int 1 v] }).objs.size, [(s.heap.push { cls := .type "range", data := .fields #[.int lo t, .int hi u, .int 1 v] }).objs.size], _, _, H, rfl,
   I1.kept (t' := tk) fun b o e => Heap.get?_push_of_some _ e, qg _ lo (hi - lo).toNat, ?_, fun b hb => ?_, q⟩
 · have e1 : lo + ((0 : Nat) : Int) * 1 = lo := by simp
   have e2 : (((hi - lo).toNat : Nat) : Int) - ((0 : Nat) : Int) = Builtin.Range.rangeSize lo hi 1 := by rw [rangeSize_one]; split <;> omega
   show IsRangeIter _ _ (lo + ((0 : Nat) : Int) * 1) ((((hi - lo).toNat : Nat) : Int) - ((0 : Nat) : Int)) 1
   rw [e1, e2]
   exact Heap.get?_push_size _ rfl
 · have e : b = (s.heap.push { cls := .type "range", data := .fields #[.int lo t, .int hi u, .int 1 v] }).objs.size := by simpa using hb
   subst e
   exact I1.fpOk (Nat.le_refl _) (I1.hok.fresh (Nat.le_refl _))
def iM (ta : TA) : TI := fun σ H R => ta σ H fun vs H1 => ∃ j : Int, vs = [.int j] ∧ -(2 ^ 62) ≤ j ∧ j < 2 ^ 62 ∧ R (Itr 0 j.toNat) H1
theorem sj {a : Expr} {ta : TA} {p pos : Pos} (hg : Gl X "range") (hm : X.mg "range" = none) (ha : PA X [a] ta) (hs : starEach [a] X.env = [(false, eval a X.env)] := by rfl) : PI X tg (.Call (.Name "range" p) [a] [] pos) (iM ta) := by
  intro pins s σ H R I h
  refine Call_ (dw I hg hm boot_range (PyProof.Rows.callWith_type1 (thn (ha pos pins s σ H _ I h) fun us s1 ⟨vs, H1, I1, r1, q1⟩ => ?_) hs rfl))
  obtain ⟨j, e, q1, q2, q⟩ := q1
  subst e
  cases r1 with
  | cons r rr =>
    cases rr
    obtain ⟨t, rfl⟩ := r
    exact call_range_1 (vC I1 (by omega) (by omega) q1 q2 (by simpa using q))
def iA (wi : TI) (g : TG) (tb : TS) : TS := fun D σ H => wi σ H fun J H1 => ∃ W : Nat → Nat → St → Hp → Prop, (∃ m, W 0 m σ H1) ∧ ∀ i m σ H, W i m σ H →
 (J.stop i H ∧ D.nx σ H) ∨ (J.go i H ∧ ∃ N : St → Hp → Prop, (∀ σ' H', N σ' H' → ∃ m', m' < m ∧ W (i + 1) m' σ' H') ∧ ∀ x H', J.yld i H x H' → g x σ H' fun σ2 H2 => tb { D with nx := N, ct := N, bk := D.nx } σ2 H2)
def ii (fp : List Addr) (h : Heap) : List (Addr × Obj) := fp.filterMap fun b => (h.get? b).map fun o => (b, o)
theorem eW {fp : List Addr} {h : Heap} {b : Addr} {o : Obj} (hb : b ∈ fp) (e : h.get? b = some o) : (b, o) ∈ ii fp h := List.mem_filterMap.mpr ⟨b, hb, by rw [e]; rfl⟩
theorem qU {fp : List Addr} {h : Heap} {p : Addr × Obj} (hp : p ∈ ii fp h) : p.1 ∈ fp ∧ h.get? p.1 = some p.2 := by
  obtain ⟨b, hb, e⟩ := List.mem_filterMap.mp hp
  cases q : h.get? b with
  | none => rw [q] at e; cases e
  | some o =>
    rw [q] at e
    have e' : (b, o) = p := Option.some.inj e
    subst e'
    exact ⟨hb, q⟩
theorem Inv.pinned {pins : List (Addr × Obj)} {σ : St} {H : Hp} {s : Shared} {fp : List Addr} (I : Inv X pins σ H s) (hf : ∀ b ∈ fp, gq X pins H b) (ho : ∀ b ∈ fp, ∃ o, s.heap.get? b = some o ∧ ∀ v, o.data ≠ .cell v) : Inv X (pins ++ ii fp s.heap) σ H s :=
 I.pins_of fun p hp => (List.mem_append.mp hp).elim (fun z => I.pin p (List.mem_append_right _ z)) fun z => by
  obtain ⟨hb, e⟩ := qU z
  obtain ⟨f0, f1, f2, _⟩ := hf p.1 hb
  obtain ⟨o, e', d⟩ := ho p.1 hb
  rw [e] at e'; cases e'
  exact ⟨e, f0, f1, f2, d⟩
theorem Inv.unpinned {pins pl : List (Addr × Obj)} {σ : St} {H : Hp} {s : Shared} (I : Inv X (pins ++ pl) σ H s) : Inv X pins σ H s := I.pins_of fun p hp => I.pin p (List.mem_append_right _ (List.mem_append_left _ hp))
theorem qO {iter : Expr} {body : List Stmt} {wi : TI} {g : TG} {tb : TS} {pos : Pos} (hp : PassesOwn (model X.prog X.w) X.A X.env X.xe) (hc : X.calm = true) (hi : PI X tg iter wi) (hg : PG X tg g) (hb : PSs X body tb)
   (hs : ∀ x, foldedSetIterable iter X.env x = pure x := by intro _; rfl) : PS X (.For tg iter body [] pos) (iA wi g tb) := by
 intro pins s σ H D I h
 refine wpAny_For (thn (hi pins s σ H _ I h) fun v s1 h1 => thn h1 fun itv s2 h2 => ?_) hs
 obtain ⟨it, fp, tn, J, H2, e, I2, T, st2, f2, W, ⟨m0, w0⟩, turn⟩ := h2
 subst e
 have stat : ∀ {H' : Hp}, (∀ b ∈ fp, H' b = none) → ∀ b ∈ fp, gq X pins H' b := fun hn b hb => ⟨hn b hb, (f2 b hb).2⟩
 refine codeAny_forLoop_any (fun n s' => ∃ i σ' H', Inv X pins σ' H' s' ∧ tn i s'.heap ∧ (∀ b ∈ fp, H' b = none) ∧ W i n σ' H') ?_ m0 ⟨0, σ, H2, I2, st2, fun b hb => (f2 b hb).1, w0⟩
 rintro n s3 ⟨i, σ3, H3, I3, st3, fr3, w3⟩
 rcases turn i n σ3 H3 w3 with ⟨stop, qn⟩ | ⟨go, N, hN, step⟩
 · refine wpAny_passesOwn hp (thn (T.done X rfl rfl rfl hc i pins s3 σ3 H3 X.xe I3 (stat fr3) st3 stop) fun r s4 ⟨hr, I4⟩ => ?_)
   subst hr
   exact wpAny_execs_nil ⟨σ3, H3, I4, qn⟩
 · refine wpAny_passesOwn hp (thn (T.item X rfl rfl rfl hc i pins s3 σ3 H3 X.xe I3 (stat fr3) st3 go) fun r s4 ⟨u, hr, h4⟩ => ?_)
   subst hr
   refine wpAny_passesOwn hp (thn h4 fun _ s5 ⟨x, H5, I5, r5, y5, st5, fr5⟩ => ?_)
   have I5' := I5.pinned (stat fr5) (T.obj _ _ st5)
   refine wpAny_passesOwn hp (thn (hg _ s5 σ3 H5 x u _ I5' r5 (step x H5 y5)) fun _ s6 ⟨σ6, H6, I6, q6⟩ => ?_)
   refine wpAny_passesOwn hp (thn (hb _ s6 σ6 H6 _ I6 q6) fun f s7 q7 => ?_)
   have again : ∀ {σ7 : St} {H7 : Hp}, Inv X (pins ++ ii fp s5.heap) σ7 H7 s7 → N σ7 H7 → ∃ m, m < n ∧ ∃ i σ' H', Inv X pins σ' H' s7 ∧ tn i s7.heap ∧ (∀ b ∈ fp, H' b = none) ∧ W i m σ' H' := fun {σ7 H7} I7 n7 => by
    obtain ⟨m', hm, w7⟩ := hN σ7 H7 n7
    refine ⟨m', hm, i + 1, σ7, H7, I7.unpinned, T.keep _ _ _ st5 fun b hb o e => (I7.pin (b, o) (List.mem_append_right _ (List.mem_append_right _ (eW hb e)))).1, fun b hb => ?_, w7⟩
    obtain ⟨o, e, d⟩ := T.obj _ _ st5 b hb
    exact (I7.pin (b, o) (List.mem_append_right _ (List.mem_append_right _ (eW hb e)))).2.1
   cases f with
   | next => obtain ⟨σ7, H7, I7, n7⟩ := q7; exact again I7 n7
   | cont => obtain ⟨σ7, H7, I7, n7⟩ := q7; exact again I7 n7
   | brk => obtain ⟨σ7, H7, I7, q7⟩ := q7; exact ⟨σ7, H7, I7.unpinned, q7⟩
   | ret v => obtain ⟨x7, σ7, H7, I7, r7, q7⟩ := q7; exact ⟨x7, σ7, H7, I7.unpinned, r7, q7⟩
end
theorem vo {K : W.Frag} {a : Addr} {xs : List V} {g : TG} {tb : TS} {D : dE} {σ : St} {H : Hp} (Pv : Nat → St → Hp → Prop) (h0 : Pv 0 σ H) (hl : ∀ i σ H, i ≤ xs.length → Pv i σ H → SqL K H a xs)
   (hs : ∀ i x σ H, xs[i]? = some x → Pv i σ H → g x σ H fun σ2 H2 => tb { D with nx := Pv (i + 1), ct := Pv (i + 1), bk := D.nx } σ2 H2) (hd : ∀ σ H, Pv xs.length σ H → D.nx σ H) :
   ∃ W : Nat → Nat → St → Hp → Prop, (∃ m, W 0 m σ H) ∧ ∀ i m σ H, W i m σ H →
    ((Itl K a).stop i H ∧ D.nx σ H) ∨ ((Itl K a).go i H ∧ ∃ N : St → Hp → Prop, (∀ σ' H', N σ' H' → ∃ m', m' < m ∧ W (i + 1) m' σ' H') ∧ ∀ x H', (Itl K a).yld i H x H' → g x σ H' fun σ2 H2 => tb { D with nx := N, ct := N, bk := D.nx } σ2 H2) := by
 refine ⟨fun i m σ H => m = xs.length - i ∧ i ≤ xs.length ∧ Pv i σ H, ⟨xs.length, by simp, Nat.zero_le _, h0⟩, ?_⟩
 rintro i m σ H ⟨rfl, hi, p⟩
 have q := hl i σ H hi p
 by_cases hlt : i < xs.length
 · refine .inr ⟨⟨xs, xs[i], q, by simp [hlt]⟩, Pv (i + 1), fun σ' H' p' => ⟨xs.length - (i + 1), by omega, rfl, hlt, p'⟩, fun x H' y => ?_⟩
   obtain ⟨e, y⟩ := y
   subst e
   exact hs i x σ _ (y xs q) p
 · have e : i = xs.length := by omega
   subst e
   exact .inl ⟨⟨xs, q, Nat.le_refl _⟩, hd σ H p⟩
theorem wW {K : W.Frag} {a : Addr} {xs : List V} {g : TG} {tb : TS} {D : dE} {σ : St} {H : Hp} (Pv : Nat → St → Hp → Prop) (h0 : Pv 0 σ H) (hl : ∀ i σ H, i ≤ xs.length → Pv i σ H → SqT K H a xs)
   (hs : ∀ i x σ H, xs[i]? = some x → Pv i σ H → g x σ H fun σ2 H2 => tb { D with nx := Pv (i + 1), ct := Pv (i + 1), bk := D.nx } σ2 H2) (hd : ∀ σ H, Pv xs.length σ H → D.nx σ H) :
   ∃ W : Nat → Nat → St → Hp → Prop, (∃ m, W 0 m σ H) ∧ ∀ i m σ H, W i m σ H →
    ((Itt K a).stop i H ∧ D.nx σ H) ∨ ((Itt K a).go i H ∧ ∃ N : St → Hp → Prop, (∀ σ' H', N σ' H' → ∃ m', m' < m ∧ W (i + 1) m' σ' H') ∧ ∀ x H', (Itt K a).yld i H x H' → g x σ H' fun σ2 H2 => tb { D with nx := N, ct := N, bk := D.nx } σ2 H2) := by
 refine ⟨fun i m σ H => m = xs.length - i ∧ i ≤ xs.length ∧ Pv i σ H, ⟨xs.length, by simp, Nat.zero_le _, h0⟩, ?_⟩
 rintro i m σ H ⟨rfl, hi, p⟩
 have q := hl i σ H hi p
 by_cases hlt : i < xs.length
 · refine .inr ⟨⟨xs, xs[i], q, by simp [hlt]⟩, Pv (i + 1), fun σ' H' p' => ⟨xs.length - (i + 1), by omega, rfl, hlt, p'⟩, fun x H' y => ?_⟩
   obtain ⟨e, y⟩ := y
   subst e
   exact hs i x σ _ (y xs q) p
 · have e : i = xs.length := by omega
   subst e
   exact .inl ⟨⟨xs, q, Nat.le_refl _⟩, hd σ H p⟩
theorem qV {lo : Int} {n : Nat} {g : TG} {tb : TS} {D : dE} {σ : St} {H : Hp} (Pv : Nat → St → Hp → Prop) (h0 : Pv 0 σ H)
   (hs : ∀ i σ H, i < n → Pv i σ H → g (.int (lo + i)) σ H fun σ2 H2 => tb { D with nx := Pv (i + 1), ct := Pv (i + 1), bk := D.nx } σ2 H2) (hd : ∀ σ H, Pv n σ H → D.nx σ H) :
   ∃ W : Nat → Nat → St → Hp → Prop, (∃ m, W 0 m σ H) ∧ ∀ i m σ H, W i m σ H →
    ((Itr lo n).stop i H ∧ D.nx σ H) ∨ ((Itr lo n).go i H ∧ ∃ N : St → Hp → Prop, (∀ σ' H', N σ' H' → ∃ m', m' < m ∧ W (i + 1) m' σ' H') ∧ ∀ x H', (Itr lo n).yld i H x H' → g x σ H' fun σ2 H2 => tb { D with nx := N, ct := N, bk := D.nx } σ2 H2) := by
 refine ⟨fun i m σ H => m = n - i ∧ i ≤ n ∧ Pv i σ H, ⟨n, by simp, Nat.zero_le _, h0⟩, ?_⟩
 rintro i m σ H ⟨rfl, hi, p⟩
 by_cases hlt : i < n
 · refine .inr ⟨hlt, Pv (i + 1), fun σ' H' p' => ⟨n - (i + 1), by omega, rfl, hlt, p'⟩, fun x H' y => ?_⟩
   obtain ⟨e, y⟩ := y
   subst e y
   exact hs i σ _ hlt p
 · have e : i = n := by omega
   subst e
   exact .inl ⟨Nat.le_refl _, hd σ H p⟩
end L2
namespace L2
open PySem PySem.Spec PyProof.Rows
abbrev R2 := V → V → Hp → VK → Prop
def OpR (X : Cx) (f : Value → Value → Sem Value) (r : R2) : Prop :=
 ∀ (pins : List (Addr × Obj)) (s : Shared) (σ : St) (H : Hp) (x y : V) (v u : Value) (Q : VK), Inv X pins σ H s → aC x v → aC y u → r x y H Q →
  wpAny (model X.prog X.w) X.A (f v u) (EP X pins σ Q) X.xe s
def UnR (X : Cx) (f : Value → Sem Value) (r : V → Hp → VK → Prop) : Prop :=
 ∀ (pins : List (Addr × Obj)) (s : Shared) (σ : St) (H : Hp) (x : V) (v : Value) (Q : VK), Inv X pins σ H s → aC x v → r x H Q →
  wpAny (model X.prog X.w) X.A (f v) (EP X pins σ Q) X.xe s
def bF (X : Cx) (f : Value) (r : List V → Hp → VK → Prop) : Prop :=
 ∀ (pins : List (Addr × Obj)) (s : Shared) (σ : St) (H : Hp) (xs : List V) (us : List Value) (Q : VK), Inv X pins σ H s → aA xs us → r xs H Q →
  wpAny (model X.prog X.w) X.A (call f us) (EP X pins σ Q) X.xe s
def Di (X : Cx) (r : V → Hp → (Bool → Hp → Prop) → Prop) : Prop :=
 ∀ (pins : List (Addr × Obj)) (s : Shared) (σ : St) (H : Hp) (x : V) (v : Value) (Q : Bool → Hp → Prop), Inv X pins σ H s → aC x v → r x H Q →
  wpAny (model X.prog X.w) X.A (truthy v) (TP X pins σ Q) X.xe s
def tOp (r : R2) (ta tb : TE) : TE := fun σ H Q => ta σ H fun x H1 => tb σ H1 fun y H2 => r x y H2 Q
def tUn (r : V → Hp → VK → Prop) (ta : TE) : TE := fun σ H Q => ta σ H fun x H1 => r x H1 Q
def rI (C : Int → Int → Prop) (g : Int → Int → V) : R2 := fun x y H Q => ∃ i j, x = .int i ∧ y = .int j ∧ C i j ∧ Q (g i j) H
def rI0 (g : Int → Int → V) : R2 := fun x y H Q => ∃ i j, x = .int i ∧ y = .int j ∧ Q (g i j) H
def rU (g : Int → V) : V → Hp → VK → Prop := fun x H Q => ∃ i, x = .int i ∧ Q (g i) H
section
variable {X : Cx} {a b c : Expr} {ta tb tc : TE} {pos : Pos}
theorem uO (ha : PE X a ta) (hb : PE X b tb) {pins : List (Addr × Obj)} {s : Shared} {σ : St} {H : Hp} {R : V → V → Hp → Prop} (I : Inv X pins σ H s)
  (h : ta σ H fun x H1 => tb σ H1 fun y H2 => R x y H2) {Q : Value → Shared → Prop} {f : Value → Value → Sem Value}
  (hf : ∀ v u s2 x y H2, Inv X pins σ H2 s2 → aC x v → aC y u → R x y H2 → wpAny (model X.prog X.w) X.A (f v u) Q X.xe s2) :
  wpAny (model X.prog X.w) X.A (eval a X.env) (fun v s₁ => wpAny (model X.prog X.w) X.A (eval b X.env) (fun u s₂ => wpAny (model X.prog X.w) X.A (f v u) Q X.xe s₂) X.xe s₁) X.xe s := by
 refine thn (ha pins s σ H _ I h) fun v s1 ⟨x, H1, I1, r1, q1⟩ => ?_
 refine thn (hb pins s1 σ H1 _ I1 q1) fun u s2 ⟨y, H2, I2, r2, q2⟩ => ?_
 exact hf v u s2 x y H2 I2 r1 r2 q2
theorem AL {op : Operator} {r : R2} (ho : OpR X (binaryOp op) r) (ha : PE X a ta) (hb : PE X b tb) : PE X (.BinOp a op b pos) (tOp r ta tb) := by
 intro pins s σ H Q I h
 exact wpAny_BinOp (uO ha hb I h fun v u s2 x y H2 I2 rx ry q => ho pins s2 σ H2 x y v u Q I2 rx ry q)
theorem CW {op : UnaryOp} {r : V → Hp → VK → Prop} (ho : UnR X (unaryOp op) r) (ha : PE X a ta) : PE X (.UnaryOp op a pos) (tUn r ta) := by
 intro pins s σ H Q I h
 exact UnaryOp_ (thn (ha pins s σ H _ I h) fun v s1 ⟨x, H1, I1, r1, q1⟩ => ho pins s1 σ H1 x v Q I1 r1 q1)
theorem opI {f : Value → Value → Sem Value} {C : Int → Int → Prop} {g : Int → Int → Int}
  (rule : ∀ (i j : Int) (t u : Tok) (s : Shared) (Q : Value → Shared → Prop) (E : Value → Shared → Prop), C i j → Q (.int (g i j) s.toks) { s with toks := s.toks + 1 } → wpAny (model X.prog X.w) X.A (f (.int i t) (.int j u)) Q E s) :
  OpR X f (rI C fun i j => .int (g i j)) := by
 intro pins s σ H x y v u Q I rx ry h
 obtain ⟨i, j, rfl, rfl, hc, q⟩ := h
 obtain ⟨t, rfl⟩ := rx
 obtain ⟨t', rfl⟩ := ry
 exact rule i j t t' s _ _ hc ⟨.int (g i j), H, I.tok _, ⟨_, rfl⟩, q⟩
theorem zA {f : Value → Value → Sem Value} {g : Int → Int → Int}
  (rule : ∀ (i j : Int) (t u : Tok) (s : Shared) (Q : Value → Shared → Prop) (E : Value → Shared → Prop), Q (.int (g i j) s.toks) { s with toks := s.toks + 1 } → wpAny (model X.prog X.w) X.A (f (.int i t) (.int j u)) Q E s) :
  OpR X f (rI0 fun i j => .int (g i j)) := by
 intro pins s σ H x y v u Q I rx ry h
 obtain ⟨i, j, rfl, rfl, q⟩ := h
 obtain ⟨t, rfl⟩ := rx
 obtain ⟨t', rfl⟩ := ry
 exact rule i j t t' s _ _ ⟨.int (g i j), H, I.tok _, ⟨_, rfl⟩, q⟩
theorem pZ {f : Value → Value → Sem Value} {g : Int → Int → Bool}
  (rule : ∀ (i j : Int) (t u : Tok) (s : Shared) (Q : Value → Shared → Prop) (E : Value → Shared → Prop), Q (.bool (g i j)) s → wpAny (model X.prog X.w) X.A (f (.int i t) (.int j u)) Q E s) :
  OpR X f (rI0 fun i j => .bl (g i j)) := by
 intro pins s σ H x y v u Q I rx ry h
 obtain ⟨i, j, rfl, rfl, q⟩ := h
 obtain ⟨t, rfl⟩ := rx
 obtain ⟨t', rfl⟩ := ry
 exact rule i j t t' s _ _ ⟨.bl (g i j), H, I, rfl, q⟩
def Al (i j : Int) : Prop := 0 ≤ j ∧ j ≤ 1000000 ∧ i.natAbs < 2 ^ 64
theorem yb : OpR X (binaryOp .Add) (rI0 fun i j => .int (i + j)) := zA fun _ _ _ _ _ _ _ q => add_int q
theorem xU : OpR X (binaryOp .Sub) (rI0 fun i j => .int (i - j)) := zA fun _ _ _ _ _ _ _ q => sub_int q
theorem yh : OpR X (binaryOp .Mod) (rI (fun _ j => 0 < j) fun i j => .int (i % j)) := opI fun i j _ _ _ _ _ hc q => by
 have h1 : (0 : Int) < j := hc
 exact mod_int' (by omega) (by rw [Int.fmod_eq_emod_of_nonneg i (by omega)]; exact q)
theorem ya : OpR X (binaryOp .Pow) (rI Al fun i j => .int (i ^ j.toNat)) := opI fun _ _ _ _ _ _ _ hc q => pow_int_small hc.1 hc.2.1 hc.2.2 q
theorem zq : OpR X (binaryOp .LShift) (rI Al fun i j => .int (i * 2 ^ j.toNat)) := opI fun _ _ _ _ _ _ _ hc q => lshift_int_small hc.1 hc.2.1 hc.2.2 q
theorem unI {f : Value → Sem Value} {g : Int → Int}
  (rule : ∀ (i : Int) (t : Tok) (s : Shared) (Q : Value → Shared → Prop) (E : Value → Shared → Prop), Q (.int (g i) s.toks) { s with toks := s.toks + 1 } → wpAny (model X.prog X.w) X.A (f (.int i t)) Q E s) :
  UnR X f (rU fun i => .int (g i)) := by
 intro pins s σ H x v Q I rx h
 obtain ⟨i, rfl, q⟩ := h
 obtain ⟨t, rfl⟩ := rx
 exact rule i t s _ _ ⟨.int (g i), H, I.tok _, ⟨_, rfl⟩, q⟩
theorem yR : UnR X (unaryOp .USub) (rU fun i => .int (-i)) := unI fun _ _ _ _ _ q => neg_int q
end
def yO : V → V → Bool
 | .non, .non => true | .non, .int _ => true | .int _, .non => true | .non, .bl _ => true | .bl _, .non => true | .non, .str _ => true | .str _, .non => true
 | .int _, .int _ => true | .bl _, .bl _ => true | .str _, .str _ => true | .byt _, .byt _ => true
 | .int _, .str _ => true | .str _, .int _ => true | .bl _, .str _ => true | .str _, .bl _ => true
 | _, _ => false
def rEq : R2 := fun x y H Q => yO x y = true ∧ Q (.bl (decide (x = y))) H
def rNe : R2 := fun x y H Q => yO x y = true ∧ Q (.bl (!decide (x = y))) H
theorem oQ {i j : Int} : decide (V.int i = V.int j) = (i == j) := by
 rw [Bool.eq_iff_iff]
 simp
theorem rW {i j : Bool} : decide (V.bl i = V.bl j) = (i == j) := by
 rw [Bool.eq_iff_iff]
 simp
theorem ow {i j : Str} : decide (V.str i = V.str j) = (i == j) := by
 rw [Bool.eq_iff_iff]
 simp
theorem pb {i j : Array UInt8} : decide (V.byt i = V.byt j) = (i.toList == j.toList) := by
 rw [Bool.eq_iff_iff]
 cases i
 cases j
 simp
section
variable {X : Cx} {a b c : Expr} {ta tb tc : TE} {pos : Pos}
theorem aZ {pins : List (Addr × Obj)} {σ : St} {H : Hp} {s : Shared} {Q : VK} {k k' : Bool} (I : Inv X pins σ H s) (q : Q (.bl k) H) (e : k = k') : EP X pins σ Q (.bool k') s := by
 subst e
 exact ⟨.bl k, H, I, rfl, q⟩
theorem Dd : OpR X (compareOp .Eq) rEq := by
  intro pins s σ H x y v u Q I rx ry h
  obtain ⟨hs, q⟩ := h
  cases x with
  | non =>
    cases rx
    cases y with
    | non => cases ry; exact PySem.EqNone.eq_none_none (aZ I q (by simp))
    | bl j => cases ry; exact PySem.EqNone.eq_none_bool (aZ I q (by simp))
    | int j => obtain ⟨t', rfl⟩ := ry; exact PySem.EqNone.eq_none_int (aZ I q (by simp))
    | str j => obtain ⟨t', rfl⟩ := ry; exact PySem.EqNone.eq_none_str (aZ I q (by simp))
    | _ => exact absurd (show false = true from hs) Bool.false_ne_true
  | bl i =>
    cases rx
    cases y with
    | non => cases ry; exact PySem.EqNone.eq_bool_none (aZ I q (by simp))
    | bl j => cases ry; exact eq_bool (aZ I q rW)
    | str j => obtain ⟨t', rfl⟩ := ry; exact PySem.EqMixed.eq_bool_str (aZ I q (by simp))
    | _ => exact absurd (show false = true from hs) Bool.false_ne_true
  | int i =>
    obtain ⟨t, rfl⟩ := rx
    cases y with
    | non => cases ry; exact PySem.EqNone.eq_int_none (aZ I q (by simp))
    | int j => obtain ⟨t', rfl⟩ := ry; exact eq_int (aZ I q oQ)
    | str j => obtain ⟨t', rfl⟩ := ry; exact PySem.EqMixed.eq_int_str (aZ I q (by simp))
    | _ => exact absurd (show false = true from hs) Bool.false_ne_true
  | str i =>
    obtain ⟨t, rfl⟩ := rx
    cases y with
    | non => cases ry; exact PySem.EqNone.eq_str_none (aZ I q (by simp))
    | bl j => cases ry; exact PySem.EqMixed.eq_str_bool (aZ I q (by simp))
    | int j => obtain ⟨t', rfl⟩ := ry; exact PySem.EqMixed.eq_str_int (aZ I q (by simp))
    | str j => obtain ⟨t', rfl⟩ := ry; exact eq_str (aZ I q ow)
    | _ => exact absurd (show false = true from hs) Bool.false_ne_true
  | byt i =>
    obtain ⟨t, rfl⟩ := rx
    cases y with
    | byt j => obtain ⟨t', rfl⟩ := ry; exact W.eq_bytes (aZ I q pb)
    | _ => exact absurd (show false = true from hs) Bool.false_ne_true
  | _ => cases y <;> exact absurd (show false = true from hs) Bool.false_ne_true
theorem Bs : OpR X (compareOp .NotEq) rNe := by
  intro pins s σ H x y v u Q I rx ry h
  obtain ⟨hs, q⟩ := h
  cases x with
  | non =>
    cases rx
    cases y with
    | non => cases ry; exact PySem.EqNone.ne_none_none (aZ I q (by simp))
    | bl j => cases ry; exact PySem.EqNone.ne_none_bool (aZ I q (by simp))
    | int j => obtain ⟨t', rfl⟩ := ry; exact PySem.EqNone.ne_none_int (aZ I q (by simp))
    | str j => obtain ⟨t', rfl⟩ := ry; exact PySem.EqNone.ne_none_str (aZ I q (by simp))
    | _ => exact absurd (show false = true from hs) Bool.false_ne_true
  | bl i =>
    cases rx
    cases y with
    | non => cases ry; exact PySem.EqNone.ne_bool_none (aZ I q (by simp))
    | bl j => cases ry; exact ne_bool (aZ I q (congrArg not rW))
    | str j => obtain ⟨t', rfl⟩ := ry; exact PySem.EqMixed.ne_bool_str (aZ I q (by simp))
    | _ => exact absurd (show false = true from hs) Bool.false_ne_true
  | int i =>
    obtain ⟨t, rfl⟩ := rx
    cases y with
    | non => cases ry; exact PySem.EqNone.ne_int_none (aZ I q (by simp))
    | int j => obtain ⟨t', rfl⟩ := ry; exact ne_int (aZ I q (congrArg not oQ))
    | str j => obtain ⟨t', rfl⟩ := ry; exact PySem.EqMixed.ne_int_str (aZ I q (by simp))
    | _ => exact absurd (show false = true from hs) Bool.false_ne_true
  | str i =>
    obtain ⟨t, rfl⟩ := rx
    cases y with
    | non => cases ry; exact PySem.EqNone.ne_str_none (aZ I q (by simp))
    | bl j => cases ry; exact PySem.EqMixed.ne_str_bool (aZ I q (by simp))
    | int j => obtain ⟨t', rfl⟩ := ry; exact PySem.EqMixed.ne_str_int (aZ I q (by simp))
    | str j => obtain ⟨t', rfl⟩ := ry; exact ne_str (aZ I q (congrArg not ow))
    | _ => exact absurd (show false = true from hs) Bool.false_ne_true
  | byt i =>
    obtain ⟨t, rfl⟩ := rx
    cases y with
    | byt j => obtain ⟨t', rfl⟩ := ry; exact W.ne_bytes (aZ I q (congrArg not pb))
    | _ => exact absurd (show false = true from hs) Bool.false_ne_true
  | _ => cases y <;> exact absurd (show false = true from hs) Bool.false_ne_true
theorem Cd : OpR X (compareOp .Lt) (rI0 fun i j => .bl (decide (i < j))) := pZ fun _ _ _ _ _ _ _ q => lt_int q
theorem Df : OpR X (compareOp .LtE) (rI0 fun i j => .bl (decide (i ≤ j))) := pZ fun _ _ _ _ _ _ _ q => le_int q
theorem Ci : OpR X (compareOp .Gt) (rI0 fun i j => .bl (decide (j < i))) := pZ fun _ _ _ _ _ _ _ q => gt_int q
theorem BV : OpR X (compareOp .GtE) (rI0 fun i j => .bl (decide (j ≤ i))) := pZ fun _ _ _ _ _ _ _ q => ge_int q
theorem yy : OpR X (compareOp .Is) (fun x y H Q => y = .non ∧ Q (.bl (decide (x = .non))) H) := by
 intro pins s σ H x y v u Q I rx ry h
 obtain ⟨rfl, q⟩ := h
 cases ry
 refine is_none_gen (aZ I q ?_)
 cases x <;> first
  | (cases rx; rfl)
  | (obtain ⟨t, rfl⟩ := rx; rfl)
theorem wy : OpR X (compareOp .IsNot) (fun x y H Q => y = .non ∧ Q (.bl (!decide (x = .non))) H) := by
 intro pins s σ H x y v u Q I rx ry h
 obtain ⟨rfl, q⟩ := h
 cases ry
 refine isnot_none_gen (aZ I q ?_)
 cases x <;> first
  | (cases rx; rfl)
  | (obtain ⟨t, rfl⟩ := rx; rfl)
theorem OpR.or {f : Value → Value → Sem Value} {r r' : R2} (h : OpR X f r) (h' : OpR X f r') : OpR X f (fun x y H Q => r x y H Q ∨ r' x y H Q) := by
 intro pins s σ H x y v u Q I rx ry q
 rcases q with q | q
 · exact h pins s σ H x y v u Q I rx ry q
 · exact h' pins s σ H x y v u Q I rx ry q
theorem jJ (b : Expr) {op : CmpOp} (h : op ≠ .In := by decide) (h2 : op ≠ .NotIn := by decide) : behindInMarks op b = false := by
 have e1 : (op == CmpOp.In) = false := by cases op <;> first | rfl | exact absurd rfl h
 have e2 : (op == CmpOp.NotIn) = false := by cases op <;> first | rfl | exact absurd rfl h2
 cases b <;> simp [behindInMarks, e1, e2]
theorem wP {op : CmpOp} {r : R2} (ho : OpR X (compareOp op) r) (ha : PE X a ta) (hb : PE X b tb) (hm : behindInMarks op b = false) : PE X (.Compare a [op] [b] pos) (tOp r ta tb) := by
 intro pins s σ H Q I h
 exact wpAny_Compare1 (uO ha hb I h fun v u s2 x y H2 I2 rx ry q => ho pins s2 σ H2 x y v u Q I2 rx ry q) hm
def xQ (K : W.Frag) (x : V) (H : Hp) (k : Bool) : Prop :=
 match x with
 | .non => k = false
 | .bl b => k = b
 | .int i => k = (i != 0)
 | .str y => y.length ≤ sizeLine ∧ k = ((y.length : Int) != 0)
 | .byt y => y.size ≤ sizeLine ∧ k = ((y.size : Int) != 0)
 | .ref p => (∃ xs, SqL K H p xs ∧ k = !xs.isEmpty) ∨ (∃ xs, SqT K H p xs ∧ k = !xs.isEmpty) ∨ ∃ kvs, H p = some (.dK kvs) ∧ k = !kvs.isEmpty
 | _ => False
theorem pP {κ : Type} {kvs : List (κ × V)} {vs : List (κ × Value)} (r : KV kvs vs) : (!vs.isEmpty) = !kvs.isEmpty := by
 cases r <;> rfl
theorem jN {xs : List V} {its : List Value} (r : aA xs its) : (!its.toArray.isEmpty) = !xs.isEmpty := by
 cases r <;> simp
theorem gf : (sizeLine : Nat) < 2 ^ 63 := by rw [sizeLine_eq]; decide
theorem yF : Di X (fun x H Q => ∃ k, xQ X.K x H k ∧ Q k H) := by
  intro pins s σ H x v Q I rx h
  obtain ⟨k, e, q⟩ := h
  have hl := gf
  have hs : sizeLine = 16777216 := sizeLine_eq
  cases x with
  | non =>
    cases rx
    have e' : k = false := e
    subst e'
    exact truthy_none ⟨H, I, q⟩
  | bl b =>
    cases rx
    have e' : k = b := e
    subst e'
    exact wpAny_truthy_bool ⟨H, I, q⟩
  | int i =>
    obtain ⟨t, rfl⟩ := rx
    have e' : k = (i != 0) := e
    subst e'
    exact PySem.P.truthy_int ⟨H, I, q⟩
  | str y =>
    obtain ⟨t, rfl⟩ := rx
    obtain ⟨hy, e'⟩ : y.length ≤ sizeLine ∧ k = ((y.length : Int) != 0) := e
    subst e'
    exact PySem.P.truthy_str (by omega) ⟨H, I.tok _, q⟩
  | byt y =>
    obtain ⟨t, rfl⟩ := rx
    obtain ⟨hy, e'⟩ : y.size ≤ sizeLine ∧ k = ((y.size : Int) != 0) := e
    subst e'
    exact W.truthy_bytes (by omega) ⟨H, I.tok _, q⟩
  | ref p =>
    cases rx
    have e' : (∃ xs, SqL X.K H p xs ∧ k = !xs.isEmpty) ∨ (∃ xs, SqT X.K H p xs ∧ k = !xs.isEmpty) ∨ ∃ kvs, H p = some (.dK kvs) ∧ k = !kvs.isEmpty := e
    rcases e' with ⟨xs, hx, e'⟩ | ⟨xs, hx, e'⟩ | ⟨kvs, hx, e'⟩
    · subst e'
      obtain ⟨its, r, pl, hz⟩ := I.list hx
      have hlen := r.length
      exact wpAny_truthy_list pl.isList (by simp only [List.size_toArray]; omega) ⟨H, I.tok _, by rw [jN r]; exact q⟩
    · subst e'
      obtain ⟨its, r, pl, hz⟩ := I.tuple hx
      have hlen := r.length
      exact truthy_tuple pl (by simp only [List.size_toArray]; omega) ⟨H, I.tok _, by rw [jN r]; exact q⟩
    · subst e'
      obtain ⟨hz, hS, vs, r, m⟩ : kvs.length ≤ sizeLine ∧ (p == sysModules) = false ∧ ∃ vs, KV kvs vs ∧ s.heap.DictOf (bu X.prog X.w) p vs := I.hok p _ hx
      have hlen : kvs.length = vs.length := Paired.length r
      exact wpAny_truthy_dict hS m (by omega) ⟨H, I.tok _, by rw [pP r]; exact q⟩
  | _ => exact (show False from e).elim
theorem qd : OpR X (binaryOp .Add) (fun x y H Q => ∃ i j, x = .str i ∧ y = .str j ∧ i.length + j.length ≤ sizeLine ∧ Q (.str (i ++ j)) H) := by
 intro pins s σ H x y v u Q I rx ry h
 obtain ⟨i, j, rfl, rfl, hz, q⟩ := h
 obtain ⟨t, rfl⟩ := rx
 obtain ⟨t', rfl⟩ := ry
 exact add_str (fun t' tk => ⟨.str (i ++ j), H, I.tok _, ⟨_, rfl⟩, q⟩) hz
theorem eX {x : V} {us : List Value} (r : aA [x] us) : ∃ u, us = [u] ∧ aC x u := by
 cases r with
 | cons r1 r2 => cases r2; exact ⟨_, rfl, r1⟩
theorem jM {x y : V} {us : List Value} (r : aA [x, y] us) : ∃ u w', us = [u, w'] ∧ aC x u ∧ aC y w' := by
  cases r with
  | cons r1 r2 =>
    cases r2 with
    | cons r3 r4 => cases r4; exact ⟨_, _, rfl, r1, r3⟩
def Es (K : W.Frag) (x : V) (H : Hp) (n : Nat) : Prop :=
 match x with
 | .str y => y.length ≤ sizeLine ∧ n = y.length
 | .byt y => y.size ≤ sizeLine ∧ n = y.size
 | .ref p => (∃ xs, SqL K H p xs ∧ n = xs.length) ∨ ∃ xs, SqT K H p xs ∧ n = xs.length
 | _ => False
theorem jv : bF X (.builtin "len") (fun xs H Q => ∃ x n, xs = [x] ∧ Es X.K x H n ∧ Q (.int n) H) := by
  intro pins s σ H xs us Q I r h
  obtain ⟨x, n, rfl, e, q⟩ := h
  obtain ⟨u, rfl, rx⟩ := eX r
  have hl := gf
  have hs : sizeLine = 16777216 := sizeLine_eq
  cases x with
  | str y =>
    obtain ⟨t, rfl⟩ := rx
    obtain ⟨hy, e'⟩ : y.length ≤ sizeLine ∧ n = y.length := e
    subst e'
    exact len_str (by omega) ⟨.int _, H, I.tok _, ⟨_, rfl⟩, q⟩
  | byt y =>
    obtain ⟨t, rfl⟩ := rx
    obtain ⟨hy, e'⟩ : y.size ≤ sizeLine ∧ n = y.size := e
    subst e'
    exact W.len_bytes (by omega) ⟨.int _, H, I.tok _, ⟨_, rfl⟩, q⟩
  | ref p =>
    cases rx
    have e' : (∃ xs, SqL X.K H p xs ∧ n = xs.length) ∨ ∃ xs, SqT X.K H p xs ∧ n = xs.length := e
    rcases e' with ⟨xs, hx, e'⟩ | ⟨xs, hx, e'⟩
    · subst e'
      obtain ⟨its, r', pl, hz⟩ := I.list hx
      have hlen := r'.length
      exact Calls.call_len_list pl.isList (by simp only [List.size_toArray]; omega) ⟨.int xs.length, H, I.tok _, ⟨_, by simp only [List.size_toArray]; rw [hlen]⟩, q⟩
    · subst e'
      obtain ⟨its, r', pl, hz⟩ := I.tuple hx
      have hlen := r'.length
      exact len_tuple pl (by simp only [List.size_toArray]; omega) ⟨.int xs.length, H, I.tok _, ⟨_, by simp only [List.size_toArray]; rw [hlen]⟩, q⟩
  | _ => exact (show False from e).elim
end
end L2
namespace L2
open PySem PySem.Spec PyProof.Rows
structure jx (h : Heap) (x dx C : Addr) (mA : Str → Option Value) : Prop where
 obj : h.get? x = some (W.instObj C dx)
 ns : h.Ns1 dx mA
 ne : dx ≠ x
theorem lu {h : Heap} {dx : Addr} {mA : Str → Option Value} (n : h.Ns1 dx mA) : ∃ od, h.get? dx = some od ∧ ∀ name, W.lookIn name od = some (mA name) := by
 obtain ⟨o, es, ep, ho, hd, hk, _, hm⟩ := n
 refine ⟨o, ho, fun name => ?_⟩
 have e := hm name
 unfold nsFind findBy at e
 rw [← Array.find?_toList] at e
 unfold W.lookIn
 rw [hd]
 dsimp only
 split
 · rename_i y q
   rw [q] at e
   exact congrArg some e
 · rename_i q
   rw [q] at e
   have a : es.toList.any (·.refKey) = false := by
    rw [List.any_eq_false]
    intro y hy
    obtain ⟨z, t, hkey⟩ := hk y (Array.mem_toList_iff.mp hy)
    simp [DictEntry.refKey, hkey]
   have a' : ¬ es.toList.any (·.refKey) = true := by rw [a]; exact Bool.false_ne_true
   rw [if_neg a']
   exact congrArg some e
theorem jx.look {h : Heap} {x dx C : Addr} {mA : Str → Option Value} (I : jx h x dx C mA) : ∃ od, W.InstAt h x (W.instObj C dx) C (some od) ∧ ∀ name, W.lookIn name od = some (mA name) :=
 let ⟨od, ho, hl⟩ := lu I.ns
 ⟨od, ⟨I.obj, rfl, rfl, ho⟩, hl⟩
section
variable {prog : Program} {w : World} {A : Around} {E : Value → Shared → Prop} {s : Shared} {K : W.Frag} {x dx C f : Addr} {mA : Str → Option Value} {name : Str} {v : Value}
theorem xJ {expr : Bool} {Q : Value → Shared → Prop} (X : K.In s.heap) (I : jx s.heap x dx C mA) (hg : W.plainGet K C name = true) (hh : W.hasDictIn K C = true)
  (ha : W.findIn K (.ref C) name = some none) (hv : mA name = some v) (hv' : W.handedIn v = true) (h : Q v { s with toks := s.toks + 1 }) :
  wpAny (model prog w) A (getAttr (.ref x) name expr) Q E s := by
 obtain ⟨od, J, hl⟩ := I.look
 exact W.get_value X J (W.plainGet_of hg).1 (W.findObj_own hh ha rfl (by rw [hl, hv])) hv' h
theorem tD {pl : Sem Bool} {Q : Value × List Value → Shared → Prop} (X : K.In s.heap) (I : jx s.heap x dx C mA) (hg : W.plainGet K C name = true)
  (hf : W.findIn K (.ref C) name = some (some (.ref f))) (ht : W.isFn K (.ref f) = true) (hv : mA name = none) (h : Q (.ref f, [.ref x]) s) :
  wpAny (model prog w) A (getMethod (.ref x) name pl) Q E s := by
 obtain ⟨od, J, hl⟩ := I.look
 exact W.method_fn X J (W.plainGet_of hg).1 (W.plainGet_of hg).2 hf (beq_iff_eq.mp ht) (by show (W.lookIn name od).map (·.isSome) = some false; rw [hl, hv]; rfl) h
theorem wC {ns : List Str} {Q : Unit → Shared → Prop} (X : K.In s.heap) (I : jx s.heap x dx C mA)
  (hs : W.findIn K (.ref C) "__setattr__" = some (some (.builtin "object.__setattr__"))) (hp : W.plainOver K C = true) (ht : W.takerIn K C name = some none) (hh : W.hasDictIn K C = true)
  (hw : PySem.Within mA ns) (hsz : ns.length ≤ sizeLine)
  (h : ∀ h', jx h' x dx C (fun y => if y = name then some v else mA y) → Heap.SameBut dx s.heap h' → Q () { s with heap := h', toks := s.toks + 2 }) :
  wpAny (model prog w) A (setAttr (.ref x) name v) Q E s := by
 obtain ⟨od, J, hl⟩ := I.look
 refine W.set_plain X J hs (W.osa_open (s := { s with toks := s.toks + 1 }) (r := none) X J hp ht fun b => ?_)
 obtain ⟨cd, hc, hd'⟩ := W.any_some hh
 have hx : s.heap.get? x = some ⟨.ref C, some dx, .plain, #[]⟩ := I.obj
 refine wpAny_bind (wpAny_pure (wpAny_bind (wpAny_bind (wpAny_loadPart hx (wpAny_bind (W.Looks.here (s := { s with toks := s.toks + 1 }) (W.looks_clsIn X hc) ?_))))))
 rw [hd']
 refine wpAny_pure (a := some dx) (wpAny_bind (wpAny_pure (wpAny_bind ?_)))
 refine wpAny_nsSet1 (s := { s with toks := s.toks + 1 }) I.ns fun h' hn2 hs2 => ?_
 obtain ⟨oD, esD, epD, hoD, hdD, hcD⟩ := hn2.count (PySem.Within.cons name v hw)
 refine wpAny_bind (wpAny_lookBehind hoD (by rw [hdD]; exact pastItsLine_dict (Nat.le_trans hcD (by rw [List.length_cons]; omega))) ?_)
 exact wpAny_pure (h _ ⟨(hs2.2 _ (Ne.symm I.ne)).trans I.obj, hn2, I.ne⟩ hs2)
theorem vm {R : Result → Shared → Prop} {vs : List Value} {kw : List (Str × Value)} (X : K.In s.heap) (hm : W.makesIn K C = true)
  (hi : W.findIn K (.ref C) "__init__" = some (some (.ref f))) (hf : W.typeIn K (.ref f) = some (.type "function"))
  (h : codeAny (model prog w) (A.under (.builtin "type.__call__" ⟨.ref C :: vs, kw⟩)) (.call (.ref f) ⟨.ref (s.heap.objs.size + 1) :: vs, kw⟩) (W.InitBack (s.heap.objs.size + 1) R)
   { s with heap := (s.heap.push W.emptyDict).push (W.instObj C s.heap.objs.size) }) :
  codeAny (model prog w) A (.call (.ref C) ⟨vs, kw⟩) R s := by
 obtain ⟨hh, g, d, t, os⟩ := s
 exact W.make_core (W.makes_of X hm) (W.looks_findIn X hi) (fun self => W.bind_fn X self hf) (.inl rfl) h
end
def cF (f : Str) (v : V) : List (Str × V) → List (Str × V)
 | [] => [(f, v)]
 | (g, x) :: r => if g = f then (g, v) :: r else (g, x) :: cF f v r
theorem fI (f g : Str) (v : V) : ∀ fs : List (Str × V), (cF f v fs).lookup g = if g = f then some v else fs.lookup g
  | [] => by
    show List.lookup g [(f, v)] = _
    by_cases h : g = f
    · have hb : (g == f) = true := beq_iff_eq.mpr h
      simp only [List.lookup, hb, if_pos h]
    · have hb : (g == f) = false := beq_eq_false_iff_ne.mpr h
      simp only [List.lookup, hb, if_neg h]
  | (k, x) :: r => by
    have ih := fI f g v r
    rw [show cF f v ((k, x) :: r) = (if k = f then (k, v) :: r else (k, x) :: cF f v r) from rfl]
    by_cases hk : k = f
    · rw [if_pos hk]
      by_cases h : g = k
      · have hb : (g == k) = true := beq_iff_eq.mpr h
        simp only [List.lookup, hb, if_pos (h.trans hk)]
      · have hb : (g == k) = false := beq_eq_false_iff_ne.mpr h
        simp only [List.lookup, hb, if_neg (fun e : g = f => h (e.trans hk.symm))]
    · rw [if_neg hk]
      by_cases h : g = k
      · have hb : (g == k) = true := beq_iff_eq.mpr h
        simp only [List.lookup, hb, if_neg (fun e : g = f => hk (h.symm.trans e))]
      · have hb : (g == k) = false := beq_eq_false_iff_ne.mpr h
        simp only [List.lookup, hb]
        exact ih
theorem ie (f : Str) (v : V) : ∀ fs : List (Str × V), f ∈ (cF f v fs).map (·.1) ∧ ∀ g, g ∈ fs.map (·.1) → g ∈ (cF f v fs).map (·.1)
  | [] => ⟨by simp [cF], fun g h => by simp at h⟩
  | (k, x) :: r => by
    obtain ⟨i1, i2⟩ := ie f v r
    rw [show cF f v ((k, x) :: r) = (if k = f then (k, v) :: r else (k, x) :: cF f v r) from rfl]
    by_cases hk : k = f
    · rw [if_pos hk]
      subst hk
      exact ⟨by simp, fun g h => by simpa using h⟩
    · rw [if_neg hk]
      refine ⟨?_, fun g h => ?_⟩
      · rw [List.map_cons]
        exact List.mem_cons_of_mem _ i1
      · rw [List.map_cons] at h ⊢
        rcases List.mem_cons.mp h with e | e
        · exact List.mem_cons.mpr (.inl e)
        · exact List.mem_cons_of_mem _ (i2 g e)
theorem iZ (f : Str) (v : V) : ∀ fs : List (Str × V), (cF f v fs).length ≤ fs.length + 1
  | [] => by simp [cF]
  | (k, x) :: r => by
    have ih := iZ f v r
    rw [show cF f v ((k, x) :: r) = (if k = f then (k, v) :: r else (k, x) :: cF f v r) from rfl]
    by_cases hk : k = f
    · rw [if_pos hk, List.length_cons, List.length_cons]; omega
    · rw [if_neg hk, List.length_cons, List.length_cons]; omega
theorem bJ.some_of {v : V} {o : Option Value} (r : bJ (some v) o) : ∃ u, o = some u ∧ aC v u := by
 cases o with
 | none => exact (show False from r).elim
 | some u => exact ⟨u, rfl, r⟩
theorem bJ.none_of {o : Option Value} (r : bJ none o) : o = none := by
 cases o with
 | none => rfl
 | some u => exact (show False from r).elim
theorem lx {v : V} {u : Value} (r : aC v u) : W.handedIn u = true := by
 cases v with
 | non => cases (show u = Value.none from r); rfl
 | bl b => cases (show u = Value.bool b from r); rfl
 | int i => obtain ⟨t, e⟩ := (show ∃ t, u = Value.int i t from r); cases e; rfl
 | str x => obtain ⟨t, e⟩ := (show ∃ t, u = Value.str x t from r); cases e; rfl
 | byt b => obtain ⟨t, e⟩ := (show ∃ t, u = Value.bytes b t from r); cases e; rfl
 | flt b => obtain ⟨t, e⟩ := (show ∃ t, u = Value.float b t from r); cases e; rfl
 | ref a => cases (show u = Value.ref a from r); rfl
 | ty n => cases (show u = Value.type n from r); rfl
section
variable {P : Program} {w : World} {H H' : Hp} {h h' : Heap} {a C dx : Addr} {fs fs' : List (Str × V)}
theorem iQ (hok : HOk P w H h) (e : H a = some (.ins C dx fs)) : ∃ mA, jx h a dx C mA ∧ (∀ f, bJ (fs.lookup f) (mA f)) ∧ PySem.Within mA (fs.map (·.1)) ∧ fs.length ≤ 1000 ∧ H dx = some (.own a) := by
 obtain ⟨d, z, ne, ob, mA, n, r, q⟩ := (show aO P w H h a (.ins C dx fs) from hok a _ e)
 exact ⟨mA, ⟨ob, n, ne⟩, r, q, z, d⟩
end
structure Cls (K : W.Frag) (C : Addr) : Prop where
 pg : W.plainGet K C Str.empty = true
 hd : W.hasDictIn K C = true
 po : W.plainOver K C = true
 sa : W.findIn K (.ref C) "__setattr__" = some (some (.builtin "object.__setattr__"))
theorem Cls.get {K : W.Frag} {C : Addr} (c : Cls K C) (f : Str) : W.plainGet K C f = true := c.pg
def fk (K : W.Frag) (C : Addr) (f : Str) : Prop := W.findIn K (.ref C) f = some none
theorem fk.taker {K : W.Frag} {C : Addr} {f : Str} (n : fk K C f) : W.takerIn K C f = some none := by
 unfold W.takerIn
 rw [show W.findIn K (.ref C) f = some none from n]
 rfl
structure tI (K : W.Frag) (C : Addr) (m : Str) (f : Addr) : Prop where
 at_ : W.findIn K (.ref C) m = some (some (.ref f))
 fn : W.isFn K (.ref f) = true
 kp : W.keepIn K (.ref f) = true
section
variable {X : Cx} {pins : List (Addr × Obj)} {σ : St} {H : Hp} {s : Shared} {a C dx : Addr} {fs : List (Str × V)} {f : Str} {v : V} {A : Around} {E : Value → Shared → Prop}
theorem pK {b : Bool} {Q : Value → Shared → Prop} (I : Inv X pins σ H s) (e : H a = some (.ins C dx fs)) (c : Cls X.K C) (n : fk X.K C f) (l : fs.lookup f = some v)
  (h : ∀ u s', Inv X pins σ H s' → aC v u → Q u s') : wpAny (model X.prog X.w) A (getAttr (.ref a) f b) Q E s := by
 obtain ⟨mA, O, r, _, _, _⟩ := iQ I.hok e
 obtain ⟨u, hu, ru⟩ := bJ.some_of (v := v) (o := mA f) (by rw [← l]; exact r f)
 exact xJ I.kIn O (c.get f) c.hd n hu (lx ru) (h u _ (I.tok _) ru)
theorem qA {m : Str} {g : Addr} {pl : Sem Bool} {Q : Value × List Value → Shared → Prop} (I : Inv X pins σ H s) (e : H a = some (.ins C dx fs)) (c : Cls X.K C) (k : tI X.K C m g) (l : fs.lookup m = none)
  (h : Q (.ref g, [.ref a]) s) : wpAny (model X.prog X.w) A (getMethod (.ref a) m pl) Q E s := by
 obtain ⟨mA, O, r, _, _, _⟩ := iQ I.hok e
 have hn : mA m = none := bJ.none_of (by rw [← l]; exact r m)
 exact tD I.kIn O (c.get m) k.at_ k.fn hn h
theorem qK {y : V} {u : Value} {Q : Unit → Shared → Prop} (I : Inv X pins σ H s) (e : H a = some (.ins C dx fs)) (c : Cls X.K C) (n : fk X.K C f) (hl : fs.length < 1000) (ry : aC y u)
   (h : ∀ s', Inv X pins σ (upd H a (.ins C dx (cF f y fs))) s' → Q () s') : wpAny (model X.prog X.w) A (setAttr (.ref a) f u) Q E s := by
 obtain ⟨mA, O, r, wi, _, ho⟩ := iQ I.hok e
 have hz : (fs.map (·.1)).length ≤ sizeLine := by rw [List.length_map, sizeLine_eq]; omega
 refine wC I.kIn O c.sa c.po n.taker c.hd wi hz fun h' O' sb => h _ ?_
 have hd : ∃ o, h'.get? dx = some o := let ⟨o, _, _, e', _⟩ := O'.ns; ⟨o, e'⟩
 refine I.write (x := a) (e := dx) (by rw [e]; exact True.intro) (.inr ho) (fun b q hb z => (sb.2 b hb).trans z) hd ?_
 refine ⟨by rw [aj O.ne]; exact ho, ?_, O.ne, O'.obj, _, O'.ns, fun g => ?_, fun g hg => ?_⟩
 · have := iZ f y fs; omega
 · show bJ ((cF f y fs).lookup g) (if g = f then some u else mA g)
   rw [fI]
   by_cases q : g = f
   · rw [if_pos q, if_pos q]; exact ry
   · rw [if_neg q, if_neg q]; exact r g
 · by_cases q : g = f
   · rw [q]; exact (ie f y fs).1
   · refine (ie f y fs).2 g (wi g fun z => hg ?_)
     show (if g = f then some u else mA g) = none
     rw [if_neg q]; exact z
theorem Inv.made (I : Inv X pins σ H s) : Inv X pins σ (upd (upd H s.heap.objs.size (.own (s.heap.objs.size + 1))) (s.heap.objs.size + 1) (.ins C s.heap.objs.size []))
  { s with heap := (s.heap.push W.emptyDict).push (W.instObj C s.heap.objs.size) } := by
 have e1 : (s.heap.push W.emptyDict).get? s.heap.objs.size = some W.emptyDict := Heap.get?_push_size s.heap rfl
 have e2 : ((s.heap.push W.emptyDict).push (W.instObj C s.heap.objs.size)).get? (s.heap.objs.size + 1) = some (W.instObj C s.heap.objs.size) := by
  have := Heap.get?_push_size (s.heap.push W.emptyDict) (o := W.instObj C s.heap.objs.size) rfl
  rwa [Heap.size_push] at this
 have e3 : (s.heap.push W.emptyDict).Ns s.heap.objs.size (fun _ => none) := ⟨W.emptyDict, #[], _, e1, rfl, (fun e he => absurd he (by simp)), fun _ => rfl⟩
 have I1 := I.laid (a := s.heap.objs.size) (o := .own (s.heap.objs.size + 1)) (h' := s.heap.push W.emptyDict) (t' := s.toks) (fun b u q => Heap.get?_push_of_some _ q) (Nat.le_refl _) ⟨_, e1⟩
 refine I1.laid (a := s.heap.objs.size + 1) (o := .ins C s.heap.objs.size []) (t' := s.toks) (fun b u q => Heap.get?_push_of_some _ q) (Nat.le_of_eq (Heap.size_push _ _)) ?_
 have ne : s.heap.objs.size ≠ s.heap.objs.size + 1 := Nat.ne_of_lt (Nat.lt_succ_self _)
 refine ⟨by rw [aj ne, am], Nat.zero_le _, ne, e2, fun _ => none, (Heap.Ns1.of_empty e3).at fun o q => Heap.get?_push_of_some _ q, fun _ => True.intro, fun y hy => absurd rfl hy⟩
theorem oY {prog : Program} {w : World} {env : Env} {e : Expr} {f : Str} {pos : Pos} {s : Shared} {Q : Value → Shared → Prop} (hb : attributeBase e f env (eval e env) = eval e env)
  (h : wpAny (model prog w) A (eval e env) (fun o s₁ => wpAny (model prog w) A (getAttr o f true) Q E s₁) E s) : wpAny (model prog w) A (eval (.Attribute e f pos) env) Q E s :=
 Attribute_any_ h (by rw [arm_eval_Attribute, hb])
end
def jZ (K : W.Frag) (ta : TE) (f : Str) : TE := fun σ H Q => ta σ H fun x H1 => ∃ a C dx fs v, x = .ref a ∧ H1 a = some (.ins C dx fs) ∧ Cls K C ∧ fk K C f ∧ fs.lookup f = some v ∧ Q v H1
def uA (K : W.Frag) (ta tv : TE) (f : Str) : TS := fun D σ H => tv σ H fun y H1 => ta σ H1 fun x H2 => ∃ a C dx fs, x = .ref a ∧ H2 a = some (.ins C dx fs) ∧ Cls K C ∧ fk K C f ∧ fs.length < 1000 ∧
 D.nx σ (upd H2 a (.ins C dx (cF f y fs)))
section
variable {X : Cx} {o e value : Expr} {f : Str} {pos pos' tpos : Pos} {ta tv : TE}
theorem xX (he : PE X e ta) (hb : attributeBase e f X.env (eval e X.env) = eval e X.env) : PE X (.Attribute e f pos) (jZ X.K ta f) := by
 intro pins s σ H Q I h
 refine oY hb (thn (he pins s σ H _ I h) fun u s1 ⟨x, H1, I1, rx, a, C, dx, fs, v, ex, ea, c, n, l, q⟩ => ?_)
 subst ex
 obtain rfl : u = Value.ref a := rx
 exact pK I1 ea c n l fun u' s2 I2 ru => ⟨v, H1, I2, ru, q⟩
theorem xZ (ha : PE X o ta) (hv : PE X value tv) (hs : swapsWith value (some (.Attribute o f pos')) pos.line X.env = pure false) : PS X (.Assign [.Attribute o f pos'] value pos) (uA X.K ta tv f) := by
 intro pins s σ H D I h
 refine plainObj_wpAny_Assign_Attribute (thn (hv pins s σ H _ I h) fun u s1 ⟨y, H1, I1, ry, q⟩ => thn (ha pins s1 σ H1 _ I1 q) fun ov s2 ⟨x, H2, I2, rx, a, C, dx, fs, ex, ea, c, n, l, q2⟩ => ?_) hs
 subst ex
 obtain rfl : ov = Value.ref a := rx
 exact qK I2 ea c n l ry fun s3 I3 => ⟨σ, _, I3, q2⟩
end
section
variable {X : Cx} {pins : List (Addr × Obj)} {σ : St} {H : Hp} {s : Shared} {A : Around} {E : Value → Shared → Prop} {Q : Value → Shared → Prop} {c : Value} {b : Bool}
inductive eB (K : W.Frag) (H : Hp) : V → Value → Prop where
 | non : eB K H .non (.type "NoneType")
 | bl (x : Bool) : eB K H (.bl x) (.type "bool")
 | int (i : Int) : eB K H (.int i) (.type "int")
 | str (x : Str) : eB K H (.str x) (.type "str")
 | flt (x : UInt64) : eB K H (.flt x) (.type "float")
 | lst {a : Addr} {xs : List V} (e : H a = some (.lst xs)) : eB K H (.ref a) (.type "list")
 | frz {a : Addr} {o : Obj} {xs : List V} (e : H a = some (.frz o (.lst xs))) : eB K H (.ref a) (.type "list")
 | tup {a : Addr} {xs : List V} (e : H a = some (.tup xs)) : eB K H (.ref a) (.type "tuple")
 | dK {a : Addr} {kvs : List (Key × V)} (e : H a = some (.dK kvs)) : eB K H (.ref a) (.type "dict")
 | dT {a : Addr} {kvs : List (List Key × V)} (e : H a = some (.dT kvs)) : eB K H (.ref a) (.type "dict")
 | ins {a C dx : Addr} {fs : List (Str × V)} (e : H a = some (.ins C dx fs)) (cl : Cls K C) (ha : W.findIn K (.ref C) "__class__" = some (some (.builtin "object.__class__")))
  (hn : W.specialIn K (.builtin "object.__class__") "__get__" = some (some (.builtin "getset_descriptor.__get__"))) (htk : W.takesIn K (.builtin "object.__class__") = some true)
  (hm : W.mroIn K C (.type "object") = some true) : eB K H (.ref a) (.ref C)
theorem sD {x : V} {u t : Value} (I : Inv X pins σ H s) (rx : aC x u) (ty : eB X.K H x t) (e : W.kitOne X.K t c = some b) (h : ∀ tk, Q (.bool b) { s with toks := tk }) :
    wpAny (model X.prog X.w) A (call (.builtin "isinstance") [u, c]) Q E s := by
  cases ty with
  | non => cases (show u = Value.none from rx); exact W.kia_one W.kitx_none I.kIn True.intro e (fun z => nomatch z) h
  | bl y => cases (show u = Value.bool y from rx); exact W.kia_one W.kitx_bool I.kIn True.intro e (fun z => nomatch z) h
  | int i => obtain ⟨t, q⟩ := (show ∃ t, u = Value.int i t from rx); cases q; exact W.kia_one W.kitx_int I.kIn True.intro e (fun z => nomatch z) h
  | str y => obtain ⟨t, q⟩ := (show ∃ t, u = Value.str y t from rx); cases q; exact W.kia_one W.kitx_str I.kIn True.intro e (fun z => nomatch z) h
  | flt y => obtain ⟨t, q⟩ := (show ∃ t, u = Value.float y t from rx); cases q; exact W.kia_one W.kitx_float I.kIn True.intro e (fun z => nomatch z) h
  | @lst a xs ea =>
    cases (show u = Value.ref a from rx)
    obtain ⟨_, _, n, _, h1⟩ := (show aO X.prog X.w H s.heap a (.lst xs) from I.hok a _ ea)
    exact W.kia_one W.kitx_list I.kIn ⟨_, h1, rfl⟩ e (fun z => nomatch z) h
  | @frz a ob xs ea =>
    cases (show u = Value.ref a from rx)
    obtain ⟨_, _, _, n, _, h1⟩ := (show aO X.prog X.w H s.heap a (.frz ob (.lst xs)) from I.hok a _ ea)
    exact W.kia_one W.kitx_list I.kIn ⟨_, h1, rfl⟩ e (fun z => nomatch z) h
  | @tup a xs ea =>
    cases (show u = Value.ref a from rx)
    obtain ⟨_, _, _, p⟩ := (show aO X.prog X.w H s.heap a (.tup xs) from I.hok a _ ea)
    obtain ⟨o, h1, h2, _⟩ := p
    exact W.kia_one W.kitx_tuple I.kIn ⟨o, h1, h2⟩ e (fun z => nomatch z) h
  | @dK a kvs ea =>
    cases (show u = Value.ref a from rx)
    obtain ⟨_, _, vs, _, p⟩ := (show aO X.prog X.w H s.heap a (.dK kvs) from I.hok a _ ea)
    obtain ⟨o, es, ep, h1, h2, _⟩ := p
    exact W.kia_one W.kitx_dict I.kIn ⟨o, h1, h2.1⟩ e (fun z => nomatch z) h
  | @dT a kvs ea =>
    cases (show u = Value.ref a from rx)
    obtain ⟨_, _, xs, _, o, es, ep, h1, h2, _⟩ := (show aO X.prog X.w H s.heap a (.dT kvs) from I.hok a _ ea)
    exact W.kia_one W.kitx_dict I.kIn ⟨o, h1, h2.1⟩ e (fun z => nomatch z) h
  | @ins a C dx fs ea cl ha hn htk hm =>
    cases (show u = Value.ref a from rx)
    obtain ⟨mA, O, _⟩ := iQ I.hok ea
    obtain ⟨od, J, _⟩ := O.look
    exact W.kia_one (W.kitx_own (cl.get _) cl.hd ha hn htk hm) I.kIn J e (fun z => nomatch z) h
end
end L2
namespace L2
open PySem PySem.Spec PyProof.Rows
structure ba (k : Nat) (A : Around) : Prop where
 hd : A.handled = none
 dp : A.depth + 3 * k + 5 < recursionLimit
 un : A.units + 16 * k + 200 < cLine
theorem ba.mono {j k : Nat} {A : Around} (r : ba k A) (h : j ≤ k) : ba j A := ⟨r.hd, by have := r.dp; omega, by have := r.un; omega⟩
theorem ba.deeper {k : Nat} {A : Around} (r : ba (k + 1) A) (env : Env) : ba k (A.deeper env) :=
 ⟨r.hd, by have := r.dp; show A.depth + 1 + 3 * k + 5 < _; omega, by have := r.un; show A.units + 3 + 16 * k + 200 < _; omega⟩
theorem qG {A : Around} {C : Addr} {us : List Value} {kw : List (Str × Value)} : (A.under (.builtin "type.__call__" ⟨.ref C :: us, kw⟩)).depth = A.depth + 1 := by
 first | rfl | simp [Around.under, Code.weight, Code.isCreation, Code.isGuard, Code.isCaller, Code.frames, Code.isFrame, guardIds]
theorem qD {A : Around} {C : Addr} {us : List Value} {kw : List (Str × Value)} : (A.under (.builtin "type.__call__" ⟨.ref C :: us, kw⟩)).units = A.units + 1 := by
 first | rfl | simp [Around.under, Code.cUnits, Code.frames, Code.isFrame]
theorem ba.make {k : Nat} {A : Around} (r : ba (k + 1) A) (C : Addr) (us : List Value) (kw : List (Str × Value)) : ba k (A.under (.builtin "type.__call__" ⟨.ref C :: us, kw⟩)) :=
 ⟨r.hd, by have := r.dp; rw [qG]; omega, by have := r.un; rw [qD]; omega⟩
theorem ba.depth {k : Nat} {A : Around} (r : ba k A) : A.depth < recursionLimit := by have := r.dp; omega
def ag : TA := fun _ H Q => Q [] H
def ad (ta : TE) (tr : TA) : TA := fun σ H Q => ta σ H fun x H1 => tr σ H1 fun xs H2 => Q (x :: xs) H2
section
variable {X : Cx} {e : Expr} {es : List Expr} {te : TE} {t : TA} {pos : Pos}
theorem xS : PA X [] ag := fun _ _ _ _ H Q I h => Calls.spliced_nil ⟨[], H, I, .nil, h⟩
theorem xg (ha : PE X e te) (hr : PA X es t) (hs : starEach (e :: es) X.env = (false, eval e X.env) :: starEach es X.env := by rfl) : PA X (e :: es) (ad te t) := by
 intro pos pins s σ H Q I h
 rw [hs]
 show wpAny _ _ (spliced ((false, eval e X.env) :: backTo pos (starEach es X.env))) _ _ s
 refine Calls.spliced_cons (thn (ha pins s σ H _ I h) fun u s1 ⟨x, H1, I1, r1, q1⟩ => ?_)
 exact thn (hr pos pins s1 σ H1 _ I1 q1) fun us s2 ⟨xs, H2, I2, r2, q2⟩ => ⟨x :: xs, H2, I2, .cons r1 r2, q2⟩
def bw (t : TA) : TE := fun σ H Q => t σ H fun xs H1 => xs.length ≤ sizeLine ∧ ∀ p, H1 p = none → Q (.ref p) (upd H1 p (.tup xs))
def io (t : TA) : TE := fun σ H Q => t σ H fun xs H1 => xs.length ≤ sizeLine ∧ ∀ p, H1 p = none → Q (.ref p) (upd H1 p (.lst xs))
theorem zK {x1} (h : PA X es t) : PE X (.Tuple es x1 pos) (bw t) := by
 intro pins s σ H Q I hq
 refine wpAny_Tuple_spliced (thn (h pos pins s σ H _ I hq) fun us s1 ⟨xs, H1, I1, r, z, q⟩ => ⟨by rw [← r.length]; exact z, ?_⟩)
 have hf : H1 s1.heap.objs.size = none := I1.hok.fresh (Nat.le_refl _)
 refine ⟨.ref s1.heap.objs.size, upd H1 s1.heap.objs.size (.tup xs), I1.laid (t' := s1.toks) (fun b u e => Heap.get?_push_of_some _ e) (Nat.le_refl _) ?_, rfl, q _ hf⟩
 exact ⟨z, us, r, ⟨_, Heap.get?_push_size _ rfl, rfl, _, rfl⟩⟩
theorem zQ (h : PA X es t) : PE X (.List es pos) (io t) := by
 intro pins s σ H Q I hq
 refine wpAny_List_spliced (thn (h pos pins s σ H _ I hq) fun us s1 ⟨xs, H1, I1, r, z, q⟩ => ⟨by rw [← r.length]; exact z, ?_⟩)
 have hf : H1 s1.heap.objs.size = none := I1.hok.fresh (Nat.le_refl _)
 refine ⟨.ref s1.heap.objs.size, upd H1 s1.heap.objs.size (.lst xs), I1.laid (t' := s1.toks) (fun b u e => Heap.get?_push_of_some _ e) (Nat.le_refl _) ?_, rfl, q _ hf⟩
 exact ⟨z, us, 0, r, Heap.get?_push_size _ rfl⟩
end
abbrev Sp := List V → Hp → VK → XK → Prop
abbrev CXT := List Env → Hp → Shared → XK → Value → Shared → Prop
structure gs (P : Program) (w : World) (K : W.Frag) (mg : Str → Option Value) (base : Heap) (A : Around) (outer : List Env) (s : Shared) (H : Hp) : Prop where
 frames : A.frames = some outer
 mod : Mod K mg base
 bs : ∀ b o, base.get? b = some o → s.heap.get? b = some o ∧ H b = none
 bsz : base.objs.size ≤ s.heap.objs.size
 funs : s.heap.FunFrames base outer
 frf : ∀ b ∈ frs outer, H b = none
 hok : HOk P w H s.heap
 bare : AllBare s.gens
def CE (outer : List Env) (P : Program) (w : World) (H : Hp) (s : Shared) (Q : VK) (u : Value) (s' : Shared) : Prop :=
 ∃ v H', s'.os = s.os ∧ AllBare s'.gens ∧ Un (frs outer) [] H H' s.heap s'.heap ∧ HOk P w H' s'.heap ∧ aC v u ∧ Q v H'
def CR (CX : CXT) (outer : List Env) (P : Program) (w : World) (H : Hp) (s : Shared) (Q : VK) (E : XK) (r : Result) (s' : Shared) : Prop :=
 match r with
 | .ok (.ret u) => CE outer P w H s Q u s'
 | .ok _ => False
 | .error e => CX outer H s E e s'
structure aU (P : Program) (w : World) (K : W.Frag) (mg : Str → Option Value) (base : Heap) (CX : CXT) (k : Nat) (f : Addr) (fd : FuncData) (ps : List Str) (sp : Sp) : Prop where
 len : ∀ vs H Q E, sp vs H Q E → vs.length = ps.length
 run : ∀ (A : Around) (outer : List Env) (s : Shared) (H : Hp) (args : Args) (us : List Value) (vs : List V) (Q : VK) (E : XK), ba k A → gs P w K mg base A outer s H → BindsTo s fd args (ps.zip us) → aA vs us → sp vs H Q E →
  codeAny (model P w) A (.call (.ref f) args) (CR CX outer P w H s Q E) s
theorem gs.make {P : Program} {w : World} {K : W.Frag} {mg : Str → Option Value} {base : Heap} {A : Around} {outer : List Env} {s : Shared} {H : Hp} (e : gs P w K mg base A outer s H) (C : Addr) (us : List Value) (kw : List (Str × Value)) :
 gs P w K mg base (A.under (.builtin "type.__call__" ⟨.ref C :: us, kw⟩)) outer s H := ⟨by first | exact e.frames | (simpa [Around.under, Code.envs, Code.isFrame, pushEnvs] using e.frames), e.mod, e.bs, e.bsz, e.funs, e.frf, e.hok, e.bare⟩
section
variable {X : Cx} {pins : List (Addr × Obj)} {σ : St} {H : Hp} {s s' : Shared}
theorem Inv.env0 (I : Inv X pins σ H s) : gs X.prog X.w X.K X.mg X.base X.A X.stack s H :=
 ⟨I.ok.frames, I.ok.mod, I.bs, Nat.le_trans I.ok.bsz I.sz, I.stack, I.stkFree, I.hok, I.bare⟩
theorem Inv.after {Q : VK} {u : Value} (I : Inv X pins σ H s) (h : CE X.stack X.prog X.w H s Q u s') : EP X pins σ Q u s' := by
 obtain ⟨v, H', os, bare, un, hok, r, q⟩ := h
 obtain ⟨hh, g, d, t, os'⟩ := s'
 obtain rfl : os' = s.os := os
 exact ⟨v, H', I.call (h' := hh) (g' := g) (d' := d) (t' := t) (ch := []) un hok bare (fun b z => absurd z (by simp)), r, q⟩
end
def bZ (K : W.Frag) (fd : FuncData) (ps : List Str) (ds : List Value) : Prop :=
 ∀ (s : Shared) (us : List Value), K.In s.heap → (us ++ ds).length = ps.length → BindsTo s fd ⟨us, []⟩ (ps.zip (us ++ ds))
theorem bZ.all {K : W.Frag} {fd : FuncData} {ps : List Str} (h : ∀ us : List Value, us.length = ps.length → bindArgs fd ⟨us, []⟩ = pure (ps.zip us)) : bZ K fd ps [] := fun s us _ hl => by
 rw [List.append_nil] at hl ⊢
 exact .of_eq (h us hl)
section
variable {X : Cx} {CX : CXT} {k : Nat} {f C : Addr} {fd : FuncData} {ps : List Str} {sp : Sp} {dvs : List V} {ds : List Value} {E : XK} {x m : Str} {p pos apos : Pos} {e o : Expr} {es : List Expr} {ta : TE} {t : TA}
structure Mk (K : W.Frag) (C f : Addr) : Prop where
 makes : W.makesIn K C = true
 init : W.findIn K (.ref C) "__init__" = some (some (.ref f))
 fn : W.isFn K (.ref f) = true
 kp : W.keepIn K (.ref C) = true
end
def PK (X : Cx) (kws : List Keyword) (t : TA) : Prop :=
 ∀ (pos : Pos) (pins : List (Addr × Obj)) (s : Shared) (σ : St) (H : Hp) (Q : List V → Hp → Prop), Inv X pins σ H s → t σ H Q → wpAny (model X.prog X.w) X.A (evalAll ((backToKw pos (keywordEach kws X.env)).map (·.2))) (AP X pins σ Q) X.xe s
section
variable {X : Cx} {CX : CXT} {k : Nat} {f C : Addr} {fd : FuncData} {ps ks : List Str} {sp : Sp} {E : XK} {x m : Str} {p pos apos kpos : Pos} {e o : Expr} {es : List Expr} {kws : List Keyword} {te ta : TE} {t tk : TA} {nm : Option Str}
variable {g : List Value → List Value → List Value} {gV : List V → List V → List V}
end
structure az (N P : List Str) (sc : Scope) : Prop where
 kind : sc.kind = .function
 co : sc.isCoroutine = false
 gen : sc.isGenerator = false
 nd : N.Nodup
 pre : N.take P.length = P
 par : ∀ x ∈ P, sc.names.lookup x = some .local ∨ sc.names.lookup x = some .cell
 nofree : ∀ y ∈ sc.names, y.2 ≠ .free
theorem ls {kindOf : Str → Option NameKind} {x : Str} : ∀ {binds : List (Str × Value)} {m : Str → Option Value}, (∀ v, (x, v) ∉ binds) → bindL kindOf binds m x = m x
  | [], _, _ => rfl
  | (n, v) :: r, m, h => by
    unfold bindL
    rw [ls fun w hw => h w (List.mem_cons_of_mem _ hw)]
    split
    · have : x ≠ n := by rintro rfl; exact h v List.mem_cons_self
      simp [this]
    · rfl
theorem kT {kindOf : Str → Option NameKind} {x : Str} : ∀ {binds : List (Str × Value)} {m : Str → Option Value}, (∀ v, (x, v) ∉ binds) → bindC kindOf binds m x = m x
  | [], _, _ => rfl
  | (n, v) :: r, m, h => by
    unfold bindC
    rw [kT fun w hw => h w (List.mem_cons_of_mem _ hw)]
    split
    · rfl
    · have : x ≠ n := by rintro rfl; exact h v List.mem_cons_self
      simp [this]
theorem lh {kindOf : Str → Option NameKind} {x : Str} {v : Value} : ∀ {P : List Str} {vs : List Value} {i : Nat} {m : Str → Option Value}, P.Nodup → P[i]? = some x → vs[i]? = some v → kindOf x = some .local →
    bindL kindOf (P.zip vs) m x = some v
  | [], _, _, _, _, h, _, _ => by simp at h
  | _ :: _, [], _, _, _, _, h, _ => by simp at h
  | p :: P, w :: vs, 0, m, nd, h1, h2, hk => by
    simp at h1 h2; subst h1; subst h2
    show bindL kindOf ((p, w) :: P.zip vs) m p = _
    unfold bindL
    rw [ls fun v hv => (List.nodup_cons.mp nd).1 (List.of_mem_zip hv).1, if_pos hk]
    simp
  | p :: P, w :: vs, i + 1, m, nd, h1, h2, hk => by
    show bindL kindOf ((p, w) :: P.zip vs) m x = _
    unfold bindL
    exact lh (i := i) (List.nodup_cons.mp nd).2 (by simpa using h1) (by simpa using h2) hk
theorem kL {kindOf : Str → Option NameKind} {x : Str} {v : Value} : ∀ {P : List Str} {vs : List Value} {i : Nat} {m : Str → Option Value}, P.Nodup → P[i]? = some x → vs[i]? = some v → kindOf x ≠ some .local →
    bindC kindOf (P.zip vs) m x = some v
  | [], _, _, _, _, h, _, _ => by simp at h
  | _ :: _, [], _, _, _, _, h, _ => by simp at h
  | p :: P, w :: vs, 0, m, nd, h1, h2, hk => by
    simp at h1 h2; subst h1; subst h2
    show bindC kindOf ((p, w) :: P.zip vs) m p = _
    unfold bindC
    rw [kT fun v hv => (List.nodup_cons.mp nd).1 (List.of_mem_zip hv).1, if_neg hk]
    simp
  | p :: P, w :: vs, i + 1, m, nd, h1, h2, hk => by
    show bindC kindOf ((p, w) :: P.zip vs) m x = _
    unfold bindC
    exact kL (i := i) (List.nodup_cons.mp nd).2 (by simpa using h1) (by simpa using h2) hk
def start (N : List Str) (vs : List V) : St := vs.map some ++ List.replicate (N.length - vs.length) none
def cI (CX : CXT) (P : Program) (w : World) (K : W.Frag) (mg : Str → Option Value) (base : Heap) (N : List Str) (qual : Str) (scope : Scope) (f : Addr) (cd : Value) (A : Around) (outer : List Env) (s : Shared) (H : Hp) (E : XK) : Cx where
 prog := P
 w := w
 K := K
 mg := mg
 base := base
 A := A.deeper (envOfC qual scope s.heap.objs.size f cd)
 N := N
 s₀ := s
 H₀ := H
 env := envOfC qual scope s.heap.objs.size f cd
 outer := outer
 stack := envOfC qual scope s.heap.objs.size f cd :: outer
 ex := []
 calm := true
 fn := fun _ => true
 pn := []
 xe := fun e s' => wpAny (model P w) (A.deeper (envOfC qual scope s.heap.objs.size f cd)) (leaving (envOfC qual scope s.heap.objs.size f cd) e) (fun _ s'' => CX outer H s E e s'') (fun e' s'' => CX outer H s E e' s'') s'
theorem mD {sc : Scope} {n : Nat} {x : Str} (h : sc.names.lookup x = some .cell) : ∃ c, (cellsFrom n sc.names []).lookup x = some c := by
 have q := W.cellsFrom_some sc.names n [] (.inl h)
 exact Option.isSome_iff_exists.mp q
theorem kO {CX : CXT} {P : Program} {w : World} {K : W.Frag} {mg : Str → Option Value} {base : Heap} {N ps : List Str} {qual : Str} {scope : Scope} {f : Addr} {cd : Value} {A : Around} {outer : List Env} {s s1 : Shared} {H : Hp} {E : XK} {us : List Value} {vs : List V}
   (S : az N ps scope) (hd : A.handled = none) (e0 : gs P w K mg base A outer s H) (hl : vs.length = ps.length) (r : aA vs us)
   (x : InCallC s s.heap.objs.size (bindL (envOfC qual scope s.heap.objs.size f cd).kindOf (ps.zip us) fun _ => none) (cellsFrom (s.heap.objs.size + 1) scope.names []) (bindC (envOfC qual scope s.heap.objs.size f cd).kindOf (ps.zip us) fun _ => none) s1) :
   Inv (cI CX P w K mg base N qual scope f cd A outer s H E) [] (start N vs) H s1 := by
 have hpl : ps.length ≤ N.length := by have := congrArg List.length S.pre; rw [List.length_take] at this; omega
 obtain ⟨h1, tk, rfl, hk⟩ := x.done
 have noA : ∀ b : Addr, b ∉ (cI CX P w K mg base N qual scope f cd A outer s H E).ex := fun b z => absurd (show b ∈ ([] : List Addr) from z) (by simp)
 refine ⟨⟨e0.mod, S.kind, rfl, rfl, Nat.le_refl _, fun y z c h1 h2 => ?_, fun y hy => ?_, fun y c _ h => ?_, fun _ => hd, Around.frames_deeper e0.frames, .inr ⟨rfl, rfl⟩, fun b z => absurd z (noA b), e0.bs, e0.bsz, fun b _ _ => noA b, fun b z => absurd z (noA b), e0.funs, e0.frf⟩,
   rfl, e0.bare, Un.kept hk, ⟨_, x.toInCall.ns, fun i y v h1 h2 h3 => ?_⟩, fun y c h => ⟨_, x.cell y c h⟩, e0.hok.fresh (Nat.le_refl _), fun y c h => ?_, fun p hp => absurd (show p ∈ ([] : List (Addr × Obj)) from hp) (by simp), e0.hok.kept hk, ?_⟩
 · exact name_of_addr x.apart (PySem.mem_of_lookup h1) (PySem.mem_of_lookup h2)
 · have hy : scope.names.lookup y = some .cell ∨ scope.names.lookup y = some .free := hy
   rcases hy with hy | hy
   · exact mD hy
   · exact absurd rfl (S.nofree _ (PySem.mem_of_lookup hy))
 · exact Nat.le_of_lt (x.above y c (PySem.mem_of_lookup h))
 · have hi : i < vs.length := by
     unfold start at h2
     by_cases hi : i < vs.length
     · exact hi
     · rw [List.getElem?_append_right (by simpa using hi)] at h2
       rw [List.getElem?_replicate] at h2
       split at h2 <;> cases h2
   have ha : vs[i]? = some v := by
     unfold start at h2
     rw [List.getElem?_append_left (by simpa using hi), List.getElem?_map] at h2
     cases e : vs[i]? with
     | none => rw [e] at h2; cases h2
     | some a => rw [e] at h2; cases h2; rfl
   obtain ⟨u, hu, rv⟩ := r.get ha
   have hp : ps[i]? = some y := by
     rw [← S.pre, List.getElem?_take_of_lt (by omega)]; exact h1
   have ndP : ps.Nodup := by rw [← S.pre]; exact S.nd.sublist (List.take_sublist _ _)
   refine ⟨u, rv, ?_⟩
   rcases S.par y (List.mem_of_getElem? hp) with k | k
   · exact .inl ⟨k, lh ndP hp hu k⟩
   · obtain ⟨c, e⟩ := mD (n := s.heap.objs.size + 1) k
     refine .inr ⟨.inl k, c, e, ?_⟩
     have q := x.cell y c e
     rw [kL ndP hp hu (by show scope.names.lookup y ≠ _; rw [k]; decide)] at q
     exact q
 · exact e0.hok.fresh (Nat.le_of_lt (x.above y c (PySem.mem_of_lookup h)))
 · unfold start
   show _ = N.length
   rw [List.length_append, List.length_map, List.length_replicate]
   omega
theorem wt {CX : CXT} {P : Program} {w : World} {K : W.Frag} {mg : Str → Option Value} {base : Heap} {k : Nat} {f : Addr} {name qual : Str} {params : Arguments} {body : List Stmt} {scope : Scope} {dV kV doc pm cdv ct oc : Value} {an od : Option Addr}
    {osl : Array (Option Value)} {N ps : List Str} {sp : Sp} (lk : K.lookup f = some ⟨oc, od, .func (W.fnOf name qual params body scope dV kV doc pm an cdv ct), osl⟩) (hcd : W.codeIn K cdv qual = true) (S : az N ps scope)
    (len : ∀ vs H Q E, sp vs H Q E → vs.length = ps.length)
    (hbody : ∀ (A : Around) (outer : List Env) (s : Shared) (H : Hp) (vs : List V) (Q : VK) (E : XK), ba k (A.deeper (envOfC qual scope s.heap.objs.size f cdv)) → sp vs H Q E →
      ∃ t, PSs (cI CX P w K mg base N qual scope f cdv A outer s H E) body t ∧ t { nx := fun _ H' => Q .non H', rt := Q } (start N vs) H) :
    aU P w K mg base CX (k + 1) f (W.fnOf name qual params body scope dV kV doc pm an cdv ct) ps sp := by
  refine ⟨len, fun A outer s H args us vs Q E hr e0 hb r hsp => ?_⟩
  have hl := len _ _ _ _ hsp
  have KX : K.In s.heap := e0.mod.kin.keeps fun b o e => (e0.bs b o e).1
  have lim : s.heap.NoLimit := e0.mod.nolimit.keeps fun b o e => (e0.bs b o e).1
  have hkind : ∀ y ∈ ps.zip us, scope.names.lookup y.1 = some .local ∨ (scope.names.lookup y.1 = some .cell ∧ ((cellsFrom (s.heap.objs.size + 1) scope.names []).lookup y.1).isSome = true) := fun ⟨n, v⟩ hy => by
    rcases S.par n (List.of_mem_zip hy).1 with q | q
    · exact .inl q
    · exact .inr ⟨q, W.cellsFrom_some _ _ _ (.inl q)⟩
  refine codeAny_call_function hr.depth (KX _ _ lk) rfl S.co S.gen rfl (W.codeRec_of KX hcd) (hb _ _ _ _ ?_)
  refine wpAny_newFunctionEnv_cells S.kind hkind fun env he s1 x => ?_
  subst he
  refine ⟨lim.keeps x.toInCall.keep, codeAny_func ?_⟩
  obtain ⟨t, ht, hq⟩ := hbody A outer s H vs Q E (hr.deeper _) hsp
  have I : Inv (cI CX P w K mg base N qual scope f cdv A outer s H E) [] (start N vs) H s1 := kO S hr.hd e0 hl r x
  refine wpAny_mono (ht [] s1 (start N vs) H _ I hq) (fun fl s' hs => ?_) fun e s' hs => hs
  have fin : ∀ {σ' : St} {H' : Hp} {v : V} {u : Value}, Inv (cI CX P w K mg base N qual scope f cdv A outer s H E) [] σ' H' s' → aC v u → Q v H' → CE outer P w H s Q u s' :=
    fun {σ' H' v u} J rv q => ⟨v, H', J.os, J.bare, J.base, J.hok, rv, q⟩
  cases fl with
  | ret u =>
    obtain ⟨v, σ', H', J, rv, q⟩ := hs
    exact fin J rv q
  | next =>
    obtain ⟨σ', H', J, q⟩ := hs
    exact fin (v := V.non) (u := Value.none) J rfl q
  | brk =>
    obtain ⟨_, _, _, q⟩ := hs
    exact False.elim q
  | cont =>
    obtain ⟨_, _, _, q⟩ := hs
    exact False.elim q
end L2
namespace L2
open PySem PySem.Spec PyProof.Rows
section
variable {X : Cx} {x : Str} {p pos : Pos} {e : Expr} {es : List Expr} {t : TA} {id T : String} {r : List V → Hp → VK → Prop}
def tCB (r : List V → Hp → VK → Prop) (t : TA) : TE := fun σ H Q => t σ H fun vs H1 => r vs H1 Q
theorem sW (hc : bF X (.builtin id) r) (hg : Gl X x) (hm : X.mg x = none) (hv : bootBuiltins x = some (.builtin id)) (ha : PA X (e :: es) t) (hn : x ≠ "__name__" := by decide) (hdb : (x == ("__debug__" : Str)) = false := by decide)
  (he : starEach (e :: es) X.env = (false, eval e X.env) :: starEach es X.env := by rfl) (hpl : (backTo pos (starEach es X.env)).any (·.1) = false := by rfl) : PE X (.Call (.Name x p) (e :: es) [] pos) (tCB r t) := by
 intro pins s σ H Q I h
 refine wpAny_Call_Name_kw (dw I hg hm hv ?_ hn hdb)
 exact PyProof.Rows.callWith_builtin1 (thn (ha pos pins s σ H _ I h) fun us s1 ⟨vs, H1, I1, r1, q1⟩ => hc pins s1 σ H1 vs us Q I1 r1 q1) he hpl
theorem rC (hc : bF X (.type T) r) (hg : Gl X x) (hm : X.mg x = none) (hv : bootBuiltins x = some (.type T)) (ha : PA X (e :: es) t) (hn : x ≠ "__name__" := by decide) (hdb : (x == ("__debug__" : Str)) = false := by decide)
  (he : starEach (e :: es) X.env = (false, eval e X.env) :: starEach es X.env := by rfl) (hpl : (backTo pos (starEach es X.env)).any (·.1) = false := by rfl) : PE X (.Call (.Name x p) (e :: es) [] pos) (tCB r t) := by
 intro pins s σ H Q I h
 refine wpAny_Call_Name_kw (dw I hg hm hv ?_ hn hdb)
 exact PyProof.Rows.callWith_type1 (thn (ha pos pins s σ H _ I h) fun us s1 ⟨vs, H1, I1, r1, q1⟩ => hc pins s1 σ H1 vs us Q I1 r1 q1) he hpl
end
end L2
namespace HT
open PySem PyProof.Rows
section
open PySem.SeqAt
open PySem.AutoSeq1 (wpAny_loadPart')
open PySem.MeetsSeq PySem.MeetsSeq2 PySem.MeetsSeq3
end
section
variable {prog : Program} {w : World} {A : Around} {E : Value → Shared → Prop} {s : Shared}
theorem xN {t b : Addr} {vs ws : List Value} {Q : Value → Shared → Prop} (ht : IsTup s.heap t vs.toArray) (hb : IsTup s.heap b ws.toArray) (hv : vs ≠ [])
   (h1 : ws = [] → Q (.ref t) s) (h2 : ws ≠ [] → Q (.ref s.heap.objs.size) { s with heap := s.heap.push { cls := .type "tuple", data := .seq (vs ++ ws).toArray } })
   (hsz : vs.length + ws.length ≤ sizeLine) : wpAny (model prog w) A (binaryOp .Add (.ref t) (.ref b)) Q E s := by
 obtain ⟨⟨cls, dd, data, sl⟩, ho, hc, n, hd⟩ := id ht
 obtain ⟨⟨cls2, dd2, data2, sl2⟩, ho2, hc2, n2, hd2⟩ := id hb
 simp only at hc hd hc2 hd2
 subst hc hd hc2 hd2
 have e : vs.toArray ++ ws.toArray = (vs ++ ws).toArray := by simp
 by_cases hw : ws = []
 · exact concat_meets ⟨_, ho, rfl⟩ ⟨_, ho2, rfl⟩ noFill_tuple_add seq_tuple_add PySem.F.slot_tuple_add PySem.F.entry_tuple_add (PySem.F.args_tuple_add_2 _ _)
    (tuple_addW1 t b vs.toArray ws.toArray n n2 dd dd2 sl sl2 (by simpa using hv) (by simp [hw])) ⟨ho, ho2, h1 hw⟩
 · refine concat_meets ⟨_, ho, rfl⟩ ⟨_, ho2, rfl⟩ noFill_tuple_add seq_tuple_add PySem.F.slot_tuple_add PySem.F.entry_tuple_add (PySem.F.args_tuple_add_2 _ _)
    (tuple_addW2 t b vs.toArray ws.toArray n n2 dd dd2 sl sl2 (by simpa using hv) (by simpa using hw) (by rw [List.size_toArray, List.size_toArray]; exact hsz)) ⟨ho, ho2, ?_⟩
   rw [e]
   exact h2 hw
def sIx (n d : Nat) : Option Int → Nat
 | none => d
 | some v => if v < 0 then (v + (n : Int)).toNat else min v.toNat n
theorem mB (n d : Nat) : sIx n d none = d := rfl
theorem ou (n d k : Nat) : sIx n d (some (k : Int)) = min k n := by
 show (if (k : Int) < 0 then ((k : Int) + (n : Int)).toNat else min (k : Int).toNat n) = min k n
 rw [if_neg (by omega), Int.toNat_natCast]
theorem yW (n d : Nat) (hd : d ≤ n) (o : Option Int) : sIx n d o ≤ n := by
  cases o with
  | none => exact hd
  | some v =>
    show (if v < 0 then (v + (n : Int)).toNat else min v.toNat n) ≤ n
    by_cases hv : v < 0
    · rw [if_pos hv]; omega
    · rw [if_neg hv]; exact Nat.min_le_right _ _
theorem oq (v : Int) (n d : Nat) : (if v < 0 then max (v + (n : Int)) 0 else min v (n : Int)) = ((sIx n d (some v) : Nat) : Int) := by
 show (if v < 0 then max (v + (n : Int)) 0 else min v (n : Int)) = (((if v < 0 then (v + (n : Int)).toNat else min v.toNat n) : Nat) : Int)
 by_cases hv : v < 0
 · simp only [if_pos hv]; omega
 · simp only [if_neg hv]; omega
theorem ql (lo hi : Option Int) (n : Nat) : Builtin.Slice.sliceAdjust lo hi 1 (n : Int) = (((sIx n 0 lo : Nat) : Int), ((sIx n n hi : Nat) : Int)) := by
 have h1 : ¬ ((1 : Int) < 0) := by omega
 unfold Builtin.Slice.sliceAdjust
 simp only [h1, if_false]
 refine Prod.ext ?_ ?_
 · cases lo with
   | none => rfl
   | some v => exact oq v n 0
 · cases hi with
   | none => rfl
   | some v => exact oq v n n
theorem qE (i j : Nat) : Builtin.Slice.slicePlaces (i : Int) (j : Int) 1 = j - i := by
 unfold Builtin.Slice.slicePlaces
 have h1 : (1 : Int) > 0 := by omega
 simp only [h1, if_true, Int.ediv_one]
 split <;> omega
theorem jG {v : Value} {o : Option Int} {Q : Option Int → Shared → Prop} (p : IsPart v o) (h : Q o s) : wpAny (model prog w) A (Builtin.Slice.slicePartIndex v) Q E s := by
 cases p with
 | none => exact slicePart_none h
 | int i t => exact slicePart_int h
theorem ft {sl : Addr} {vl vu : Value} {lo hi : Option Int} {n : Nat} {Q : Int × Int × Nat → Shared → Prop} (hs : s.heap.IsSliceOf sl vl vu .none) (pl : IsPart vl lo) (pu : IsPart vu hi)
  (h : Q (((sIx n 0 lo : Nat) : Int), 1, sIx n n hi - sIx n 0 lo) s) : wpAny (model prog w) A (Builtin.Slice.sliceApplied (.ref sl) (pure (n : Int))) Q E s := by
 obtain ⟨os, hos, hcs, hds⟩ := id hs
 unfold Builtin.Slice.sliceApplied Builtin.Slice.sliceFields
 refine wpAny_bind (wpAny_bind (wpAny_field hos hds (x := vl) rfl (wpAny_bind (wpAny_field hos hds (x := vu) rfl (wpAny_bind (wpAny_field hos hds (x := .none) rfl (wpAny_pure ?_)))))))
 refine wpAny_bind (slicePart_none ?_)
 show wpAny _ _ (if ((1 : Int) == 0) = true then _ else _) _ _ s
 rw [if_neg (by decide)]
 refine wpAny_bind (jG pl (wpAny_bind (jG pu (wpAny_bind (wpAny_pure ?_)))))
 show wpAny _ _ (match Builtin.Slice.sliceAdjust lo hi 1 (n : Int) with | (lo, hi) => pure (lo, (1 : Int), Builtin.Slice.slicePlaces lo hi 1)) _ _ s
 rw [ql lo hi n]
 show wpAny _ _ (pure (((sIx n 0 lo : Nat) : Int), (1 : Int), Builtin.Slice.slicePlaces ((sIx n 0 lo : Nat) : Int) ((sIx n n hi : Nat) : Int) 1)) _ _ s
 rw [qE]
 exact wpAny_pure h
theorem uQ (xs : Array Value) (i k : Nat) : ((List.range k).filterMap fun (m : Nat) => xs[((i : Int) + (m : Int) * 1).toNat]?).toArray = ((xs.toList.drop i).take k).toArray := by
 have e : (fun (m : Nat) => xs[((i : Int) + (m : Int) * 1).toNat]?) = fun m => xs[i + m]? := by
  funext m
  have : ((i : Int) + (m : Int) * 1).toNat = i + m := by omega
  rw [this]
 rw [e]
 have := pick_run xs i k
 rw [List.filterMap_map] at this
 have e2 : ((fun x => xs[x]?) ∘ fun x => i + x) = fun m => xs[i + m]? := rfl
 rw [e2] at this
 rw [this]
theorem iY {t sl : Addr} {items : Array Value} {vl vu : Value} {lo hi : Option Int} {Q : Value → Shared → Prop} (ht : IsTup s.heap t items) (hs : s.heap.IsSliceOf sl vl vu .none) (pl : IsPart vl lo) (pu : IsPart vu hi)
  (hw : ¬ (sIx items.size 0 lo = 0 ∧ sIx items.size items.size hi = items.size))
  (h : Q (.ref s.heap.objs.size) { s with heap := s.heap.push { cls := .type "tuple", data := .seq ((items.toList.drop (sIx items.size 0 lo)).take (sIx items.size items.size hi - sIx items.size 0 lo)).toArray } })
  (hsz : items.size ≤ sizeLine) : wpAny (model prog w) A (getItem (.ref t) (.ref sl)) Q E s := by
 have htake : sizeOk (.seq ((items.toList.drop (sIx items.size 0 lo)).take (sIx items.size items.size hi - sIx items.size 0 lo)).toArray) := by
  show ((items.toList.drop (sIx items.size 0 lo)).take (sIx items.size items.size hi - sIx items.size 0 lo)).toArray.size ≤ sizeLine
  rw [List.size_toArray, List.length_take, List.length_drop, Array.length_toList]
  omega
 have hj : sIx items.size items.size hi ≤ items.size := yW _ _ (Nat.le_refl _) hi
 obtain ⟨os, hos, hcs, hds⟩ := id hs
 have hTs : s.TypeIs (.ref sl) "slice" := ⟨os, hos, hcs⟩
 unfold getItem
 try with_reducible refine wpAny_holding ?_
 first | refine wpAny_bind (wpAny_pure ?_) | skip
 refine wpAny_bind (wpAny_sequenceKey ht.typeIs (by decide) ?_)
 refine wpAny_bind (wpAny_callSpecial?_slot (name := Str.ofString "__getitem__") ht.typeIs PyProof.Rows.slot_tuple_getitem
  (wpAny_call_entry PyProof.Rows.slot_tuple_getitem ht.typeIs entry_tuple_getitem ?_ (args_tuple_getitem _ _)))
 show wpAny _ _ (Builtin.Tuple.tupleItemsOf (.ref t) >>= _) _ _ s
 refine wpAny_bind (tupleItemsOf_ ht ?_)
 refine wpAny_bind (wpAny_typeOf hTs ?_)
 rw [if_pos (by decide)]
 refine wpAny_bind (ft hs pl pu ?_)
 have hno : ¬ ((((sIx items.size 0 lo : Nat) : Int) == 0 && (1 : Int) == 1 && (sIx items.size items.size hi - sIx items.size 0 lo) == items.size) = true) := by
  intro q
  rw [Bool.and_eq_true, Bool.and_eq_true] at q
  have q1 : ((sIx items.size 0 lo : Nat) : Int) = 0 := eq_of_beq q.1.1
  have q2 : sIx items.size items.size hi - sIx items.size 0 lo = items.size := eq_of_beq q.2
  exact hw ⟨by omega, by omega⟩
 show wpAny _ _ (if (((sIx items.size 0 lo : Nat) : Int) == 0 && (1 : Int) == 1 && (sIx items.size items.size hi - sIx items.size 0 lo) == items.size) = true then _ else _) _ _ s
 rw [if_neg hno, uQ]
 first
  | exact wpAny_bind (m := Builtin.Tuple.tupleExact _) (wpAny_newObj_type (wpAny_pure ⟨_, rfl, wpAny_pure h⟩) htake)
  | exact wpAny_bind (m := Builtin.Tuple.tupleExact _) (wpAny_newObj_type (wpAny_bind (wpAny_pure (wpAny_pure ⟨_, rfl, wpAny_pure h⟩))) htake)
  | exact wpAny_bind (wpAny_bind (m := Builtin.Tuple.tupleExact _) (wpAny_newObj_type (wpAny_pure (wpAny_pure ⟨_, rfl, wpAny_pure h⟩)) htake))
  | exact wpAny_bind (wpAny_bind (m := Builtin.Tuple.tupleExact _) (wpAny_newObj_type (wpAny_pure ⟨_, rfl, wpAny_pure h⟩) htake))
end
end HT
namespace L2
open PySem PySem.Spec PyProof.Rows
abbrev TO := St → Hp → (Option Int → Hp → Prop) → Prop
def PO (X : Cx) (e : Option Expr) (t : TO) : Prop :=
 ∀ (pins : List (Addr × Obj)) (s : Shared) (σ : St) (H : Hp) (Q : Option Int → Hp → Prop), Inv X pins σ H s → t σ H Q →
  wpAny (model X.prog X.w) X.A (evalPart e X.env) (fun u s' => ∃ o H', Inv X pins σ H' s' ∧ IsPart u o ∧ Q o H') X.xe s
def dh : TO := fun _ H Q => Q none H
def eY (t : TE) : TO := fun σ H Q => t σ H fun x H1 => ∃ i, x = .int i ∧ Q (some i) H1
section
variable {X : Cx} {e : Expr} {te : TE} {lo hi : Option Expr} {tl th : TO} {pos p2 : Pos}
theorem xI : PO X none dh := by
 intro pins s σ H Q I h
 rw [evalPart_none]
 exact wpAny_pure ⟨none, H, I, .none, h⟩
theorem wL (h : PE X e te) : PO X (some e) (eY te) := by
 intro pins s σ H Q I hw
 rw [evalPart_some]
 refine thn (h pins s σ H _ I hw) fun u s1 ⟨x, H1, I1, r1, q1⟩ => ?_
 obtain ⟨i, rfl, q⟩ := q1
 obtain ⟨t, rfl⟩ := r1
 exact ⟨some i, H1, I1, .int i t, q⟩
def SlR (X : Cx) (r : V → Option Int → Option Int → Hp → VK → Prop) : Prop :=
 ∀ (pins : List (Addr × Obj)) (s : Shared) (σ : St) (H : Hp) (x : V) (v vl vu : Value) (lo hi : Option Int) (sl : Addr) (Q : VK), Inv X pins σ H s → aC x v → s.heap.IsSliceOf sl vl vu .none → IsPart vl lo → IsPart vu hi → r x lo hi H Q →
  ∃ T id, typeLookup (.type T) "__getitem__" = pure (some (.builtin id)) ∧ s.TypeIs v T ∧ wpAny (model X.prog X.w) X.A (getItem v (.ref sl)) (EP X pins σ Q) X.xe s
theorem SlR.or {r r' : V → Option Int → Option Int → Hp → VK → Prop} (h : SlR X r) (h' : SlR X r') : SlR X (fun x lo hi H Q => r x lo hi H Q ∨ r' x lo hi H Q) := by
 intro pins s σ H x v vl vu lo hi sl Q I rx hs pl pu q
 rcases q with q | q
 · exact h pins s σ H x v vl vu lo hi sl Q I rx hs pl pu q
 · exact h' pins s σ H x v vl vu lo hi sl Q I rx hs pl pu q
def tSl (r : V → Option Int → Option Int → Hp → VK → Prop) (te : TE) (tl th : TO) : TE := fun σ H Q => te σ H fun x H1 => tl σ H1 fun l H2 => th σ H2 fun u H3 => r x l u H3 Q
theorem uV {r : V → Option Int → Option Int → Hp → VK → Prop} (hr : SlR X r) (he : PE X e te) (hl : PO X lo tl) (hu : PO X hi th) : PE X (.Subscript e (.Slice lo hi none p2) pos) (tSl r te tl th) := by
 intro pins s σ H Q I h
 refine Subscript_ (thn (he pins s σ H _ I h) fun v s1 ⟨x, H1, I1, r1, q1⟩ => ?_)
 refine wpAny_Slice (thn (hl pins s1 σ H1 _ I1 q1) fun vl s2 ⟨l, H2, I2, pl, q2⟩ => thn (hu pins s2 σ H2 _ I2 q2) fun vu s3 ⟨u, H3, I3, pu, q3⟩ => ?_)
 rw [evalPart_none]
 refine wpAny_pure ?_
 have I4 : Inv X pins σ H3 { s3 with heap := s3.heap.push { cls := .type "slice", data := .fields #[vl, vu, .none] } } := I3.kept (t' := s3.toks) fun b ob q => Heap.get?_push_of_some _ q
 obtain ⟨T, id, hT, ht, hg⟩ := hr pins { s3 with heap := s3.heap.push { cls := .type "slice", data := .fields #[vl, vu, .none] } } σ H3 x v vl vu l u s3.heap.objs.size Q I4 r1 (Heap.IsSliceOf.new ..) pl pu q3
 show wpAny (model X.prog X.w) X.A (subscriptTail e (.Slice lo hi none p2) v (.ref s3.heap.objs.size)) (EP X pins σ Q) X.xe { s3 with heap := s3.heap.push { cls := .type "slice", data := .fields #[vl, vu, .none] } }
 exact tail_any (ops := [.ref s3.heap.objs.size, v]) ht hT hg (by with_unfolding_all rfl)
def eu (xs : List V) (lo hi : Option Int) : List V := (xs.drop (HT.sIx xs.length 0 lo)).take (HT.sIx xs.length xs.length hi - HT.sIx xs.length 0 lo)
theorem jc (xs : List V) (lo hi : Option Int) : (eu xs lo hi).length ≤ xs.length := by
 unfold eu
 rw [List.length_take, List.length_drop]
 omega
def Eh (K : W.Frag) : V → Option Int → Option Int → Hp → VK → Prop := fun x lo hi H Q => ∃ a xs, x = .ref a ∧ SqT K H a xs ∧
 ¬ (HT.sIx xs.length 0 lo = 0 ∧ HT.sIx xs.length xs.length hi = xs.length) ∧ ∀ p, H p = none → Q (.ref p) (upd H p (.tup (eu xs lo hi)))
theorem zt : SlR X (Eh X.K) := by
 intro pins s σ H x v vl vu lo hi sl Q I rx hs pl pu h
 obtain ⟨a, xs, rfl, hx, hw, q⟩ := h
 cases rx
 obtain ⟨its, r, ht, hz⟩ := I.tuple hx
 have hlen : its.toArray.size = xs.length := by rw [List.size_toArray]; exact r.length.symm
 refine ⟨"tuple", _, PyProof.Rows.slot_tuple_getitem.lookup, ht.typeIs, ?_⟩
 refine HT.iY ht hs pl pu (by rw [hlen]; exact hw) ?_ (by rw [hlen]; exact hz)
 rw [hlen]
 refine ⟨.ref s.heap.objs.size, _, I.laid (t' := s.toks) (o := .tup (eu xs lo hi)) (fun b ob q => Heap.get?_push_of_some _ q) (Nat.le_refl _) ?_, rfl, q _ (I.hok.fresh (Nat.le_refl _))⟩
 exact ⟨Nat.le_trans (jc xs lo hi) hz, _, (r.drop (HT.sIx xs.length 0 lo)).take (HT.sIx xs.length xs.length hi - HT.sIx xs.length 0 lo), IsTup.new _ _⟩
def BG (K : W.Frag) : R2 := fun x y H Q => ∃ a b xs ys, x = .ref a ∧ y = .ref b ∧ SqT K H a xs ∧ SqT K H b ys ∧ xs ≠ [] ∧ xs.length + ys.length ≤ sizeLine ∧
 (ys = [] → Q (.ref a) H) ∧ (ys ≠ [] → ∀ p, H p = none → Q (.ref p) (upd H p (.tup (xs ++ ys))))
theorem aA.nil_iff {xs : List V} {us : List Value} (r : aA xs us) : us = [] ↔ xs = [] := by
 cases r with
 | nil => simp
 | cons _ _ => simp
theorem wU : OpR X (binaryOp .Add) (BG X.K) := by
 intro pins s σ H x y v u Q I rx ry h
 obtain ⟨a, b, xs, ys, rfl, rfl, ha, hb, hx, hz, q1, q2⟩ := h
 cases rx
 cases ry
 obtain ⟨its, r1, p1, _⟩ := I.tuple ha
 obtain ⟨its2, r2, p2, _⟩ := I.tuple hb
 refine HT.xN p1 p2 (fun z => hx (r1.nil_iff.mp z)) (fun z => ⟨.ref a, H, I, rfl, q1 (r2.nil_iff.mp z)⟩) (fun z => ?_) (by rw [← r1.length, ← r2.length]; exact hz)
 refine ⟨.ref s.heap.objs.size, _, I.laid (t' := s.toks) (o := .tup (xs ++ ys)) (fun b ob q => Heap.get?_push_of_some _ q) (Nat.le_refl _) ?_, rfl, q2 (fun w => z (r2.nil_iff.mpr w)) _ (I.hok.fresh (Nat.le_refl _))⟩
 exact ⟨by rw [List.length_append]; exact hz, _, r1.append r2, IsTup.new _ _⟩
end
end L2
namespace L2
open PySem PySem.Spec PyProof.Rows
def ixN (n : Nat) (i : Int) : Option Nat := if 0 ≤ i then (if i < n then some i.toNat else none) else if -(n : Int) ≤ i then some (i + n).toNat else none
def atI {α : Type} (xs : List α) (i : Int) : Option α := (ixN xs.length i).bind fun j => xs[j]?
theorem oE {n : Nat} {i : Int} {j : Nat} (h : ixN n i = some j) : seqIndex? i n = some j ∧ j < n ∧ -(n : Int) ≤ i ∧ i < n := by
 unfold ixN at h
 by_cases h0 : 0 ≤ i
 · rw [if_pos h0] at h
   by_cases h1 : i < n
   · rw [if_pos h1] at h
     have e : i.toNat = j := Option.some.inj h
     exact ⟨by rw [seqIndex_of h0 h1, e], by omega, by omega, h1⟩
   · rw [if_neg h1] at h; cases h
 · rw [if_neg h0] at h
   by_cases h1 : -(n : Int) ≤ i
   · rw [if_pos h1] at h
     have e : (i + n).toNat = j := Option.some.inj h
     exact ⟨by rw [seqIndex_neg (by omega) h1, e], by omega, h1, by omega⟩
   · rw [if_neg h1] at h; cases h
theorem fZ {α : Type} {xs : List α} {i : Int} {v : α} (h : atI xs i = some v) : ∃ j, seqIndex? i xs.length = some j ∧ xs[j]? = some v ∧ j < xs.length ∧ -(xs.length : Int) ≤ i ∧ i < xs.length := by
  unfold atI at h
  cases e : ixN xs.length i with
  | none => rw [e] at h; cases h
  | some j =>
    rw [e] at h
    obtain ⟨h1, h2, h3, h4⟩ := oE e
    exact ⟨j, h1, h, h2, h3, h4⟩
theorem tN {α : Type} (xs : List α) (v : α) : atI (xs ++ [v]) (-1) = some v := by
 have hl : (xs ++ [v]).length = xs.length + 1 := by simp
 have e : ixN (xs ++ [v]).length (-1) = some xs.length := by
  unfold ixN
  rw [hl, if_neg (by decide), if_pos (by omega)]
  congr 1
  omega
 unfold atI
 rw [e]
 show (xs ++ [v])[xs.length]? = some v
 simp
def oV (b : Expr) : Prop := ∀ o i, subscripted b false o i = operate [o, i] (getItem o i)
def IxR (X : Cx) (r : R2) : Prop :=
 ∀ (value slice : Expr) (pins : List (Addr × Obj)) (s : Shared) (σ : St) (H : Hp) (x y : V) (v u : Value) (Q : VK), Inv X pins σ H s → aC x v → aC y u → r x y H Q →
  subscripted slice false v u = operate [v, u] (getItem v u) → wpAny (model X.prog X.w) X.A (subscriptTail value slice v u) (EP X pins σ Q) X.xe s
def MtR (X : Cx) (id : String) (r : V → List V → Hp → VK → Prop) : Prop :=
 ∀ (pins : List (Addr × Obj)) (s : Shared) (σ : St) (H : Hp) (x : V) (xs : List V) (v : Value) (us : List Value) (Q : VK), Inv X pins σ H s → aC x v → aA xs us → r x xs H Q →
  wpAny (model X.prog X.w) X.A (call (.builtin id) (v :: us)) (EP X pins σ Q) X.xe s
section
variable {X : Cx} {a b : Expr} {ta tb : TE} {pos : Pos}
theorem IxR.or {r r' : R2} (h : IxR X r) (h' : IxR X r') : IxR X (fun x y H Q => r x y H Q ∨ r' x y H Q) := by
 intro value slice pins s σ H x y v u Q I rx ry q hs
 rcases q with q | q
 · exact h value slice pins s σ H x y v u Q I rx ry q hs
 · exact h' value slice pins s σ H x y v u Q I rx ry q hs
theorem AQ {r : R2} (hr : IxR X r) (ha : PE X a ta) (hb : PE X b tb) (hs : oV b) : PE X (.Subscript a b pos) (tOp r ta tb) := by
 intro pins s σ H Q I h
 exact Subscript_ (uO ha hb I h fun v u s2 x y H2 I2 rx ry q => hr a b pins s2 σ H2 x y v u Q I2 rx ry q (hs _ _))
def zG (K : W.Frag) : R2 := fun x y H Q => ∃ p xs i v, x = .ref p ∧ y = .int i ∧ SqL K H p xs ∧ atI xs i = some v ∧ Q v H
def zH (K : W.Frag) : R2 := fun x y H Q => ∃ p xs i v, x = .ref p ∧ y = .int i ∧ SqT K H p xs ∧ atI xs i = some v ∧ Q v H
def yZ : R2 := fun x y H Q => ∃ z i c, x = .str z ∧ y = .int i ∧ z.length ≤ sizeLine ∧ atI z.cps.toList i = some c ∧ Q (.str ⟨#[c]⟩) H
theorem xM : IxR X (zG X.K) := by
 intro value slice pins s σ H x y v u Q I rx ry h hs
 obtain ⟨p, xs, i, z, rfl, rfl, hq, he, q⟩ := h
 cases rx
 obtain ⟨t, rfl⟩ := ry
 obtain ⟨its, r, pl, hz⟩ := I.list hq
 obtain ⟨j, h1, h2, h3, h4, h5⟩ := fZ he
 obtain ⟨w, ew, rw'⟩ := r.get h2
 have hl := r.length
 have hn := gf
 have fin : EP X pins σ Q w s := ⟨z, H, I, rw', q⟩
 by_cases h0 : 0 ≤ i
 · have hj : i.toNat = j := by
    rw [seqIndex_of h0 h5] at h1
    exact Option.some.inj h1
   exact item_listR pl.isList h0 (by omega) (by rw [hj]; simpa using ew) fin hs
 · have hj : (i + (its.toArray.size : Int)).toNat = j := by
    rw [seqIndex_neg (by omega) h4] at h1
    rw [List.size_toArray, ← hl]
    exact Option.some.inj h1
   exact subscriptTail_builtinR (x := w) pl.isList.typeIs slot_list_getitem.lookup
    (wpAny_getItem_list_neg (Q := fun r s' => r = w ∧ EP X pins σ Q r s') pl.isList (by omega) (by rw [List.size_toArray] <;> omega) (by omega) (by rw [hj]; simpa using ew) ⟨rfl, fin⟩) hs
theorem Ax : IxR X (zH X.K) := by
 intro value slice pins s σ H x y v u Q I rx ry h hs
 obtain ⟨p, xs, i, z, rfl, rfl, hq, he, q⟩ := h
 cases rx
 obtain ⟨t, rfl⟩ := ry
 obtain ⟨its, r, pl, hz⟩ := I.tuple hq
 obtain ⟨j, h1, h2, h3, h4, h5⟩ := fZ he
 obtain ⟨w, ew, rw'⟩ := r.get h2
 have hl := r.length
 have hn := gf
 have fin : EP X pins σ Q w s := ⟨z, H, I, rw', q⟩
 exact subscriptTail_builtinR (x := w) pl.typeIs slot_tuple_getitem.lookup
  (getItem_tuple (j := j) (Q := fun r s' => r = w ∧ EP X pins σ Q r s') pl (by omega) (by omega) (by rw [List.size_toArray, ← hl]; exact h1) (by simpa using ew) ⟨rfl, fin⟩) hs
theorem zN : IxR X yZ := by
 intro value slice pins s σ H x y v u Q I rx ry h hs
 obtain ⟨z, i, c, rfl, rfl, hz, he, q⟩ := h
 obtain ⟨t, rfl⟩ := rx
 obtain ⟨t', rfl⟩ := ry
 obtain ⟨j, h1, h2, h3, h4, h5⟩ := fZ he
 have hl : z.cps.toList.length = z.length := by simp [Str.length]
 rw [hl] at h1 h4 h5
 have hn := gf
 exact tail_any (typeIs_str s z t) slot_str_getitem.lookup (getItem_str (c := c) (by
  have e1 : decide (i < -(2 ^ 63 : Int)) = false := decide_eq_false (by omega)
  have e2 : decide (i ≥ 2 ^ 63) = false := decide_eq_false (by omega)
  rw [e1, e2, Bool.or_false]) (by rw [h1]; simpa using h2) ⟨.str ⟨#[c]⟩, H, I.tok _, ⟨_, rfl⟩, q⟩) hs
def rIx (K : W.Frag) : R2 := fun x y H Q => zG K x y H Q ∨ zH K x y H Q ∨ yZ x y H Q
theorem Ak : IxR X (rIx X.K) := xM.or (Ax.or zN)
theorem qb (its : List Value) (n j : Nat) (u : Value) : Obj.mapSeq (·.setIfInBounds j u) { cls := .type "list", data := .seq its.toArray n } = { cls := .type "list", data := .seq (its.set j u).toArray n } := by
 simp [Obj.mapSeq]
theorem Inv.lst {pins : List (Addr × Obj)} {σ : St} {H : Hp} {s : Shared} {p : Addr} {xs : List V} (I : Inv X pins σ H s) (h : H p = some (.lst xs)) :
  ∃ (its : List Value) (n : Nat), aA xs its ∧ s.heap.get? p = some { cls := .type "list", data := .seq its.toArray n } ∧ xs.length ≤ sizeLine := by
 obtain ⟨z, its, n, r, e⟩ := I.hok p _ h
 exact ⟨its, n, r, e, z⟩
theorem Inv.lstUpd {pins : List (Addr × Obj)} {σ : St} {H : Hp} {s : Shared} {p : Addr} {xs ys : List V} {its its' : List Value} {n n' : Nat} {f : Obj → Obj} (I : Inv X pins σ H s) (h : H p = some (.lst xs))
  (ho : s.heap.get? p = some { cls := .type "list", data := .seq its.toArray n }) (hf : f { cls := .type "list", data := .seq its.toArray n } = { cls := .type "list", data := .seq its'.toArray n' }) (r : aA ys its') (hz : ys.length ≤ sizeLine) (t : Nat) :
  Inv X pins σ (upd H p (.lst ys)) { s with heap := s.heap.update p f, toks := t } := by
 have e : (s.heap.update p f).get? p = some { cls := .type "list", data := .seq its'.toArray n' } := by
  rw [Heap.get?_update_self f ho (by rw [hf] <;> rfl), hf]
 refine I.write (x := p) (e := p) (by rw [h]; trivial) (.inl rfl) (fun b u hb q => (Heap.get?_update_other _ _ (Ne.symm hb)).trans q) ⟨_, e⟩ ?_
 exact ⟨hz, its', n', r, e⟩
def vF : V → V → V → Hp → (Hp → Prop) → Prop := fun o i v H Q => ∃ p xs k j, o = .ref p ∧ i = .int k ∧ H p = some (.lst xs) ∧ ixN xs.length k = some j ∧ Q (upd H p (.lst (xs.set j v)))
theorem tY : pw X vF := by
 intro pins s σ H o i v ov iv u Q I ro ri rv h
 obtain ⟨p, xs, k, j, rfl, rfl, hp, hj, q⟩ := h
 cases ro
 obtain ⟨t, rfl⟩ := ri
 obtain ⟨its, n, r, ho, hz⟩ := I.lst hp
 obtain ⟨h1, h2, h3, h4⟩ := oE hj
 have hl := r.length
 have hn := gf
 have I' : Inv X pins σ (upd H p (.lst (xs.set j v))) { s with heap := s.heap.update p (Obj.mapSeq (·.setIfInBounds j u)) } :=
   I.lstUpd hp ho (qb its n j u) (r.set rv j) (by rw [List.length_set]; exact hz) s.toks
 by_cases h0 : 0 ≤ k
 · have hk : k.toNat = j := by
    rw [seqIndex_of h0 h4] at h1
    exact Option.some.inj h1
   exact W.ki_setAt ho h0 (by omega) (by rw [List.size_toArray, ← hl]; exact h4) (by rw [hk]; exact ⟨_, I', q⟩)
 · have hk : (k + (its.toArray.size : Int)).toNat = j := by
    rw [seqIndex_neg (by omega) h3] at h1
    rw [List.size_toArray, ← hl]
    exact Option.some.inj h1
   exact W.ki_setBack ho (by omega) (by rw [List.size_toArray, ← hl]; exact h3) (by omega) (by rw [hk]; exact ⟨_, I', q⟩)
theorem nF (lo hi : Option Int) (n : Nat) : (sliceBounds lo hi none n).1 = ((HT.sIx n 0 lo : Nat) : Int) ∧ (sliceBounds lo hi none n).2.1 = ((HT.sIx n n hi : Nat) : Int) ∧ (sliceBounds lo hi none n).2.2 = 1 := by
  refine ⟨?_, ?_, rfl⟩
  · cases lo with
    | none => simp [sliceBounds, HT.sIx]
    | some i =>
      simp only [sliceBounds, HT.sIx, Option.getD_none, show (1 : Int) > 0 by decide, if_true]
      by_cases h : i < 0
      · simp only [h, if_true] <;> omega
      · simp only [h, if_false] <;> omega
  · cases hi with
    | none => simp [sliceBounds, HT.sIx]
    | some i =>
      simp only [sliceBounds, HT.sIx, Option.getD_none, show (1 : Int) > 0 by decide, if_true]
      by_cases h : i < 0
      · simp only [h, if_true] <;> omega
      · simp only [h, if_false] <;> omega
theorem ly (its : List Value) (lo hi : Option Int) : slicePick its.toArray lo hi none = ((its.drop (HT.sIx its.length 0 lo)).take (HT.sIx its.length its.length hi - HT.sIx its.length 0 lo)).toArray := by
 obtain ⟨h1, h2, h3⟩ := nF lo hi its.toArray.size
 unfold slicePick
 rw [h1, h2, h3]
 simp only [sliceRange_one, pick_run, List.size_toArray] <;> rfl
def zP (K : W.Frag) : V → Option Int → Option Int → Hp → VK → Prop := fun x lo hi H Q => ∃ a xs, x = .ref a ∧ SqL K H a xs ∧ ∀ p, H p = none → Q (.ref p) (upd H p (.lst (eu xs lo hi)))
theorem xn : SlR X (zP X.K) := by
 intro pins s σ H x v vl vu lo hi sl Q I rx hs pl pu h
 obtain ⟨a, xs, rfl, hx, q⟩ := h
 cases rx
 obtain ⟨its, r, ht, hz⟩ := I.list hx
 have hlen := r.length
 refine ⟨"list", _, slot_list_getitem.lookup, ht.isList.typeIs, ?_⟩
 refine wpAny_getItem_list_slice ht.isList hs pl pu .none (by simp) ?_ (by rw [List.size_toArray] <;> omega)
 rw [ly, ← hlen]
 refine ⟨.ref s.heap.objs.size, _, I.laid (t' := s.toks) (o := .lst (eu xs lo hi)) (fun b ob q => Heap.get?_push_of_some _ q) (Nat.le_refl _) ?_, rfl, q _ (I.hok.fresh (Nat.le_refl _))⟩
 exact ⟨Nat.le_trans (jc xs lo hi) hz, _, 0, (r.drop (HT.sIx xs.length 0 lo)).take (HT.sIx xs.length xs.length hi - HT.sIx xs.length 0 lo), Heap.get?_push_size _ rfl⟩
theorem bF.or {f : Value} {r r' : List V → Hp → VK → Prop} (h : bF X f r) (h' : bF X f r') : bF X f (fun xs H Q => r xs H Q ∨ r' xs H Q) := by
 intro pins s σ H xs us Q I rs q
 rcases q with q | q
 · exact h pins s σ H xs us Q I rs q
 · exact h' pins s σ H xs us Q I rs q
theorem lB : bF X (.type "tuple") (fun xs H Q => ∃ p ys, xs = [.ref p] ∧ ((SqL X.K H p ys ∧ ∀ l, H l = none → Q (.ref l) (upd H l (.tup ys))) ∨ (SqT X.K H p ys ∧ Q (.ref p) H))) := by
 intro pins s σ H xs us Q I r h
 obtain ⟨p, ys, rfl, h⟩ := h
 obtain ⟨u, rfl, rx⟩ := eX r
 cases rx
 rcases h with ⟨hq, q⟩ | ⟨hq, q⟩
 · obtain ⟨its, r', pl, hz⟩ := I.list hq
   have hlen := r'.length
   refine call_tuple_list pl.isList (fun h' kp => ?_) (by simp only [List.size_toArray] <;> omega)
   have I1 : Inv X pins σ H { s with heap := h' } := I.kept (t' := s.toks) kp
   have I2 : Inv X pins σ (upd H h'.objs.size (.tup ys)) { s with heap := h'.push { cls := .type "tuple", data := .seq its.toArray } } :=
    I1.laid (t' := s.toks) (fun b o e => Heap.get?_push_of_some _ e) (Nat.le_refl _) (show aO X.prog X.w _ _ _ (.tup ys) from ⟨hz, its, r', IsTup.new _ _⟩)
   exact ⟨.ref h'.objs.size, _, I2, rfl, q _ (I1.hok.fresh (Nat.le_refl _))⟩
 · obtain ⟨its, r', pl, hz⟩ := I.tuple hq
   exact call_tuple_same pl ⟨.ref p, H, I, rfl, q⟩
def tyV (K : W.Frag) (T : String) (x : V) (H : Hp) : Prop := match x with
 | .str _ => T = "str"
 | .int _ => T = "int"
 | .ref p => (T = "list" ∧ ∃ xs, SqL K H p xs) ∨ (T = "tuple" ∧ ∃ o, K.lookup p = some o ∧ o.cls = .type "tuple" ∧ o.dict = none) ∨
  (T = "dict" ∧ ((∃ kvs, H p = some (.dK kvs)) ∨ ∃ kvs, H p = some (.dT kvs))) ∨ (T = "set" ∧ ∃ S n, H p = some (.set S n))
 | _ => False
theorem rj {pins : List (Addr × Obj)} {σ : St} {H : Hp} {s : Shared} {T : String} {x : V} {v : Value} (I : Inv X pins σ H s) (r : aC x v) (ty : tyV X.K T x H) :
    s.TypeIs v T ∧ ∀ a, v = .ref a → ∃ ob, s.heap.get? a = some ob ∧ ob.dict = none := by
  cases x with
  | str z =>
    obtain ⟨t, rfl⟩ := r
    cases (show T = "str" from ty)
    exact ⟨typeIs_str s z t, fun _ e => nomatch e⟩
  | int i =>
    obtain ⟨t, rfl⟩ := r
    cases (show T = "int" from ty)
    exact ⟨typeIs_int s i t, fun _ e => nomatch e⟩
  | ref p =>
    cases r
    rcases ty with ⟨rfl, xs, hq⟩ | ⟨rfl, o, hk, hc, hd⟩ | ⟨rfl, hk⟩ | ⟨rfl, S, n, hk⟩
    · obtain ⟨its, _, pl, _⟩ := I.list hq
      refine ⟨pl.isList.typeIs, fun a e => ?_⟩
      cases e
      obtain ⟨o, n, e, c, hd, _⟩ := pl
      exact ⟨o, e, hd⟩
    · refine ⟨⟨o, I.kIn p o hk, hc⟩, fun a e => ?_⟩
      cases e
      exact ⟨o, I.kIn _ o hk, hd⟩
    · have z : ∃ o, s.heap.get? p = some o ∧ o.ExactDict := by
        rcases hk with ⟨kvs, hk⟩ | ⟨kvs, hk⟩
        · obtain ⟨_, _, _, _, o, _, _, e, ex, _⟩ := I.hok p _ hk
          exact ⟨o, e, ex⟩
        · obtain ⟨_, _, _, _, o, _, _, e, ex, _⟩ := I.hok p _ hk
          exact ⟨o, e, ex⟩
      obtain ⟨o, e, ex⟩ := z
      refine ⟨⟨o, e, ex.1⟩, fun a e2 => ?_⟩
      cases e2
      exact ⟨o, e, ex.2.1⟩
    · obtain ⟨o, _, _, _, e, ex, _⟩ := I.hok p _ hk
      refine ⟨⟨o, e, ex.1⟩, fun a e2 => ?_⟩
      cases e2
      exact ⟨o, e, ex.2.1⟩
  | _ => exact False.elim ty
def qz (K : W.Frag) (T : String) (r : V → List V → Hp → VK → Prop) (to : TE) : TE := fun σ H Q => to σ H fun x H1 => tyV K T x H1 ∧ r x [] H1 Q
def tBM (K : W.Frag) (T : String) (r : V → List V → Hp → VK → Prop) (to : TE) (t : TA) : TE := fun σ H Q => to σ H fun x H1 => tyV K T x H1 ∧ t σ H1 fun xs H2 => r x xs H2 Q
variable {o e : Expr} {es : List Expr} {to : TE} {t : TA} {name : Str} {apos cpos : Pos} {T id : String} {r : V → List V → Hp → VK → Prop}
theorem zX (pa : PlainAttrs T) (slot : Slot T name id) (hty : typeOf (.builtin id) = pure (.type "method_descriptor")) (hm : MtR X id r) (ho : PE X o to)
  (hbase : attributeBase o name X.env (eval o X.env) = eval o X.env := by rfl) (hline : (apos.endLine == cpos.line) = true := by rfl) : PE X (.Call (.Attribute o name apos) [] [] cpos) (qz X.K T r to) := by
 intro pins s σ H Q I h
 refine wpAny_Call_method0_late hbase hline (thn (ho pins s σ H _ I h) fun v s1 ⟨x, H1, I1, r1, ty, q1⟩ => ?_)
 obtain ⟨h1, h2⟩ := rj I1 r1 ty
 exact ⟨T, id, pa, slot, hty, h1, h2, Calls.callWith_builtin rfl (PySem.evalArgs_none (hm pins s1 σ H1 x [] v [] Q I1 r1 .nil q1))⟩
theorem Bb (pa : PlainAttrs T) (slot : Slot T name id) (hty : typeOf (.builtin id) = pure (.type "method_descriptor")) (hm : MtR X id r) (ho : PE X o to) (ha : PA X (e :: es) t)
  (hbase : attributeBase o name X.env (eval o X.env) = eval o X.env := by rfl)
  (hfew : ((backTo cpos (starEach (e :: es) X.env)).all (fun x => !x.1) && (backToKw cpos (keywordEach [] X.env)).all (fun x => x.1.isSome)
   && decide ((e :: es).length + ([] : List Keyword).length + (if ([] : List Keyword).isEmpty then 0 else 1) < 30)) = true := by rfl)
  (hline : (apos.endLine == cpos.line) = true := by rfl) (hs : starEach (e :: es) X.env = (false, eval e X.env) :: starEach es X.env := by rfl) (hplain : (backTo cpos (starEach es X.env)).any (·.1) = false := by rfl) :
  PE X (.Call (.Attribute o name apos) (e :: es) [] cpos) (tBM X.K T r to t) := by
 intro pins s σ H Q I h
 refine wpAny_Call_method_late hbase hfew hline rfl (thn (ho pins s σ H _ I h) fun v s1 ⟨x, H1, I1, r1, ty, q1⟩ => ?_)
 obtain ⟨h1, h2⟩ := rj I1 r1 ty
 refine ⟨T, id, pa, slot, hty, h1, h2, ?_⟩
 have hA := ha cpos pins s1 σ H1 _ I1 q1
 rw [hs] at hA ⊢
 refine Calls.callWith_builtin (by show (false || (backTo cpos (starEach es X.env)).any (·.1)) = false; rw [hplain] <;> rfl) (Calls.evalArgs_plain ?_)
 exact thn hA fun us s2 ⟨vs, H2, I2, r2, q2⟩ => hm pins s2 σ H2 x vs v us Q I2 r1 r2 q2
end
end L2
namespace L2
open PySem PySem.Spec PyProof.Rows
def MtM (X : Cx) (id : String) (r : V → List V → Hp → VK → Prop) : Prop :=
 ∀ (pins : List (Addr × Obj)) (s : Shared) (σ : St) (H : Hp) (x : V) (xs : List V) (v : Value) (us : List Value) (Q : VK), Inv X pins σ H s → aC x v → aA xs us → r x xs H Q →
  wpAny (model X.prog X.w) X.A (call (.builtin id) (v :: us)) (EP X pins σ Q) X.xe s
theorem aA.one : ∀ {x : V} {us : List Value}, aA [x] us → ∃ u, us = [u] ∧ aC x u
 | _, _, .cons r .nil => ⟨_, rfl, r⟩
theorem aA.two : ∀ {x y : V} {us : List Value}, aA [x, y] us → ∃ u v, us = [u, v] ∧ aC x u ∧ aC y v
 | _, _, _, .cons r (.cons q .nil) => ⟨_, _, rfl, r, q⟩
theorem aA.zero : ∀ {us : List Value}, aA [] us → us = []
 | _, .nil => rfl
theorem aA.reverse {xs : List V} {us : List Value} (h : aA xs us) : aA xs.reverse us.reverse := by
 induction h with
 | nil => exact .nil
 | cons r t ih => rw [List.reverse_cons, List.reverse_cons]; exact aA.append ih (.cons r .nil)
theorem aA.rep {xs : List V} {us : List Value} (h : aA xs us) : ∀ k : Nat, aA (List.replicate k xs).flatten (List.replicate k us).flatten
  | 0 => .nil
  | k + 1 => by
    rw [List.replicate_succ, List.replicate_succ, List.flatten_cons, List.flatten_cons]
    exact aA.append h (aA.rep h k)
theorem kW (its : List Value) : ∀ (k : Nat) (acc : List Value),
    List.foldl (fun x1 x2 => x1 ++ x2) acc.toArray (List.replicate k its.toArray) = (acc ++ (List.replicate k its).flatten).toArray
  | 0, acc => by simp
  | k + 1, acc => by
    have e : acc.toArray ++ its.toArray = (acc ++ its).toArray := by simp
    have e2 : (acc ++ its) ++ (List.replicate k its).flatten = acc ++ (List.replicate (k + 1) its).flatten := by
      rw [List.replicate_succ, List.flatten_cons, List.append_assoc]
    rw [← e2, ← kW its k (acc ++ its), ← e, List.replicate_succ, List.foldl_cons]
section
variable {X : Cx} {pins : List (Addr × Obj)} {σ : St} {H : Hp} {s : Shared} {l b : Addr} {xs ys zs : List V}
theorem Inv.lset {its its' : List Value} {n : Nat} {f : Array Value → Array Value} {t' : Nat} (I : Inv X pins σ H s) (hH : H l = some (.lst xs))
  (e : s.heap.get? l = some { cls := .type "list", data := .seq its.toArray n }) (hf : f its.toArray = its'.toArray) (hv : aA ys its') (hz : ys.length ≤ sizeLine) :
  Inv X pins σ (upd H l (.lst ys)) { s with heap := s.heap.update l (Obj.mapSeq f), toks := t' } := by
 have q := PySem.IsL.update e f
 rw [hf] at q
 refine I.write (x := l) (e := l) (by rw [hH]; exact trivial) (.inl rfl) (fun b' u hb hu => (Heap.get?_update_other s.heap (Obj.mapSeq f) (Ne.symm hb)).trans hu) ⟨_, q⟩ ?_
 exact ⟨hz, its', _, hv, q⟩
theorem Inv.lnew {its : List Value} {t' : Nat} (I : Inv X pins σ H s) (hv : aA ys its) (hz : ys.length ≤ sizeLine) :
  Inv X pins σ (upd H s.heap.objs.size (.lst ys)) { s with heap := s.heap.push { cls := .type "list", data := .seq its.toArray }, toks := t' } :=
 I.laid (fun _ _ q => Heap.get?_push_of_some _ q) (Nat.le_refl _) ⟨hz, its, 0, hv, Heap.get?_push_size _ rfl⟩
theorem Inv.fresh (I : Inv X pins σ H s) : H s.heap.objs.size = none := I.hok.fresh (Nat.le_refl _)
theorem Inv.lstM (I : Inv X pins σ H s) (hH : H l = some (.lst xs)) : xs.length ≤ sizeLine ∧ ∃ (its : List Value) (n : Nat), aA xs its ∧ xs.length = its.length ∧ s.heap.get? l = some { cls := .type "list", data := .seq its.toArray n } := by
 obtain ⟨z, its, n, r, e⟩ := I.hok l _ hH
 exact ⟨z, its, n, r, r.length, e⟩
end
section
variable {X : Cx}
def dj : V → List V → Hp → VK → Prop := fun x vs H Q => ∃ l xs y, x = .ref l ∧ vs = [y] ∧ H l = some (.lst xs) ∧ xs.length < sizeLine ∧ Q .non (upd H l (.lst (xs ++ [y])))
theorem cA : MtM X "list.append" dj := by
 intro pins s σ H x vs v us Q I rx rv h
 obtain ⟨l, xs, y, rfl, rfl, hH, hz, q⟩ := h
 cases rx
 obtain ⟨u, rfl, ru⟩ := rv.one
 obtain ⟨z, its, n, r, hl, e⟩ := I.lstM hH
 refine call_meets F.slot_list_append ⟨_, e, rfl⟩ F.entry_list_append (F.args_list_append_2 _ _) (PySem.list_append l its.toArray n u (by rw [List.size_toArray]; omega)) ⟨e, ?_⟩
 refine ⟨.non, _, I.lset (its' := its ++ [u]) hH e (by simp) (r.append (.cons ru .nil)) ?_, rfl, q⟩
 rw [List.length_append, List.length_singleton]
 omega
def rP : V → List V → Hp → VK → Prop := fun x vs H Q => ∃ l xs, x = .ref l ∧ vs = [] ∧ H l = some (.lst xs) ∧ Q .non (upd H l (.lst []))
theorem uY : MtM X "list.clear" rP := by
 intro pins s σ H x vs v us Q I rx rv h
 obtain ⟨l, xs, rfl, rfl, hH, q⟩ := h
 cases rx
 have hus := rv.zero
 subst hus
 obtain ⟨z, its, n, r, hl, e⟩ := I.lstM hH
 refine call_meets F.slot_list_clear ⟨_, e, rfl⟩ F.entry_list_clear (F.args_list_clear_1 _) (AutoSeq1.list_clear_list_0 l its.toArray n (by rw [List.size_toArray]; omega)) ⟨e, ?_⟩
 exact ⟨.non, _, I.lset (its' := []) (ys := []) hH e rfl .nil (Nat.zero_le _), rfl, q⟩
def zh : R2 := fun x y H Q => ∃ l b xs zs, x = .ref l ∧ y = .ref b ∧ H l = some (.lst xs) ∧ H b = some (.lst zs) ∧ xs.length + zs.length ≤ sizeLine ∧ ∀ p, H p = none → Q (.ref p) (upd H p (.lst (xs ++ zs)))
theorem yn : OpR X (binaryOp .Add) zh := by
 intro pins s σ H x y v u Q I rx ry h
 obtain ⟨l, b, xs, zs, rfl, rfl, hH, hB, hz, q⟩ := h
 cases rx
 cases ry
 obtain ⟨z, its, n, r, hl, e⟩ := I.lstM hH
 obtain ⟨z2, its2, n2, r2, hl2, e2⟩ := I.lstM hB
 refine PySem.P.add_list e e2 ?_ (by rw [List.size_toArray, List.size_toArray]; omega)
 have ea : its.toArray ++ its2.toArray = (its ++ its2).toArray := by simp
 rw [ea]
 exact ⟨.ref _, _, I.lnew (t' := s.toks) (r.append r2) (by rw [List.length_append]; omega), rfl, q _ I.fresh⟩
theorem oz {α : Type} (xs : List α) (k : Nat) : (List.replicate k xs).flatten.length = k * xs.length := by
 induction k with
 | zero => simp
 | succ k ih => rw [List.replicate_succ, List.flatten_cons, List.length_append, ih, Nat.succ_mul, Nat.add_comm]
end
section
variable {prog : Program} {w : World} {A : Around} {E : Value → Shared → Prop} {s : Shared}
set_option maxRecDepth 100000 in
end
section
variable {X : Cx}
end
end L2
namespace L2
open PySem PySem.Spec PyProof.Rows
section
variable {κ : Type} [DecidableEq κ]
def bi (kvs : List (κ × V)) (k : κ) : Option V := (kvs.find? fun kv => decide (kv.1 = k)).map (·.2)
def bK (kvs : List (κ × V)) (k : κ) (v : V) : List (κ × V) :=
 if (kvs.any fun kv => decide (kv.1 = k)) = true then kvs.map (fun kv => if kv.1 = k then (kv.1, v) else kv) else kvs ++ [(k, v)]
theorem cr {p : κ × V} {r : List (κ × V)} {k : κ} (e : p.1 = k) : bi (p :: r) k = some p.2 := by simp [bi, List.find?_cons, e]
theorem cu {p : κ × V} {r : List (κ × V)} {k : κ} (e : ¬ p.1 = k) : bi (p :: r) k = bi r k := by simp [bi, List.find?_cons, e]
theorem fh (k : κ) : ∀ kvs : List (κ × V), (kvs.any fun kv => decide (kv.1 = k)) = (bi kvs k).isSome
  | [] => rfl
  | p :: r => by
    rw [List.any_cons]
    by_cases e : p.1 = k
    · simp only [cr e, decide_eq_true e, Bool.true_or, Option.isSome_some]
    · rw [cu e, decide_eq_false e, Bool.false_or]; exact fh k r
theorem mE (k j : κ) (y : V) : ∀ kvs : List (κ × V), bi (kvs.map fun kv => if kv.1 = k then (kv.1, y) else kv) j = (bi kvs j).map fun x => if j = k then y else x
  | [] => rfl
  | p :: r => by
    have ih := mE k j y r
    rw [List.map_cons]
    by_cases h : p.1 = k
    · rw [if_pos h]
      by_cases e : p.1 = j
      · rw [cr (p := (p.1, y)) e, cr e, Option.map_some, if_pos (e.symm.trans h)]
      · rw [cu (p := (p.1, y)) e, cu e, ih]
    · rw [if_neg h]
      by_cases e : p.1 = j
      · rw [cr (p := p) e, cr e, Option.map_some, if_neg (fun z => h (e.trans z))]
      · rw [cu (p := p) e, cu e, ih]
theorem ln (k j : κ) (y : V) : ∀ kvs : List (κ × V), bi kvs k = none → bi (kvs ++ [(k, y)]) j = if j = k then some y else bi kvs j
  | [], _ => by
    by_cases e : k = j
    · rw [if_pos e.symm]; exact cr (p := (k, y)) e
    · rw [if_neg (fun z => e z.symm)]; exact cu (p := (k, y)) e
  | p :: r, hn => by
    rw [List.cons_append]
    have hk : ¬ p.1 = k := fun z => by rw [cr z] at hn; cases hn
    rw [cu hk] at hn
    have ih := ln k j y r hn
    by_cases e : p.1 = j
    · rw [cr e, cr e, if_neg (fun z => hk (e.trans z))]
    · rw [cu e, cu e, ih]
theorem gI (kvs : List (κ × V)) (k j : κ) (y : V) : bi (bK kvs k y) j = if j = k then some y else bi kvs j := by
 unfold bK
 by_cases a : (kvs.any fun kv => decide (kv.1 = k)) = true
 · rw [if_pos a, mE]
   rw [fh] at a
   by_cases e : j = k
   · obtain ⟨x, hx⟩ := Option.isSome_iff_exists.mp a
     rw [if_pos e, e, hx, Option.map_some, if_pos rfl]
   · rw [if_neg e]
     cases bi kvs j with
     | none => rfl
     | some x => rw [Option.map_some, if_neg e]
 · rw [if_neg a]
   refine ln k j y kvs ?_
   rw [fh] at a
   cases q : bi kvs k with
   | none => rfl
   | some x => rw [q] at a; exact (a rfl).elim
theorem dy (kvs : List (κ × V)) (k : κ) (v : V) : (bK kvs k v).length ≤ kvs.length + 1 := by
 unfold bK
 split
 · rw [List.length_map]; omega
 · rw [List.length_append, List.length_cons, List.length_nil]; omega
theorem tL {kvs : List (κ × V)} {k : κ} (v : V) (h : bi kvs k = none) : bK kvs k v = kvs ++ [(k, v)] := by
 unfold bK
 rw [fh, h]
 exact if_neg (by decide)
theorem bJ.isSome_eq {o : Option V} {u : Option Value} (r : bJ o u) : o.isSome = u.isSome := by
  cases o with
  | none => cases u with
    | none => rfl
    | some _ => exact (show False from r).elim
  | some _ => cases u with
    | none => exact (show False from r).elim
    | some _ => rfl
theorem bJ.getD {o : Option V} {u : Option Value} {d : V} {d' : Value} (r : bJ o u) (rd : aC d d') : aC (o.getD d) (u.getD d') := by
  cases o with
  | none => cases u with
    | none => exact rd
    | some _ => exact (show False from r).elim
  | some _ => cases u with
    | none => exact (show False from r).elim
    | some _ => exact r
theorem KV.val {kvs : List (κ × V)} {vs : List (κ × Value)} (r : KV kvs vs) (k : κ) : bJ (bi kvs k) (valueAt vs k) := by
  unfold KV at r
  induction r with
  | nil => exact True.intro
  | @cons p q ps qs h t ih =>
    obtain ⟨h1, h2⟩ := h
    by_cases e : p.1 = k
    · have e' : q.1 = k := h1.symm.trans e
      have b : valueAt (q :: qs) k = some q.2 := by simp [valueAt, List.find?_cons, e']
      rw [cr e, b]; exact h2
    · have e' : ¬ q.1 = k := fun z => e (h1.trans z)
      have b : valueAt (q :: qs) k = valueAt qs k := by simp [valueAt, List.find?_cons, e']
      rw [cu e, b]; exact ih
theorem KV.any {kvs : List (κ × V)} {vs : List (κ × Value)} (r : KV kvs vs) (k : κ) : (kvs.any fun kv => decide (kv.1 = k)) = vs.any fun kv => decide (kv.1 = k) := by
 unfold KV at r
 induction r with
 | nil => rfl
 | cons h t ih => rw [List.any_cons, List.any_cons, ih, h.1]
theorem KV.repl {kvs : List (κ × V)} {vs : List (κ × Value)} (r : KV kvs vs) (k : κ) {y : V} {u : Value} (ry : aC y u) :
    KV (kvs.map fun kv => if kv.1 = k then (kv.1, y) else kv) (vs.map fun kv => if kv.1 = k then (kv.1, u) else kv) := by
  unfold KV at r ⊢
  induction r with
  | nil => exact .nil
  | @cons p q ps qs h t ih =>
    rw [List.map_cons, List.map_cons]
    refine .cons ?_ ih
    obtain ⟨h1, h2⟩ := h
    by_cases e : p.1 = k
    · rw [if_pos e, if_pos (h1.symm.trans e)]; exact ⟨h1, ry⟩
    · rw [if_neg e, if_neg (fun z => e (h1.trans z))]; exact ⟨h1, h2⟩
theorem KV.put {kvs : List (κ × V)} {vs : List (κ × Value)} (r : KV kvs vs) (k : κ) {y : V} {u : Value} (ry : aC y u) : KV (bK kvs k y) (stored vs k u) := by
 unfold bK stored
 rw [r.any k]
 by_cases e : (vs.any fun kv => decide (kv.1 = k)) = true
 · rw [if_pos e, if_pos e]; exact r.repl k ry
 · rw [if_neg e, if_neg e]; exact Paired.snoc r ⟨rfl, ry⟩
theorem KV.length {kvs : List (κ × V)} {vs : List (κ × Value)} (r : KV kvs vs) : kvs.length = vs.length := Paired.length r
end
theorem gL {P : Program} {w : World} {k : Key} {u : Value} (r : aC (kV k) u) : (bu P w).is k u = true := by
 cases k with
 | inl i => obtain ⟨t, e⟩ := (show ∃ t, u = Value.int i t from r); subst e; exact nU P w i t
 | inr x => obtain ⟨t, e⟩ := (show ∃ t, u = Value.str x t from r); subst e; exact nX P w x t
theorem zR {a b : Key} (e : kV a = kV b) : a = b := by
  cases a with
  | inl i => cases b with
    | inl j => have e' : V.int i = V.int j := e; injection e' with e'; rw [e']
    | inr y => exact nomatch (show V.int i = V.str y from e)
  | inr x => cases b with
    | inl j => exact nomatch (show V.str x = V.int j from e)
    | inr y => have e' : V.str x = V.str y := e; injection e' with e'; rw [e']
theorem fO : ∀ {a b : List Key}, a.map kV = b.map kV → a = b
  | [], [], _ => rfl
  | [], _ :: _, e => by simp at e
  | _ :: _, [], e => by simp at e
  | x :: xs, y :: ys, e => by
    rw [List.map_cons, List.map_cons] at e
    injection e with e1 e2
    rw [zR e1, fO e2]
theorem lq {P : Program} {w : World} : ∀ {ks : List Key} {us : List Value}, aA (ks.map kV) us → ItemsAre (bu P w) ks us
  | [], _, r => by rw [List.map_nil] at r; cases r; exact .nil
  | k :: ks, _, r => by
    rw [List.map_cons] at r
    cases r with
    | cons h t => exact .cons (gL h) (lq t)
abbrev KT (H : Hp) : List (List Key × V) → List (List Key × Addr × Value) → Prop := Paired fun p q => p.1 = q.1 ∧ H q.2.1 = some (.tup (p.1.map kV)) ∧ aC p.2 q.2.2
theorem KT.val {H : Hp} {kvs : List (List Key × V)} {xs : List (List Key × Addr × Value)} (r : KT H kvs xs) (k : List Key) : bJ (bi kvs k) ((atKey xs k).map (·.2)) := by
  induction r with
  | nil => exact True.intro
  | @cons p q ps qs h t ih =>
    obtain ⟨h1, _, h2⟩ := h
    by_cases e : p.1 = k
    · have e' : q.1 = k := h1.symm.trans e
      have b : atKey (q :: qs) k = some q.2 := by simp [atKey, List.find?_cons, e']
      rw [cr e, b]; exact h2
    · have e' : ¬ q.1 = k := fun z => e (h1.trans z)
      have b : atKey (q :: qs) k = atKey qs k := by simp [atKey, List.find?_cons, e']
      rw [cu e, b]; exact ih
theorem KT.repl {H : Hp} {kvs : List (List Key × V)} {xs : List (List Key × Addr × Value)} (r : KT H kvs xs) (k : List Key) {y : V} {u : Value} (ry : aC y u) :
    KT H (kvs.map fun kv => if kv.1 = k then (kv.1, y) else kv) (xs.map (putAt k u)) := by
  induction r with
  | nil => exact .nil
  | @cons p q ps qs h t ih =>
    rw [List.map_cons, List.map_cons]
    refine .cons ?_ ih
    obtain ⟨h1, h2, h3⟩ := h
    unfold putAt
    by_cases e : p.1 = k
    · rw [if_pos e, if_pos (h1.symm.trans e)]; exact ⟨h1, h2, ry⟩
    · rw [if_neg e, if_neg (fun z => e (h1.trans z))]; exact ⟨h1, h2, h3⟩
theorem KT.put {H : Hp} {kvs : List (List Key × V)} {xs : List (List Key × Addr × Value)} (r : KT H kvs xs) (k : List Key) {b : Addr} {y : V} {u : Value} (hb : H b = some (.tup (k.map kV))) (ry : aC y u) :
   KT H (bK kvs k y) (storedH xs k b u) := by
 have e : (kvs.any fun kv => decide (kv.1 = k)) = (atKey xs k).isSome := by
   rw [fh, (r.val k).isSome_eq, Option.isSome_map]
 unfold bK storedH
 rw [e]
 by_cases q : (atKey xs k).isSome = true
 · rw [if_pos q, if_pos q]; exact r.repl k ry
 · rw [if_neg q, if_neg q]; exact Paired.snoc r ⟨rfl, hb, ry⟩
theorem KT.keeps {H H' : Hp} {kvs : List (List Key × V)} {xs : List (List Key × Addr × Value)} (r : KT H kvs xs) (ht : ∀ b ys, H b = some (.tup ys) → H' b = some (.tup ys)) : KT H' kvs xs :=
 Paired.mapP r fun _ _ z => ⟨z.1, ht _ _ z.2.1, z.2.2⟩
section
variable {P : Program} {w : World} {H : Hp} {h : Heap} {a : Addr}
theorem wj {u : HO} (ok : HOk P w H h) (e : Rd H a u) : aO P w H h a u := e.ok ok
theorem gH {kvs : List (Key × V)} (ok : HOk P w H h) (e : Rd H a (.dK kvs)) : kvs.length ≤ sizeLine ∧ (a == sysModules) = false ∧ ∃ vs, KV kvs vs ∧ h.DictOf (bu P w) a vs :=
 show aO P w H h a (.dK kvs) from wj ok e
theorem vJ {kvs : List (Key × V)} (ok : HOk P w H h) (e : H a = some (.dK kvs)) : kvs.length ≤ sizeLine ∧ (a == sysModules) = false ∧ ∃ vs, KV kvs vs ∧ h.DictOf (bu P w) a vs := gH ok (.inl e)
theorem fq {ks : List Key} (ok : HOk P w H h) (e : H a = some (.tup (ks.map kV))) : (tupleKind (bu P w)).is h ks a := by
 obtain ⟨_, its, r, o, h1, h2, n, h3⟩ := (show aO P w H h a (.tup (ks.map kV)) from ok a _ e)
 exact ⟨o, its.toArray, n, h1, h2, h3, by simpa using lq r⟩
theorem iO {kvs : List (List Key × V)} (ok : HOk P w H h) (e : Rd H a (.dT kvs)) : kvs.length ≤ sizeLine ∧ (a == sysModules) = false ∧
    ∃ xs, KT H kvs xs ∧ h.DictOfH (tupleKind (bu P w)) a xs := by
  obtain ⟨z, y, xs, r, o, es, ep, h1, h2, h3, h4, h5⟩ := (show aO P w H h a (.dT kvs) from wj ok e)
  refine ⟨z, y, xs, r, o, es, ep, h1, h2, h3, h4, fun x hx => ?_, h5⟩
  have all : ∀ {l : List (List Key × V)} {m : List (List Key × Addr × Value)}, KT H l m → ∀ x ∈ m, (tupleKind (bu P w)).is h x.1 x.2.1 := by
    intro l m q
    induction q with
    | nil => intro x hx; exact nomatch hx
    | @cons p q ps qs hq t ih =>
      intro x hx
      rcases List.mem_cons.mp hx with e | hx
      · subst e
        exact fq ok (by rw [← hq.1]; exact hq.2.1)
      · exact ih x hx
  exact all r x hx
theorem qL {kvs : List (List Key × V)} (ok : HOk P w H h) (e : H a = some (.dT kvs)) : kvs.length ≤ sizeLine ∧ (a == sysModules) = false ∧
 ∃ xs, KT H kvs xs ∧ h.DictOfH (tupleKind (bu P w)) a xs := iO ok (.inl e)
end
def cy (H : Hp) (a : Addr) (y : V) (r : Option V) : Prop :=
 (∃ kvs k, Rd H a (.dK kvs) ∧ y = kV k ∧ r = bi kvs k) ∨ ∃ kvs k b, Rd H a (.dT kvs) ∧ y = .ref b ∧ H b = some (.tup (k.map kV)) ∧ r = bi kvs k
def kC (H : Hp) (a : Addr) (y v : V) (H' : Hp) : Prop :=
 (∃ kvs k, H a = some (.dK kvs) ∧ y = kV k ∧ kvs.length < sizeLine ∧ H' = upd H a (.dK (bK kvs k v))) ∨
 ∃ kvs k b, H a = some (.dT kvs) ∧ y = .ref b ∧ H b = some (.tup (k.map kV)) ∧ kvs.length < sizeLine ∧ H' = upd H a (.dT (bK kvs k v))
theorem cy.k {H : Hp} {a : Addr} {kvs : List (Key × V)} {k : Key} (e : H a = some (.dK kvs)) : cy H a (kV k) (bi kvs k) := .inl ⟨kvs, k, .inl e, rfl, rfl⟩
theorem cy.t {H : Hp} {a b : Addr} {kvs : List (List Key × V)} {k : List Key} (e : H a = some (.dT kvs)) (eb : H b = some (.tup (k.map kV))) : cy H a (.ref b) (bi kvs k) := .inr ⟨kvs, k, b, .inl e, rfl, eb, rfl⟩
theorem kC.k {H : Hp} {a : Addr} {kvs : List (Key × V)} {k : Key} {v : V} (e : H a = some (.dK kvs)) (hl : kvs.length < sizeLine) : kC H a (kV k) v (upd H a (.dK (bK kvs k v))) := .inl ⟨kvs, k, e, rfl, hl, rfl⟩
section
variable {X : Cx} {pins : List (Addr × Obj)} {σ : St} {H : Hp} {s : Shared} {a : Addr} {y v : V} {u r : Value} {o : Option V} {A : Around} {E : Value → Shared → Prop}
theorem Inv.big (I : Inv X pins σ H s) : sysModules < s.heap.objs.size := by
 have h : mainGlobals < s.heap.objs.size := (I.mod.glob.keeps I.bk).lt
 exact Nat.lt_trans (by decide) h
theorem qQ {Q : Value → Shared → Prop} (hu : A.units + 1 < cLine) (I : Inv X pins σ H s) (g : cy H a y (some v)) (ry : aC y u) (h : ∀ w' s', Inv X pins σ H s' → aC v w' → Q w' s') :
   wpAny (model X.prog X.w) A (getItem (.ref a) u) Q E s := by
 rcases g with ⟨kvs, k, e, ey, l⟩ | ⟨kvs, k, b, e, ey, eb, l⟩
 · subst ey
   obtain ⟨z, hd, vs, rel, dd⟩ := gH I.hok e
   obtain ⟨w', hw, rw'⟩ := bJ.some_of (v := v) (o := valueAt vs k) (by rw [l]; exact rel.val k)
   exact wpAny_getItem_of (gL ry) dd.mapOf hw (h w' _ (I.tok _) rw')
 · subst ey
   cases (show u = Value.ref b from ry)
   obtain ⟨z, hd, xs, rel, dd⟩ := iO I.hok e
   obtain ⟨w', hw, rw'⟩ := bJ.some_of (v := v) (o := (atKey xs k).map (·.2)) (by rw [l]; exact rel.val k)
   obtain ⟨p, hp, hp2⟩ := Option.map_eq_some_iff.mp hw
   refine wpAny_getItem_heap (tupleKind_room_in1 hu) (fq I.hok eb) dd hp ?_
   rw [hp2]
   exact h w' _ (I.tok _) rw'
theorem wN {Q : Value → Shared → Prop} (hu : A.units + 1 < cLine) (I : Inv X pins σ H s) (g : cy H a y o) (ry : aC y u) (h : ∀ s', Inv X pins σ H s' → Q (.bool (!o.isSome)) s') :
   wpAny (model X.prog X.w) A (compareOp .NotIn u (.ref a)) Q E s := by
 rcases g with ⟨kvs, k, e, ey, l⟩ | ⟨kvs, k, b, e, ey, eb, l⟩
 · subst ey
   obtain ⟨z, hd, vs, rel, dd⟩ := gH I.hok e
   refine wpAny_notIn_of (gL ry) hd dd.mapOf ?_
   rw [← (rel.val k).isSome_eq, ← l]
   exact h _ (I.tok _)
 · subst ey
   cases (show u = Value.ref b from ry)
   obtain ⟨z, hd, xs, rel, dd⟩ := iO I.hok e
   refine wpAny_notIn_heap (tupleKind_room_in1 hu) (fq I.hok eb) hd dd ?_
   have q := (rel.val k).isSome_eq
   rw [Option.isSome_map] at q
   rw [← q, ← l]
   exact h _ (I.tok _)
theorem iS {h' : Heap} {t' : Nat} {ob : HO} (I : Inv X pins σ H s) (mu : Mut (H a)) (hs : Heap.SameBut a s.heap h') (he : ∃ q, h'.get? a = some q) (new : aO X.prog X.w (upd H a ob) h' a ob) :
  Inv X pins σ (upd H a ob) { s with heap := h', toks := t' } :=
 I.write (x := a) (e := a) mu (.inl rfl) (fun b q hb z => (hs.2 b hb).trans z) he new
theorem rl {P : Program} {w : World} {H' : Hp} {h' : Heap} {kvs : List (Key × V)} {vs : List (Key × Value)} (z : kvs.length ≤ sizeLine) (hd : (a == sysModules) = false) (rel : KV kvs vs) (dd : h'.DictOf (bu P w) a vs) :
 aO P w H' h' a (.dK kvs) := ⟨z, hd, vs, rel, dd⟩
theorem sr {H' : Hp} {Q : Unit → Shared → Prop} (hu : A.units + 1 < cLine) (I : Inv X pins σ H s) (g : kC H a y v H') (ry : aC y u) (rv : aC v r) (h : ∀ s', Inv X pins σ H' s' → Q () s') :
   wpAny (model X.prog X.w) A (setItem (.ref a) u r) Q E s := by
 rcases g with ⟨kvs, k, e, ey, l, eH⟩ | ⟨kvs, k, b, e, ey, eb, l, eH⟩
 · subst ey eH
   obtain ⟨z, hd, vs, rel, dd⟩ := vJ I.hok e
   have hz : vs.length ≤ sizeLine := by rw [← rel.length]; exact z
   have hl : (bK kvs k v).length ≤ sizeLine := by have := dy kvs k v; omega
   refine wpAny_setItem_pairs (hsz := hz) (gL ry) dd fun h' dd' hs => h _ ?_
   have he : ∃ q, h'.get? a = some q := let ⟨q, _, _, hq, _⟩ := dd'; ⟨q, hq⟩
   exact iS I (by rw [e]; exact True.intro) hs he (rl hl hd (rel.put k rv) dd')
 · subst ey eH
   cases (show u = Value.ref b from ry)
   obtain ⟨z, hd, xs, rel, dd⟩ := qL I.hok e
   have hz : xs.length ≤ sizeLine := by rw [← Paired.length rel]; exact z
   have hl : (bK kvs k v).length ≤ sizeLine := by have := dy kvs k v; omega
   refine wpAny_setItem_heap (hsz := hz) (tupleKind_room_in1 hu) (fq I.hok eb) dd fun h' dd' hs => h _ ?_
   obtain ⟨q, es, ep, hq, h2, h3, h4, _, h5⟩ := dd'
   refine iS I (by rw [e]; exact True.intro) hs ⟨q, hq⟩ ⟨hl, hd, _, (rel.put k eb rv).keeps fun c ys ec => ?_, q, es, ep, hq, h2, h3, h4, h5⟩
   rw [aj (bN ec e (fun z => nomatch z))]
   exact ec
end
section
variable {X : Cx} {pins : List (Addr × Obj)} {σ : St} {H : Hp} {s : Shared} {a : Addr} {kvs : List (Key × V)} {k : Key} {u : Value} {A : Around} {E : Value → Shared → Prop}
theorem Bd {Q : Value → Shared → Prop} (I : Inv X pins σ H s) (e : Rd H a (.dK kvs)) (h : ∀ t s', Inv X pins σ H s' → Q (.int kvs.length t) s') : wpAny (model X.prog X.w) A (call (.builtin "len") [.ref a]) Q E s := by
 obtain ⟨z, hd, vs, rel, dd⟩ := gH I.hok e
 refine call_len_dict hd dd (by rw [← rel.length]; rw [sizeLine_eq] at z; omega) ?_
 rw [← rel.length]
 exact h _ _ (I.tok _)
end
theorem nV {X : Cx} {pins : List (Addr × Obj)} {σ : St} {H : Hp} {s : Shared} {a : Addr} {y : V} {o : Option V} (I : Inv X pins σ H s) (g : cy H a y o) : s.TypeIs (.ref a) "dict" := by
 rcases g with ⟨kvs, k, e, _, _⟩ | ⟨kvs, k, b, e, _, _, _⟩
 · obtain ⟨_, _, vs, _, dd⟩ := gH I.hok e
   exact dd.typeIs
 · obtain ⟨_, _, xs, _, dd⟩ := iO I.hok e
   exact dd.typeIs
section
variable {X : Cx} {o i e value : Expr} {pos pos' tpos : Pos} {td ty tv : TE}
end
theorem uH {P : Program} {w : World} {H : Hp} (h : Heap) (hb : sysModules < h.objs.size) : aO P w H (h.push { cls := .type "dict", data := .dict #[] }) h.objs.size (.dK []) :=
 ⟨Nat.zero_le _, beq_eq_false_iff_ne.mpr (Ne.symm (Nat.ne_of_lt hb)), [], .nil, Heap.DictOf.new h⟩
theorem uz {P : Program} {w : World} {H : Hp} (h : Heap) (hb : sysModules < h.objs.size) : aO P w H (h.push { cls := .type "dict", data := .dict #[] }) h.objs.size (.dT []) :=
 ⟨Nat.zero_le _, beq_eq_false_iff_ne.mpr (Ne.symm (Nat.ne_of_lt hb)), [], .nil, _, #[], 0, Heap.get?_push_size _ rfl, ⟨rfl, rfl, rfl⟩, rfl, rfl, List.nodup_nil⟩
def sG : TE := fun _ H Q => ∀ p, H p = none → Q (.ref p) (upd H p (.dK []))
def se : TE := fun _ H Q => ∀ p, H p = none → Q (.ref p) (upd H p (.dT []))
section
variable {X : Cx} {pos : Pos}
theorem uX : PE X (.Dict [] [] pos) sG := fun pins s σ H Q I h =>
 wpAny_Dict_empty ⟨.ref s.heap.objs.size, _, I.laid (a := s.heap.objs.size) (o := .dK []) (t' := s.toks) (fun _ _ q => Heap.get?_push_of_some _ q) (Nat.le_refl _) (uH s.heap I.big), rfl, h _ (I.hok.fresh (Nat.le_refl _))⟩
theorem tO : PE X (.Dict [] [] pos) se := fun pins s σ H Q I h =>
 wpAny_Dict_empty ⟨.ref s.heap.objs.size, _, I.laid (a := s.heap.objs.size) (o := .dT []) (t' := s.toks) (fun _ _ q => Heap.get?_push_of_some _ q) (Nat.le_refl _) (uz s.heap I.big), rfl, h _ (I.hok.fresh (Nat.le_refl _))⟩
end
structure M1 (X : Cx) (o : Expr) (m : Str) (apos : Pos) (e : Expr) (cpos : Pos) : Prop where
 base : attributeBase o m X.env (eval o X.env) = eval o X.env
 few : ((backTo cpos (starEach [e] X.env)).all (fun x => !x.1) && (backToKw cpos (keywordEach [] X.env)).all (fun x => x.1.isSome)
  && decide (([e] : List Expr).length + ([] : List Keyword).length + (if ([] : List Keyword).isEmpty then 0 else 1) < 30)) = true
 line : (apos.endLine == cpos.line) = true
 trees : backTo cpos (starEach [e] X.env) = [(false, eval e X.env)]
structure M2 (X : Cx) (o : Expr) (m : Str) (apos : Pos) (e f : Expr) (cpos : Pos) : Prop where
 base : attributeBase o m X.env (eval o X.env) = eval o X.env
 few : ((backTo cpos (starEach [e, f] X.env)).all (fun x => !x.1) && (backToKw cpos (keywordEach [] X.env)).all (fun x => x.1.isSome)
  && decide (([e, f] : List Expr).length + ([] : List Keyword).length + (if ([] : List Keyword).isEmpty then 0 else 1) < 30)) = true
 line : (apos.endLine == cpos.line) = true
 trees : backTo cpos (starEach [e, f] X.env) = [(false, eval e X.env), (false, eval f X.env)]
section
variable {X : Cx} {pins : List (Addr × Obj)} {σ : St} {H : Hp} {s : Shared} {a : Addr} {y d : V} {u r : Value} {o : Option V} {A : Around} {E : Value → Shared → Prop}
theorem yk {Q : Value → Shared → Prop} (hu : A.units + 1 < cLine) (I : Inv X pins σ H s) (g : cy H a y o) (ry : aC y u) (rd : aC d r) (h : ∀ w' s', Inv X pins σ H s' → aC (o.getD d) w' → Q w' s') :
   wpAny (model X.prog X.w) A (call (.builtin "dict.get") [.ref a, u, r]) Q E s := by
 rcases g with ⟨kvs, k, e, ey, l⟩ | ⟨kvs, k, b, e, ey, eb, l⟩
 · subst ey
   obtain ⟨z, hd, vs, rel, dd⟩ := gH I.hok e
   refine call_meetsIn PySem.F.slot_dict_get dd.typeIs PySem.F.entry_dict_get (PySem.F.args_dict_get_3 _ _ _) (meets_dict_get_default (bu X.prog X.w) a (gL ry) hd r) ⟨_, dd.mapOf, h _ _ (I.tok _) ?_⟩
   rw [l]
   exact (rel.val k).getD rd
 · subst ey
   cases (show u = Value.ref b from ry)
   obtain ⟨z, hd, xs, rel, dd⟩ := iO I.hok e
   refine call_meetsIn PySem.F.slot_dict_get dd.typeIs PySem.F.entry_dict_get (PySem.F.args_dict_get_3 _ _ _) (meetsH_dict_get_default (tupleKind (bu X.prog X.w)) a b hd r) ⟨tupleKind_room_in1 hu, k, xs, fq I.hok eb, dd, h _ _ (I.tok _) ?_⟩
   rw [l]
   exact (rel.val k).getD rd
end
section
variable {X : Cx} {o e f : Expr} {apos cpos : Pos} {td ty tx : TE}
end
section
variable {X : Cx} {pins : List (Addr × Obj)} {σ : St} {H : Hp} {s : Shared} {a : Addr} {kvs : List (Key × V)} {A : Around} {E : Value → Shared → Prop}
end
section
variable {X : Cx} {pins : List (Addr × Obj)} {σ : St} {H : Hp} {s : Shared} {a : Addr} {y : V} {u : Value} {A : Around} {E : Value → Shared → Prop}
end
end L2
namespace Att
open PySem PySem.W PySem.Calls PyProof.Rows
theorem ints_of_wellAll {P : Params} {h : Heap} : ∀ (ns : List Int) (vs : List Value), WellAll P h vs (ns.map WData.int) → IntsAre vs ns := by
  intro ns
  induction ns with
  | nil =>
    intro vs w
    rw [List.map_nil] at w
    cases w
    exact .nil
  | cons n ns ih =>
    intro vs w
    rw [List.map_cons] at w
    cases w with
    | cons a b =>
      cases a
      exact .cons _ _ (ih _ b)
theorem script_of {l : OpenLaw} {n : Nat} (hn : l.most = some n) {P : Params} {h : Heap} {args : List WData} {vals : List Value}
    (hpre : l.row.toRowW.claim.pre args = true) (hwl : WellAll P h vals args) :
    ∃ a vs ns, vals = [Value.ref a] ∧ args = [WData.list (ns.map WData.int)] ∧ h.get? a = some { cls := .type "list", data := .seq vs.toArray } ∧ IntsAre vs ns ∧ ns.length ≤ n := by
  have hsh : WShape.hasAll [] args [.list .int] = true := (pre_splitW hpre).1
  have hc : l.pre.holds [] { args := args } = true := (pre_splitW hpre).2
  obtain ⟨d, r, rfl, h1, h2⟩ := hasAllW_cons hsh
  obtain rfl := hasAllW_nil h2
  obtain ⟨xs, rfl, h3⟩ := hasW_list h1
  obtain ⟨ns, rfl⟩ := items_int h3
  have hlen : ns.length ≤ n := by
    unfold OpenLaw.pre at hc
    have h4 : (WTm.not (.lt (.lit (.int (n : Int))) (.len (.arg 0)))).holds [] { args := [.list (ns.map .int)] } = true := by
      have h4 := (holds_andW hc).1
      rw [hn] at h4
      exact h4
    have h5 := condW_of h4 (w_not (w_lt w_lit (w_len_list (w_arg rfl))))
    rw [List.length_map] at h5
    refine Nat.le_of_not_lt fun q => ?_
    have q' : (n : Int) < ((ns.length : Nat) : Int) := by omega
    first
      | (rw [decide_eq_true q'] at h5; exact absurd h5 (by decide))
      | (simp at h5; omega)
  cases hwl with
  | cons w1 w2 =>
    cases w2
    cases w1 with
    | list ho hall => exact ⟨_, _, ns, rfl, rfl, ho, ints_of_wellAll ns _ hall, hlen⟩
theorem post_true (l : OpenLaw) (args : List WData) : l.row.toRowW.claim.post args (.bool true) args = true :=
 postW_of (r := l.row.toRowW) (X := (true == true))
  (show WShape.has [] (.bool true) .bool = true by first | rfl | decide | simp [WShape.has, WShape.arms, WShape.armsAll])
  (show (WTm.eq .res (.lit (.bool true))).value [] { args := args, res := some (.bool true), after := args } = some (.bool (true == true)) from w_eq_bool (w_res rfl) w_lit) rfl
theorem attach_call {l : OpenLaw} {n : Nat} {q : Program} {loose : List Str} {XP : (Str → Option Value) → Heap → Prop} {YP : World → Heap → Prop} {d : DefRec}
  (hn : l.most = some n) (hdf : d.params.defaults = [])
  (call : ∀ (w : World) (s₀ s₁ : Shared) (mg mb : Str → Option Value) (fa : Addr) (o : Obj) (pm cd doc : Value) (a : Addr) (vs : List Value) (ns : List Int),
   Ground q loose [] XP w s₀ mg mb s₁.heap → YP w s₁.heap →
   s₁.heap.get? fa = some o → o.data = .func (docDef d.name d.params d.body d.scope pm cd doc) → s₁.heap.CodeRec cd d.name → mg d.name = some (.ref fa) →
   s₁.heap.get? a = some { cls := .type "list", data := .seq vs.toArray } → IntsAre vs ns → ns.length ≤ n → s₁.gens = #[] →
   codeAny (model l.prog w) callerA (.call (.ref fa) ⟨[.ref a], []⟩) (fun r s' => r = .ok (.ret (.bool true)) ∧ OldK s₁.heap s'.heap ∧ s'.os = s₁.os ∧ AllBare s'.gens) s₁) :
  WalkO q loose XP YP l.row.toRowW d [] (fun f vs => PySem.call f vs) := by
 intro w s₀ s₁ mg mb G Y fa o pm cd doc dV kV ho hd hcd hD hmg hg args vals as hpre hlay hrd hwl hlo
 obtain rfl : dV = .none := Dflts.none hD hdf
 obtain rfl : kV = .none := Dflts.noKw hD
 obtain ⟨a, vs, ns, rfl, rfl, hobj, hints, hlen⟩ := script_of hn hpre hwl
 refine enter_call (codeAny_mono (call w s₀ s₁ mg mb fa o pm cd doc a vs ns G Y ho (fd_plain hd) hcd hmg hobj hints hlen hg) fun r s' hq => ?_)
 obtain ⟨rfl, h2, h3, h4⟩ := hq
 exact ⟨.inl ⟨.bool true, .bool true, [], rfl, fun _ => rfl, .bool true, post_true l _, fun _ => ⟨List.Pairwise.nil, fun _ hm => (nomatch hm)⟩⟩, h2, h3, h4⟩
section
variable {prog : Program} {w : World} {A : Around} {E : Value → Shared → Prop} {s : Shared} {K : Frag}
end
end Att
namespace L2
open PySem PySem.Spec PyProof.Rows
theorem kX : ∀ {vs : List Value} {ns : List Int}, IntsAre vs ns → aA (ns.map V.int) vs
 | _, _, .nil => .nil
 | _, _, .cons n t h => .cons ⟨t, rfl⟩ (kX h)
end L2
namespace L2
open PySem PySem.Spec PyProof.Rows
end L2
namespace L2
open PySem PySem.Spec PyProof.Rows
def bp (s : Stmt) : Arguments := match s with
 | .FunctionDef _ a _ _ _ _ _ _ _ _ => a
 | _ => { posonlyargs := [], args := [], vararg := none, kwonlyargs := [], kw_defaults := [], kwarg := none, defaults := [] }
def aL (s : Stmt) : List Stmt := match s with
 | .FunctionDef _ _ b _ _ _ _ _ _ _ => b
 | _ => []
def ai (s : Stmt) : Scope := match s with
 | .FunctionDef _ _ _ _ _ _ sc _ _ _ => sc
 | _ => { kind := .function, names := [], isGenerator := false, isCoroutine := false }
abbrev E0 : XK := fun _ _ _ => False
structure Fun (K : W.Frag) (x qual : Str) (st : Stmt) (f : Addr) (fd : FuncData) : Prop where
 ex : ∃ (oc : Value) (od : Option Addr) (kV doc pm : Value) (an : Option Addr) (cdv ct : Value) (osl : Array (Option Value)),
  fd = W.fnOf x qual (bp st) (aL st) (ai st) .none kV doc pm an cdv ct ∧ K.lookup f = some ⟨oc, od, .func fd, osl⟩ ∧ W.codeIn K cdv qual = true
 kp : W.keepIn K (.ref f) = true
section
variable {P : Program} {w : World} {K : W.Frag} {mg : Str → Option Value} {base : Heap}
theorem Fun.binds {x qual : Str} {st : Stmt} {f : Addr} {fd : FuncData} {ps : List Str} (F : Fun K x qual st f fd)
  (h : ∀ (kV doc pm : Value) (an : Option Addr) (cdv ct : Value) (us : List Value), us.length = ps.length → bindArgs (W.fnOf x qual (bp st) (aL st) (ai st) .none kV doc pm an cdv ct) ⟨us, []⟩ = pure (ps.zip us)) : bZ K fd ps [] := by
 obtain ⟨oc, od, kV, doc, pm, an, cdv, ct, osl, rfl, lk, hcd⟩ := F.ex
 exact .all (h kV doc pm an cdv ct)
theorem jz {x qual : Str} {st : Stmt} {f : Addr} {oc : Value} {od an : Option Addr} {osl : Array (Option Value)} {kV doc pm cdv ct : Value} (l : K.lookup f = some ⟨oc, od, .func (W.fnOf x qual (bp st) (aL st) (ai st) .none kV doc pm an cdv ct), osl⟩)
 (c : W.codeIn K cdv qual = true) (k : W.keepIn K (.ref f) = true) : Fun K x qual st f (W.fnOf x qual (bp st) (aL st) (ai st) .none kV doc pm an cdv ct) := ⟨⟨oc, od, kV, doc, pm, an, cdv, ct, osl, rfl, l, c⟩, k⟩
end
theorem bW {n : Nat} (h : n ≤ 1000) : n < sizeLine := Nat.lt_of_le_of_lt h (by decide)
section
variable {X : Cx}
theorem rY : bF X (.builtin "len") (fun xs H Q => ∃ a kvs, xs = [V.ref a] ∧ H a = some (.dK kvs) ∧ Q (.int kvs.length) H) := by
 intro pins s σ H xs us Q I r h
 obtain ⟨a, kvs, rfl, ha, q⟩ := h
 obtain ⟨u, rfl, ru⟩ := eX r
 cases ru
 exact Bd I (.inl ha) fun t s' I' => ⟨.int kvs.length, H, I', ⟨t, rfl⟩, q⟩
end
theorem nk {A B : Prop} (h : A) : if true = true then A else B := by
 rw [if_pos rfl]
 exact h
def au (H H' : Hp) : Prop := ∀ b o, H b = some o → H' b = some o
theorem au.refl (H : Hp) : au H H := fun _ _ h => h
theorem au.trans {H H1 H2 : Hp} (a : au H H1) (b : au H1 H2) : au H H2 := fun c o h => b c o (a c o h)
section
variable {κ : Type} [DecidableEq κ]
end
end L2
namespace L2
open PySem PySem.Spec PyProof.Rows
def cH : List (Str × NameKind) → List (Str × Addr) → List (Str × Addr) → List (Str × Addr)
 | [], _, cs => cs
 | (n, k) :: r, cells, cs => cH r cells (if k == .free then (match cells.lookup n with | some a => (n, a) :: cs | none => cs) else cs)
theorem mL {scope : Scope} {env : Env} (h : ∀ y ∈ scope.names, y.2 = .free → (env.cells.lookup y.1).isSome = true) : closureFor scope env = pure (cH scope.names env.cells []) := by
  have key : ∀ (l : List (Str × NameKind)) (cs : List (Str × Addr)), (∀ y ∈ l, y.2 = .free → (env.cells.lookup y.1).isSome = true) →
      (forIn l cs (fun (x : Str × NameKind) (cs : List (Str × Addr)) => (if (x.2 == NameKind.free) = true then (do let a ← cellOf env x.1; pure (ForInStep.yield ((x.1, a) :: cs))) else (pure (ForInStep.yield cs) : Sem _))) : Sem (List (Str × Addr))) = pure (cH l env.cells cs) := by
    intro l
    induction l with
    | nil => intro cs _; rfl
    | cons y r ih =>
      intro cs hy
      obtain ⟨n, k⟩ := y
      rw [List.forIn_cons]
      by_cases hk : k = .free
      · subst hk
        have hs := hy (n, .free) List.mem_cons_self rfl
        cases e : env.cells.lookup n with
        | none => rw [e] at hs; cases hs
        | some a =>
          have := ih ((n, a) :: cs) (fun z hz => hy z (List.mem_cons_of_mem _ hz))
          simp only [cH, beq_self_eq_true, if_true, e, cellOf, pure_bind]
          exact this
      · have hb : (k == NameKind.free) = false := by simpa using hk
        have := ih cs (fun z hz => hy z (List.mem_cons_of_mem _ hz))
        simp only [cH, hb, Bool.false_eq_true, if_false, pure_bind]
        exact this
  have := key scope.names [] h
  unfold closureFor
  simpa using this
theorem kK : ∀ {l : List (Str × NameKind)} {cells cs : List (Str × Addr)} {x : Str} {c : Addr}, (∀ x c, cs.lookup x = some c → cells.lookup x = some c) → (cH l cells cs).lookup x = some c → cells.lookup x = some c
  | [], _, _, _, _, h, e => h _ _ e
  | (n, k) :: r, cells, cs, x, c, h, e => by
    refine kK (l := r) (fun y d hy => ?_) e
    split at hy
    · split at hy
      · rename_i a ha
        by_cases hyn : y = n
        · subst hyn
          rw [List.lookup_cons_self] at hy
          rw [← hy]; exact ha
        · rw [List.lookup_cons] at hy
          have : (y == n) = false := by simpa using hyn
          rw [this] at hy
          exact h _ _ hy
      · exact h _ _ hy
    · exact h _ _ hy
theorem jR : ∀ {l : List (Str × NameKind)} {cells cs : List (Str × Addr)} {x : Str}, (cs.lookup x).isSome = true → ((cH l cells cs).lookup x).isSome = true
  | [], _, _, _, h => h
  | (n, k) :: r, cells, cs, x, h => by
    refine jR (l := r) ?_
    split
    · split
      · rw [List.lookup_cons]
        split
        · rfl
        · exact h
      · exact h
    · exact h
theorem iz : ∀ {l : List (Str × NameKind)} {cells cs : List (Str × Addr)} {x : Str}, (x, NameKind.free) ∈ l → (cells.lookup x).isSome = true → ((cH l cells cs).lookup x).isSome = true
  | [], _, _, _, h, _ => by cases h
  | (n, k) :: r, cells, cs, x, h, hs => by
    rcases List.mem_cons.mp h with e | h
    · cases e
      refine jR (l := r) ?_
      simp only [beq_self_eq_true, if_true]
      cases e : cells.lookup n with
      | none => rw [e] at hs; cases hs
      | some a => simp only [List.lookup_cons_self]; rfl
    · exact iz (l := r) h hs
theorem jy {x : Str} {k : NameKind} : ∀ {l : List (Str × NameKind)}, l.lookup x = some k → (x, k) ∈ l := fun h => PySem.mem_of_lookup h
inductive eO (X : Cx) (scope : Scope) : List Str → List Nat → Prop where
 | nil : eO X scope [] []
 | cons {y : Str} {i : Nat} {ys : List Str} {is : List Nat} (h1 : X.N[i]? = some y) (h2 : X.env.kindOf y = some .cell ∨ X.env.kindOf y = some .free) (h3 : scope.names.lookup y = some .free) (h : eO X scope ys is) : eO X scope (y :: ys) (i :: is)
structure dJ (scope : Scope) (x : Str) (ys : List Str) : Prop where
 kind : scope.kind = .function
 nocell : ∀ y ∈ scope.names, y.2 ≠ .cell
 names : ∀ y ∈ scope.names, y.2 = .local → scope.names.lookup y.1 = some .local
 own : scope.names.lookup x = some .local
 all : ∀ y ∈ scope.names, y.2 = .free → y.1 ∈ ys
 nd : (x :: ys).Nodup
def bf (X : Cx) (scope : Scope) (C : Addr) (N : List Str) (s : Shared) (H : Hp) (fp : List Addr) : Cx :=
 { X with N := N, s₀ := s, H₀ := H, env := compEnvC scope (cH scope.names X.env.cells []) C X.env, outer := X.stack, ex := fp, fn := fun _ => false, pn := [], xe := fun _ _ => False }
def bj (σ : St) (is : List Nat) : St := is.map fun i => (σ[i]?).getD none
theorem fQ {f : Str × NameKind → Str × NameKind} (hf : ∀ p, (f p).1 = p.1) {x : Str} : ∀ (l : List (Str × NameKind)), (l.map f).lookup x = (l.lookup x).map fun k => (f (x, k)).2
  | [] => rfl
  | (n, k) :: r => by
    have ih := fQ hf (x := x) r
    have e : f (n, k) = (n, (f (n, k)).2) := Prod.ext (hf (n, k)) rfl
    rw [List.map_cons, e, List.lookup_cons, List.lookup_cons]
    cases hx : x == n with
    | true =>
      have e' : x = n := by simpa using hx
      subst e'; rfl
    | false => exact ih
theorem gp (scope : Scope) (env : Env) (x : Str) : (relabel scope env).names.lookup x = (scope.names.lookup x).map fun k => if (k == NameKind.free && env.scope.kind == .function && env.kindOf x == some .cell) then NameKind.cell else k := by
 have hf : ∀ p : Str × NameKind, ((fun (n, k) => if (k == NameKind.free && env.scope.kind == .function && env.kindOf n == some .cell) then (n, NameKind.cell) else (n, k)) p : Str × NameKind).1 = p.1 := by
  intro p
  obtain ⟨n, k⟩ := p
  show (if _ then (n, NameKind.cell) else (n, k)).1 = n
  split <;> rfl
 have := fQ hf (x := x) scope.names
 show List.lookup x (List.map _ scope.names) = _
 rw [this]
 congr 1
 funext k
 show (if _ then (x, NameKind.cell) else (x, k)).2 = _
 split <;> rfl
theorem gc {scope : Scope} {env : Env} {x : Str} {k : NameKind} (nc : ∀ y ∈ scope.names, y.2 ≠ .cell) (h : (relabel scope env).names.lookup x = some k) (hk : k = .cell ∨ k = .free) : (x, NameKind.free) ∈ scope.names := by
  rw [gp] at h
  cases q : scope.names.lookup x with
  | none => rw [q] at h; cases h
  | some k' =>
    have hm := jy q
    rw [q] at h
    have h : (if (k' == NameKind.free && env.scope.kind == .function && env.kindOf x == some .cell) then NameKind.cell else k') = k := Option.some.inj h
    by_cases hc : k' = .free
    · subst hc; exact hm
    · have hb : (k' == NameKind.free) = false := by simpa using hc
      rw [hb] at h
      have h : k' = k := h
      subst h
      rcases hk with z | z
      · exact absurd z (nc _ hm)
      · exact absurd z hc
theorem mP {scope : Scope} {env : Env} {x : Str} (h : scope.names.lookup x = some .free) : (relabel scope env).names.lookup x = some .cell ∨ (relabel scope env).names.lookup x = some .free := by
 rw [gp, h]
 show some (if _ then _ else _) = _ ∨ some (if _ then _ else _) = _
 split
 · exact .inl rfl
 · exact .inr rfl
theorem lC {scope : Scope} {env : Env} {x : Str} (h : scope.names.lookup x = some .local) : (relabel scope env).names.lookup x = some .local := by
 rw [gp, h]; rfl
theorem sM {X : Cx} {scope : Scope} {ys : List Str} {is : List Nat} {m : Str → Option Value} {h : Heap} {σ : St} (hc : eO X scope ys is)
    (hl : ∀ (i : Nat) (x : Str) (v : V), X.N[i]? = some x → σ[i]? = some (some v) → Vis X.env.scope x → ∃ u, aC v u ∧ ze X.env h m x u) (nd : True) :
    ∀ (j : Nat) (y : Str) (v : V), ys[j]? = some y → (bj σ is)[j]? = some (some v) → ∃ u, aC v u ∧ scope.names.lookup y = some .free ∧ ∃ c, X.env.cells.lookup y = some c ∧ h.IsCell c (some u) := by
  induction hc with
  | nil => intro j y v e; simp at e
  | @cons z i zs js h1 h2 h3 hr ih =>
    intro j y v e1 e2
    cases j with
    | zero =>
      simp at e1; subst e1
      have e2 : (σ[i]?).getD none = some v := by simpa [bj] using e2
      have e3 : σ[i]? = some (some v) := by
        cases q : σ[i]? with
        | none => rw [q] at e2; simp at e2
        | some o => rw [q] at e2; simp at e2; rw [e2]
      have hv : Vis X.env.scope z := by
        rcases h2 with q | q
        · exact .inr (.inl q)
        · exact .inr (.inr q)
      obtain ⟨u, r, l⟩ := hl i z v h1 e3 hv
      refine ⟨u, r, h3, ?_⟩
      rcases l with ⟨k, _⟩ | ⟨_, c, e, ic⟩
      · rcases h2 with q | q
        · rw [q] at k; cases k
        · rw [q] at k; cases k
      · exact ⟨c, e, ic⟩
    | succ j =>
      exact ih j y v (by simpa using e1) (by simpa [bj] using e2)
end L2
namespace L2
open PySem PySem.Spec PyProof.Rows
def vY (is : List Nat) (tc : TT) (te : TE) (σ : St) (D : Addr) (J : It) (H1 : Hp) (Q : VK) : Prop := ∃ W : Nat → Nat → List V → Hp → Prop, (∃ m, W 0 m [] (upd H1 D (.lst []))) ∧
 ∀ i m ys H2, W i m ys H2 → (J.stop i H2 ∧ Q (.ref D) H2) ∨ (J.go i H2 ∧ ∀ x H3, J.yld i H2 x H3 → tc (some x :: bj σ is) H3 fun b H4 => if b = true then
  te (some x :: bj σ is) H4 fun y H5 => H5 D = some (.lst ys) ∧ ys.length < sizeLine ∧ ∃ m', m' < m ∧ W (i + 1) m' (ys ++ [y]) (upd H5 D (.lst (ys ++ [y])))
  else ∃ m', m' < m ∧ W (i + 1) m' ys H4)
def dS (is : List Nat) (wi : TI) (tc : TT) (te : TE) : TE := fun σ H Q => wi σ H fun J H1 => ∀ D, H1 D = none → vY is tc te σ D J H1 Q
theorem nW (elt target iter c : Expr) (scope : Scope) (pos : Pos) (it acc : Value) (env : Env) :
    compTurn (.ListComp elt [⟨target, iter, [c], 0⟩] scope pos) 0 it acc env = (standAt iter.pos >>= fun _ => pyNext it >>= fun r => match r with
      | none => pure (.done .next)
      | some v => letOwnedTupleGo target it v >>= fun _ => assign target env v >>= fun _ => isTrue c env (eval c env) >>= fun ok =>
        (if ok = true then (eval elt env >>= fun x => call (.builtin "list.append") [acc, x] >>= fun _ => pure ()) else pure ()) >>= fun _ =>
          again (.compLoop (.ListComp elt [⟨target, iter, [c], 0⟩] scope pos) 0 it acc env)) := by
  unfold compTurn
  simp only [List.forIn_cons, List.forIn_nil, List.getElem?_cons_zero, List.getElem?_cons_succ, List.getElem?_nil, bind_assoc, pure_bind, bne_self_eq_false, Bool.false_eq_true, if_false, if_true]
  congr 1
  funext _
  congr 1
  funext r
  cases r with
  | none => rfl
  | some v =>
    simp only [bind_assoc, pure_bind, if_true]
    congr 1; funext _
    congr 1; funext _
    congr 1; funext b
    cases b <;> simp
section
variable {prog : Program} {w : World} {A : Around} {R : Result → Shared → Prop} {s : Shared}
theorem gT {elt target iter c : Expr} {scope : Scope} {pos : Pos} {it acc : Value} {env : Env} (I : Nat → Shared → Prop)
    (turn : ∀ n s, I n s → wpAny (model prog w) A (pyNext it) (fun r s₁ => match r with
      | none => R (.ok .next) s₁
      | some v => wpAny (model prog w) A (letOwnedTupleGo target it v) (fun _ s₁ => wpAny (model prog w) A (assign target env v) (fun _ s₂ => wpAny (model prog w) A (isTrue c env (eval c env)) (fun ok s₂ => if ok = true then wpAny (model prog w) A (eval elt env) (fun x s₃ =>
          wpAny (model prog w) A (call (.builtin "list.append") [acc, x]) (fun _ s₄ => ∃ m, m < n ∧ I m s₄) (notedBy (model prog w) A env fun e s' => R (.error e) s') s₃)
          (notedBy (model prog w) A env fun e s' => R (.error e) s') s₂ else ∃ m, m < n ∧ I m s₂) (notedBy (model prog w) A env fun e s' => R (.error e) s') s₂) (notedBy (model prog w) A env fun e s' => R (.error e) s') s₁) (notedBy (model prog w) A env fun e s' => R (.error e) s') s₁) (notedBy (model prog w) A env fun e s' => R (.error e) s') s)
    (n : Nat) (h : I n s) :
    codeAny (model prog w) A (.compLoop (.ListComp elt [⟨target, iter, [c], 0⟩] scope pos) 0 it acc env) R s := by
  refine codeAny_loop rfl I (fun n s hI => ?_) n h
  show wpAny _ _ ((compTurn (.ListComp elt [⟨target, iter, [c], 0⟩] scope pos) 0 it acc env).onRaise (fun x => do noteFrame x env; theTreesLotGoes x)) _ _ s
  refine wpAny_noted ?_
  rw [nW]
  refine wpAny_bind (wpAny_standAt (wpAny_bind (wpAny_mono (turn n s hI) (fun r s₁ h₁ => ?_) fun _ _ h' => h')))
  cases r with
  | none => exact wpAny_pure h₁
  | some v =>
    refine wpAny_bind (wpAny_mono h₁ (fun _ s₁ h₁ => wpAny_bind (wpAny_mono h₁ (fun _ s₂ h₂ => wpAny_bind (wpAny_mono h₂ (fun ok s₃ h₃ => ?_) fun _ _ h' => h')) fun _ _ h' => h')) fun _ _ h' => h')
    cases ok with
    | true =>
      rw [if_pos rfl] at h₃
      simp only [if_true]
      exact wpAny_bind (wpAny_bind (wpAny_mono h₃ (fun x s₃ h₃ => wpAny_bind (wpAny_mono h₃ (fun _ s₄ h₄ => wpAny_pure (wpAny_pure ⟨rfl, h₄⟩)) fun _ _ h' => h')) fun _ _ h' => h'))
    | false =>
      rw [if_neg Bool.false_ne_true] at h₃
      simp only [Bool.false_eq_true, if_false]
      exact wpAny_bind (wpAny_pure (wpAny_pure ⟨rfl, h₃⟩))
theorem gU {elt target iter : Expr} {scope : Scope} {pos : Pos} {it acc : Value} {env : Env} (I : Nat → Shared → Prop)
    (turn : ∀ n s, I n s → wpAny (model prog w) A (pyNext it) (fun r s₁ => match r with
      | none => R (.ok .next) s₁
      | some v => wpAny (model prog w) A (letOwnedTupleGo target it v) (fun _ s₁ => wpAny (model prog w) A (assign target env v) (fun _ s₂ => wpAny (model prog w) A (eval elt env) (fun x s₃ =>
          wpAny (model prog w) A (call (.builtin "list.append") [acc, x]) (fun _ s₄ => ∃ m, m < n ∧ I m s₄) (notedBy (model prog w) A env fun e s' => R (.error e) s') s₃)
          (notedBy (model prog w) A env fun e s' => R (.error e) s') s₂) (notedBy (model prog w) A env fun e s' => R (.error e) s') s₁) (notedBy (model prog w) A env fun e s' => R (.error e) s') s₁) (notedBy (model prog w) A env fun e s' => R (.error e) s') s)
    (n : Nat) (h : I n s) :
    codeAny (model prog w) A (.compLoop (.ListComp elt [⟨target, iter, [], 0⟩] scope pos) 0 it acc env) R s := by
  refine codeAny_loop rfl I (fun n s hI => ?_) n h
  show wpAny _ _ ((compTurn (.ListComp elt [⟨target, iter, [], 0⟩] scope pos) 0 it acc env).onRaise (fun x => do noteFrame x env; theTreesLotGoes x)) _ _ s
  refine wpAny_noted ?_
  rw [compTurn_list1]
  refine wpAny_bind (wpAny_standAt (wpAny_bind (wpAny_mono (turn n s hI) (fun r s₁ h₁ => ?_) fun _ _ h' => h')))
  cases r with
  | none => exact wpAny_pure h₁
  | some v =>
    exact wpAny_bind (wpAny_mono h₁ (fun _ s₁ h₁ => wpAny_bind (wpAny_mono h₁ (fun _ s₂ h₂ => wpAny_bind (wpAny_bind (wpAny_mono h₂ (fun x s₃ h₃ => wpAny_bind (wpAny_mono h₃
      (fun _ s₄ h₄ => wpAny_pure (wpAny_pure ⟨rfl, h₄⟩)) fun _ _ h' => h')) fun _ _ h' => h'))) fun _ _ h' => h')) fun _ _ h' => h')
end
def pB (X : Cx) (ifs : List Expr) (tc : TT) : Prop := match ifs with
 | [] => tc = fun _ H Q => Q true H
 | [c] => PT X c tc
 | _ => False
section
variable {X : Cx}
theorem vw {scope : Scope} {ys : List Str} {is : List Nat} (h : eO X scope ys is) : is.length = ys.length := by
 induction h with
 | nil => rfl
 | cons _ _ _ _ ih => simp [ih]
theorem kU {scope : Scope} {ys : List Str} {is : List Nat} (h : eO X scope ys is) {y : Str} (hy : y ∈ ys) : X.env.kindOf y = some .cell ∨ X.env.kindOf y = some .free := by
  induction h with
  | nil => cases hy
  | cons _ h2 _ _ ih =>
    rcases List.mem_cons.mp hy with e | e
    · rw [e]; exact h2
    · exact ih e
theorem kN {elt iter : Expr} {ifs : List Expr} {x : Str} {px pos : Pos} {scope : Scope} {ys : List Str} {is : List Nat} {tc : TT} {te : TE} {pins : List (Addr × Obj)} {σ : St} {H2 : Hp} {s2 : Shared} {it : Addr} {fp : List Addr} {tn : Nat → Heap → Prop} {J : It} {E : Value → Shared → Prop} {Q : VK} {RR : Value → Addr → Result → Shared → Prop}
    (hc : X.calm = true) (S : dJ scope x ys) (hcap : eO X scope ys is)
    (hif : ∀ C s H fp, pB (bf X scope C (x :: ys) s H fp) ifs tc) (he : ∀ C s H fp, PE (bf X scope C (x :: ys) s H fp) elt te)
    (I2 : Inv X pins σ H2 s2) (T : fM X.prog X.w X.K (.Name x px) J fp it tn) (st2 : tn 0 s2.heap) (f2 : ∀ b ∈ fp, gq X pins H2 b)
    (hW : ∀ D, H2 D = none → ∃ W : Nat → Nat → List V → Hp → Prop, (∃ m, W 0 m [] (upd H2 D (.lst []))) ∧
      ∀ i m ys H2, W i m ys H2 → (J.stop i H2 ∧ Q (.ref D) H2) ∨ (J.go i H2 ∧ ∀ x H3, J.yld i H2 x H3 → tc (some x :: bj σ is) H3 fun b H4 => if b = true then
        te (some x :: bj σ is) H4 fun y H5 => H5 D = some (.lst ys) ∧ ys.length < sizeLine ∧ ∃ m', m' < m ∧ W (i + 1) m' (ys ++ [y]) (upd H5 D (.lst (ys ++ [y])))
        else ∃ m', m' < m ∧ W (i + 1) m' ys H4))
    (hRR : ∀ D C H' s', (X.s₀.heap.objs.size ≤ C ∧ ∀ p ∈ X.pn ++ pins, p.1 ≠ C) → (∃ m, s'.heap.Ns C m) → C ≠ X.env.locals → H' C = none → Inv X pins σ H' s' → (∀ h', Heap.SameBut C s'.heap h' → Inv X pins σ H' { s' with heap := h' }) → Q (.ref D) H' → RR (.ref D) C (.ok .next) s') :
    wpAny (model X.prog X.w) X.A (newList []) (fun acc s₃ => wpAny (model X.prog X.w) X.A (newFunctionEnv scope X.env.globals (cH scope.names X.env.cells []) [] X.env.qual none .none (some X.env)) (fun cenv s₄ =>
      codeAny (model X.prog X.w) X.A (.compStart (.ListComp elt [⟨.Name x px, iter, ifs, 0⟩] scope pos) 0 (.ref it) acc { cenv with scope := relabel scope X.env }) (RR acc cenv.locals) s₄) E s₃) E s2 := by
  have hf2 : H2 s2.heap.objs.size = none := I2.fresh
  refine wpAny_newObj_type (wpAny_newFunctionEnv S.nocell (by intro y hy; simp at hy) (fun h₁ hns₁ hsb₁ => ?_) S.kind)
  dsimp only at hns₁ hsb₁ ⊢
  have I3 : Inv X pins σ (upd H2 s2.heap.objs.size (.lst [])) { s2 with heap := s2.heap.push { cls := .type "list", data := .seq ([] : List Value).toArray } } := I2.lnew (t' := s2.toks) (ys := []) .nil (Nat.zero_le _)
  obtain ⟨W, ⟨m0, w0⟩, turn⟩ := hW _ hf2
  generalize hD : s2.heap.objs.size = D at I3 w0 turn hf2 ⊢
  generalize hs3 : ({ s2 with heap := s2.heap.push { cls := .type "list", data := .seq ([] : List Value).toArray } } : Shared) = s3 at I3
  have hp3 : s2.heap.push { cls := .type "list", dict := none, data := .seq ([] : List Value).toArray } = s3.heap := by rw [← hs3]
  rw [hp3] at hns₁ hsb₁ ⊢
  have tk3 : s2.toks = s3.toks := by rw [← hs3]
  generalize hH3 : upd H2 D (.lst []) = H3 at I3 w0
  generalize hC : s3.heap.objs.size = C at hns₁ hsb₁ ⊢
  have keep2 : ∀ b o, s2.heap.get? b = some o → s3.heap.get? b = some o := fun b o e => by rw [← hp3]; exact Heap.get?_push_of_some _ e
  have keep3 : ∀ b o, s3.heap.get? b = some o → h₁.get? b = some o := fun b o e => hsb₁.extBut b o (by rw [← hC]; exact Nat.ne_of_lt (Heap.lt_size e)) (Heap.get?_push_of_some _ e)
  have st3 : tn 0 s3.heap := T.keep _ _ _ st2 fun b _ o e => keep2 b o e
  have st4 : tn 0 h₁ := T.keep _ _ _ st3 fun b _ o e => keep3 b o e
  have fp3 : ∀ b ∈ fp, H3 b = none ∧ b < C := fun b hb => by
    obtain ⟨o, e, _⟩ := T.obj _ _ st2 b hb
    refine ⟨?_, by rw [← hC]; exact Heap.lt_size (keep2 b o e)⟩
    rw [← hH3, aj (by rw [← hD]; exact Nat.ne_of_lt (Heap.lt_size e))]
    exact (f2 b hb).1
  have hcells : ∀ {z : Str} {c : Addr}, (cH scope.names X.env.cells []).lookup z = some c → X.env.cells.lookup z = some c := fun h => kK (fun _ _ q => by cases q) h
  have hX : (bf X scope C (x :: ys) s3 H3 fp).Ok := by
    refine ⟨I3.ok.mod, S.kind, I3.ok.glob, I3.ok.blt, Nat.le_of_eq hC, fun y z c h1 h2 => I3.ok.inj y z c (hcells h1) (hcells h2), fun y hy => ?_, fun y c h _ => absurd (show false = true from h) Bool.false_ne_true, I3.ok.hd, I3.ok.frames, .inl rfl, fun b hb => ⟨Nat.ne_of_lt (fp3 b hb).2, fun y c h => (f2 b hb).2.2.2.2.1 y c (hcells h)⟩, fun b o e => I3.bs b o e, Nat.le_trans I3.ok.bsz I3.sz, fun b o e hb => ?_, fun b hb z => ?_, I3.stack, I3.stkFree⟩
    · have hy : (relabel scope X.env).names.lookup y = some .cell ∨ (relabel scope X.env).names.lookup y = some .free := hy
      have hm : (y, NameKind.free) ∈ scope.names := by
        rcases hy with q | q
        · exact gc S.nocell q (.inl rfl)
        · exact gc S.nocell q (.inr rfl)
      have hs : ∃ c, X.env.cells.lookup y = some c := by
        by_cases hk : X.env.kindOf y = some .cell ∨ X.env.kindOf y = some .free
        · exact I3.ok.has y hk
        · exact absurd (kU hcap (S.all _ hm rfl)) hk
      exact Option.isSome_iff_exists.mp (iz hm (Option.isSome_iff_exists.mpr hs))
    · rcases (f2 b hb).2.2.2.1 with z | z
      · exact I3.ok.noex b o e z
      · exact absurd (Nat.lt_of_lt_of_le (Heap.lt_size e) (Nat.le_trans I3.ok.bsz z)) (Nat.lt_irrefl _)
    · rcases List.mem_cons.mp (I3.stkSub b z) with q | q
      · exact (f2 b hb).2.1 q
      · exact (f2 b hb).2.2.1 q
  have I4 : Inv (bf X scope C (x :: ys) s3 H3 fp) [] (none :: bj σ is) H3 { s2 with heap := h₁, toks := s2.toks + ([] : List (Str × Value)).length } := by
    obtain ⟨m3, hm3, hl3⟩ := id I3.loc
    refine ⟨hX, ?_, ?_, Un.kept keep3, ⟨_, hns₁, fun i y v e1 e2 e3 => ?_⟩, fun y c e => ?_, ?_, fun y c e => I3.freeC y c (hcells e), fun p hp => absurd (show p ∈ ([] : List (Addr × Obj)) from hp) (by simp), I3.hok.kept keep3, ?_⟩
    · show s2.os = s3.os
      rw [← hs3]
    · have := I2.bare; exact this
    · cases i with
      | zero => simp at e2
      | succ j =>
        obtain ⟨u, r, hfr, c, ec, ic⟩ := sM hcap hl3 trivial j y v (by have e1' : (x :: ys)[j + 1]? = some y := e1; simpa using e1') (by simpa using e2)
        have hk := mP (env := X.env) hfr
        obtain ⟨c', ec'⟩ := Option.isSome_iff_exists.mp (iz (cs := []) (jy hfr) (by rw [ec]; rfl) (cells := X.env.cells))
        have : c' = c := by have := hcells ec'; rw [ec] at this; exact (Option.some.inj this).symm
        subst this
        obtain ⟨o, ho, hd⟩ := ic
        exact ⟨u, r, .inr ⟨hk, c', ec', o, keep3 _ _ ho, hd⟩⟩
    · obtain ⟨v, o, ho, hd⟩ := I3.cell y c (hcells e)
      exact ⟨v, o, keep3 _ _ ho, hd⟩
    · have := I3.hok.fresh (a := C) (Nat.le_of_eq hC)
      exact this
    · have := vw hcap
      show (none :: bj σ is).length = (x :: ys).length
      simp [bj, this]
  have lenσ : ∀ v : Option V, (v :: bj σ is).set 0 = fun w => w :: bj σ is := fun v => rfl
  have hown : (relabel scope X.env).names.lookup x = some .local := lC S.own
  have loop : codeAny (model X.prog X.w) X.A (.compLoop (.ListComp elt [⟨.Name x px, iter, ifs, 0⟩] scope pos) 0 (.ref it) (.ref D) (compEnvC scope (cH scope.names X.env.cells []) C X.env)) (RR (.ref D) C)
      { s2 with heap := h₁, toks := s2.toks + ([] : List (Str × Value)).length } := by
    have fin : ∀ {H' : Hp} {v : Option V} {s' : Shared}, Inv (bf X scope C (x :: ys) s3 H3 fp) [] (v :: bj σ is) H' s' → Q (.ref D) H' → RR (.ref D) C (.ok .next) s' := fun {H' v s'} J q => by
      obtain ⟨m', hm', _⟩ := J.loc
      have hCL : C ≠ X.env.locals := Ne.symm (by rw [← hC]; exact Nat.ne_of_lt I3.lt)
      have back : ∀ h', Heap.SameBut C s'.heap h' → Inv X pins σ H' { s' with heap := h' } := fun h' hs' => by
        have os' : s'.os = s3.os := J.os
        refine I3.call' (s' := { s' with heap := h' }) (ch := fp) os' ⟨fun b o e n hb hx => ?_, fun b o e n hb hx => ?_, fun b o e n hx => J.base.free b o e n hx, fun b o e hx => ?_, J.base.tups, J.base.frzs, J.base.tbls⟩ (fun b o e => ?_) J.bare fun b hb => ?_
        · exact hs'.extBut b o (by rw [← hC]; exact Nat.ne_of_lt (Heap.lt_size e)) (J.base.keep b o e n hb hx)
        · obtain ⟨sl, e1⟩ := J.base.slot b o e n hb hx
          exact ⟨sl, hs'.extBut b _ (by rw [← hC]; exact Nat.ne_of_lt (Heap.lt_size e)) e1⟩
        · obtain ⟨o', e1⟩ := J.base.there b o e hx
          exact ⟨o', hs'.extBut b _ (by rw [← hC]; exact Nat.ne_of_lt (Heap.lt_size e)) e1⟩
        · refine (J.hok b o e).stay (fun c w' hc q => (hs'.2 c ?_).trans q) (fun _ q => q) fun _ _ q => q
          have fC : H' C = none := J.free
          rintro rfl
          rcases hc with rfl | hc
          · rw [fC] at e; cases e
          · rw [fC] at hc; cases hc
        · obtain ⟨_, a1, _, a2, a3, a4⟩ := f2 b hb
          exact ⟨a2, a1, a3, a4⟩
      refine hRR D C H' s' ⟨by rw [← hC]; exact I3.sz, fun p hp => by rw [← hC]; exact Nat.ne_of_lt (Heap.lt_size (I3.pin p hp).1)⟩ ⟨m', hm'⟩ hCL J.free ?_ back q
      have := back s'.heap (.refl ..)
      exact this
    have stat : ∀ {H' : Hp}, (∀ b ∈ fp, H' b = none) → ∀ b ∈ fp, gq (bf X scope C (x :: ys) s3 H3 fp) [] H' b := fun hn b hb => by
      obtain ⟨_, a1, a5, a2, a3, a4⟩ := f2 b hb
      refine ⟨hn b hb, Nat.ne_of_lt (fp3 b hb).2, fun z => ?_, .inl hb, fun y c e => a3 y c (hcells e), fun p hp => absurd (show p ∈ ([] : List (Addr × Obj)) from hp) (by simp)⟩
      rcases List.mem_cons.mp (I3.stkSub b z) with q | q
      · exact a1 q
      · exact a5 q
    have turnAt : ∀ n s, (∃ i v ys' H', Inv (bf X scope C (x :: ys) s3 H3 fp) [] (v :: bj σ is) H' s ∧ tn i s.heap ∧ (∀ b ∈ fp, H' b = none) ∧ W i n ys' H') →
        wpAny (model X.prog X.w) X.A (pyNext (.ref it)) (fun r s₁ => match r with
          | none => RR (.ref D) C (.ok .next) s₁
          | some u => wpAny (model X.prog X.w) X.A (letOwnedTupleGo (.Name x px) (.ref it) u) (fun _ s₁ => wpAny (model X.prog X.w) X.A (assign (.Name x px) (compEnvC scope (cH scope.names X.env.cells []) C X.env) u) (fun _ s₂ =>
            ∃ (xx : V) (i : Nat) (ys' : List V) (H3' H6 : Hp) (pl : List (Addr × Obj)), Inv (bf X scope C (x :: ys) s3 H3 fp) ([] ++ pl) (some xx :: bj σ is) H6 s₂ ∧
              (∀ s7 v7 H7, Inv (bf X scope C (x :: ys) s3 H3 fp) ([] ++ pl) (v7 :: bj σ is) H7 s7 → Inv (bf X scope C (x :: ys) s3 H3 fp) [] (v7 :: bj σ is) H7 s7 ∧ tn (i + 1) s7.heap ∧ ∀ b ∈ fp, H7 b = none) ∧
              (tc (some xx :: bj σ is) H6 fun b H4 => if b = true then te (some xx :: bj σ is) H4 fun y H5 => H5 D = some (.lst ys') ∧ ys'.length < sizeLine ∧ ∃ m', m' < n ∧ W (i + 1) m' (ys' ++ [y]) (upd H5 D (.lst (ys' ++ [y])))
                else ∃ m', m' < n ∧ W (i + 1) m' ys' H4)) (fun _ _ => False) s₁) (fun _ _ => False) s₁) (fun _ _ => False) s := by
      rintro n s ⟨i, v, ys', H', J, st, fr, w'⟩
      rcases turn i n ys' H' w' with ⟨stop, qn⟩ | ⟨go, step⟩
      · refine thn (T.done (bf X scope C (x :: ys) s3 H3 fp) rfl rfl rfl hc i [] s _ H' (fun _ _ => False) J (stat fr) st stop) fun r s4 ⟨hr, J4⟩ => ?_
        subst hr
        exact fin J4 qn
      · refine thn (T.item (bf X scope C (x :: ys) s3 H3 fp) rfl rfl rfl hc i [] s _ H' (fun _ _ => False) J (stat fr) st go) fun r s4 ⟨u, hr, h4⟩ => ?_
        subst hr
        refine thn h4 fun _ s5 ⟨xx, H5, J5, r5, y5, st5, fr5⟩ => ?_
        have J5' := J5.pinned (stat fr5) (T.obj _ _ st5)
        refine wpAny_assign_Name (dY (i := 0) J5' S.nd rfl (.inl hown) r5 (fun s6 J6 => ?_) (.inr hown))
        refine ⟨xx, i, ys', H5, H5, ii fp s5.heap, J6, fun s7 v7 H7 J7 => ⟨J7.unpinned, T.keep _ _ _ st5 fun b hb o e => (J7.pin (b, o) (List.mem_append_right _ (List.mem_append_right _ (eW hb e)))).1, fun b hb => ?_⟩, step xx H5 y5⟩
        obtain ⟨o, e, d⟩ := T.obj _ _ st5 b hb
        exact (J7.pin (b, o) (List.mem_append_right _ (List.mem_append_right _ (eW hb e)))).2.1
    have start0 : ∃ i v ys' H', Inv (bf X scope C (x :: ys) s3 H3 fp) [] (v :: bj σ is) H' { s2 with heap := h₁, toks := s2.toks + ([] : List (Str × Value)).length } ∧ tn i h₁ ∧ (∀ b ∈ fp, H' b = none) ∧ W i m0 ys' H' :=
      ⟨0, none, [], H3, I4, st4, fun b hb => (fp3 b hb).1, w0⟩
    have emit : ∀ (n : Nat) (xx : V) (i : Nat) (ys' : List V) (H4 : Hp) (pl : List (Addr × Obj)) (s₂ : Shared), Inv (bf X scope C (x :: ys) s3 H3 fp) ([] ++ pl) (some xx :: bj σ is) H4 s₂ →
        (∀ s7 v7 H7, Inv (bf X scope C (x :: ys) s3 H3 fp) ([] ++ pl) (v7 :: bj σ is) H7 s7 → Inv (bf X scope C (x :: ys) s3 H3 fp) [] (v7 :: bj σ is) H7 s7 ∧ tn (i + 1) s7.heap ∧ ∀ b ∈ fp, H7 b = none) →
        (te (some xx :: bj σ is) H4 fun y H5 => H5 D = some (.lst ys') ∧ ys'.length < sizeLine ∧ ∃ m', m' < n ∧ W (i + 1) m' (ys' ++ [y]) (upd H5 D (.lst (ys' ++ [y])))) →
        wpAny (model X.prog X.w) X.A (eval elt (compEnvC scope (cH scope.names X.env.cells []) C X.env)) (fun y s₃ => wpAny (model X.prog X.w) X.A (call (.builtin "list.append") [.ref D, y]) (fun _ s₄ =>
          ∃ m, m < n ∧ ∃ i v ys' H', Inv (bf X scope C (x :: ys) s3 H3 fp) [] (v :: bj σ is) H' s₄ ∧ tn i s₄.heap ∧ (∀ b ∈ fp, H' b = none) ∧ W i m ys' H') (fun _ _ => False) s₃) (fun _ _ => False) s₂ := by
      intro n xx i ys' H4 pl s₂ J2 back q
      refine thn (he C s3 H3 fp ([] ++ pl) s₂ _ H4 _ J2 q) fun y s₃ ⟨yv, H5, J3, r3, q1, q2, q3⟩ => ?_
      refine thn (cA (X := bf X scope C (x :: ys) s3 H3 fp) ([] ++ pl) s₃ _ H5 (.ref D) [yv] (.ref D) [y] (fun v H7 => v = .non ∧ H7 = upd H5 D (.lst (ys' ++ [yv]))) J3 rfl (.cons r3 .nil) ⟨D, ys', yv, rfl, rfl, q1, q2, rfl, rfl⟩) fun _ s₄ ⟨_, H7, J4, _, _, e7⟩ => ?_
      subst e7
      obtain ⟨m', hm', w'⟩ := q3
      obtain ⟨b1, b2, b3⟩ := back s₄ _ _ J4
      exact ⟨m', hm', i + 1, some xx, ys' ++ [yv], _, b1, b2, b3, w'⟩
    have ex0 : ∀ {α : Type} {t : Sem α} {Q' : α → Shared → Prop} {E' : Value → Shared → Prop} {s : Shared}, wpAny (model X.prog X.w) X.A t Q' (fun _ _ => False) s → wpAny (model X.prog X.w) X.A t Q' E' s := fun h => wpAny_mono h (fun _ _ q => q) fun _ _ q => q.elim
    cases ifs with
    | nil =>
      have htc : tc = fun _ H Q => Q true H := hif C s3 H3 fp
      subst htc
      refine gU (fun n s => ∃ i v ys' H', Inv (bf X scope C (x :: ys) s3 H3 fp) [] (v :: bj σ is) H' s ∧ tn i s.heap ∧ (∀ b ∈ fp, H' b = none) ∧ W i n ys' H') (fun n s hI => ?_) m0 start0
      refine wpAny_mono (turnAt n s hI) (fun r s₁ h₁ => ?_) fun _ _ q => q.elim
      cases r with
      | none => exact h₁
      | some u =>
        refine wpAny_mono h₁ (fun _ s₁ h₁ => wpAny_mono h₁ (fun _ s₂ h₂ => ?_) fun _ _ q => q.elim) fun _ _ q => q.elim
        obtain ⟨xx, i, ys', _, H6, pl, J2, back, q⟩ := h₂
        dsimp only at q
        rw [if_pos rfl] at q
        exact wpAny_mono (emit n xx i ys' H6 pl s₂ J2 back q) (fun y s₃ h₃ => ex0 h₃) fun _ _ q => q.elim
    | cons c r0 =>
      cases r0 with
      | cons _ _ => exact (hif C s3 H3 fp).elim
      | nil =>
        have hpt : PT (bf X scope C (x :: ys) s3 H3 fp) c tc := hif C s3 H3 fp
        refine gT (fun n s => ∃ i v ys' H', Inv (bf X scope C (x :: ys) s3 H3 fp) [] (v :: bj σ is) H' s ∧ tn i s.heap ∧ (∀ b ∈ fp, H' b = none) ∧ W i n ys' H') (fun n s hI => ?_) m0 start0
        refine wpAny_mono (turnAt n s hI) (fun r s₁ h₁ => ?_) fun _ _ q => q.elim
        cases r with
        | none => exact h₁
        | some u =>
          refine wpAny_mono h₁ (fun _ s₁ h₁ => wpAny_mono h₁ (fun _ s₂ h₂ => ?_) fun _ _ q => q.elim) fun _ _ q => q.elim
          obtain ⟨xx, i, ys', _, H6, pl, J2, back, q⟩ := h₂
          refine wpAny_mono (hpt ([] ++ pl) s₂ _ H6 _ J2 q) (fun b s₃ h₃ => ?_) fun _ _ q => q.elim
          obtain ⟨H4, J4, q4⟩ := h₃
          cases b with
          | true =>
            rw [if_pos rfl] at q4 ⊢
            exact wpAny_mono (emit n xx i ys' H4 pl s₃ J4 back q4) (fun y s₃ h₃ => ex0 h₃) fun _ _ q => q.elim
          | false =>
            rw [if_neg Bool.false_ne_true] at q4 ⊢
            obtain ⟨m', hm', w'⟩ := q4
            obtain ⟨b1, b2, b3⟩ := back s₃ _ _ J4
            exact ⟨m', hm', i + 1, some xx, ys', _, b1, b2, b3, w'⟩
  exact codeAny_compStart_list loop (T.self X.A 0 _ _ _ st4 loop)
end
end L2
namespace L2
open PySem PySem.Spec PyProof.Rows
section
variable {X : Cx}
theorem oG {scope : Scope} {x : Str} {ys : List Str} {is : List Nat} (ok : X.Ok) (S : dJ scope x ys) (hcap : eO X scope ys is) : closureFor scope X.env = pure (cH scope.names X.env.cells []) :=
 mL fun y hy hk => by
  obtain ⟨c, e⟩ := ok.has y.1 (kU hcap (S.all y hy hk))
  rw [e]; rfl
theorem xc {elt iter : Expr} {ifs : List Expr} {x : Str} {px pos : Pos} {scope : Scope} {ys : List Str} {is : List Nat} {wi : TI} {tc : TT} {te : TE}
  (hc : X.calm = true) (S : dJ scope x ys) (hcap : eO X scope ys is) (hi : PI X (.Name x px) iter wi)
  (hif : ∀ C s H fp, pB (bf X scope C (x :: ys) s H fp) ifs tc) (he : ∀ C s H fp, PE (bf X scope C (x :: ys) s H fp) elt te)
  (hs : ∀ x, foldedSetIterable iter X.env x = pure x := by intro _; rfl) : PE X (.ListComp elt [⟨.Name x px, iter, ifs, 0⟩] scope pos) (dS is wi tc te) := by
 intro pins s σ H Q I h
 rw [eval_ListComp]
 refine wpAny_comprehension_free (use := none) rfl hs (oG I.ok S hcap) S.kind S.names (thn (hi pins s σ H _ I h) fun v s1 h1 => thn h1 fun itv s2 h2 => ?_)
 obtain ⟨it, fp, tn, J, H2, rfl, I2, T, st2, f2, hW⟩ := h2
 refine kN (RR := fun acc C => compPost (model X.prog X.w) X.A X.xe none (EP X pins σ Q) acc C) hc S hcap hif he I2 T st2 f2 hW ?_
 intro D C H' s' hlt hns hne hfr I' back q
 obtain ⟨m, hm⟩ := hns
 exact ⟨m, hm, fun h' hs' => ⟨.ref D, H', back h' hs', rfl, q⟩⟩
theorem qp {elt iter : Expr} {ifs : List Expr} {x y : Str} {px py pos spos : Pos} {scope : Scope} {ys : List Str} {is : List Nat} {wi : TI} {tc : TT} {te : TE} {j : Nat}
  (hN : X.N.Nodup) (hj : X.N[j]? = some y) (hy : Loc X.env.scope y)
  (hc : X.calm = true) (S : dJ scope x ys) (hcap : eO X scope ys is) (hi : PI X (.Name x px) iter wi)
  (hif : ∀ C s H fp, pB (bf X scope C (x :: ys) s H fp) ifs tc) (he : ∀ C s H fp, PE (bf X scope C (x :: ys) s H fp) elt te)
  (hsw : swapsWith (.ListComp elt [⟨.Name x px, iter, ifs, 0⟩] scope pos) (some (.Name y py)) spos.line X.env = pure true := by rfl)
  (hf : X.fn y = true ∨ X.env.scope.names.lookup y = some .local := by first | exact .inl rfl | exact .inr rfl | assumption)
  (hs : ∀ x, foldedSetIterable iter X.env x = pure x := by intro _; rfl) : PS X (.Assign [.Name y py] (.ListComp elt [⟨.Name x px, iter, ifs, 0⟩] scope pos) spos) (aF (dS is wi tc te) (aw j)) := by
 intro pins s σ H D I h
 rw [exec_Assign_Name_used _ _ _ _ hsw]
 refine wpAny_bind (wpAny_standAt (wpAny_bind ?_))
 show wpAny _ X.A (do let _ ← comprehension (.ListComp elt [⟨.Name x px, iter, ifs, 0⟩] scope pos) scope X.env _ (newList []) false (eval iter X.env) (some (assign (.Name y py) X.env))) _ _ s
 refine wpAny_bind (wpAny_mono (wpAny_comprehension_free (use := some (assign (.Name y py) X.env)) (Q := fun _ s' => SP X pins D .next s') rfl hs (oG I.ok S hcap) S.kind S.names
  (thn (hi pins s σ H _ I h) fun v s1 h1 => thn h1 fun itv s2 h2 => ?_)) (fun _ s' hq => wpAny_pure (wpAny_pure hq)) fun _ _ e => e)
 obtain ⟨it, fp, tn, J, H2, rfl, I2, T, st2, f2, hW⟩ := h2
 refine kN (Q := fun x H1 => aw j x σ H1 D.nx) (RR := fun acc C => compPost (model X.prog X.w) X.A X.xe (some (assign (.Name y py) X.env)) (fun _ s' => SP X pins D .next s') acc C) hc S hcap hif he I2 T st2 f2 hW ?_
 intro Da C H' s' hlt hns hne hfr I' back q
 show wpAny _ X.A (assign (.Name y py) X.env (.ref Da)) _ _ _
 obtain ⟨m, hm⟩ := hns
 refine wpAny_assign_Name (lw I' hN hj hy (v := .ref Da) rfl (fun s2 I2' ⟨a, hsb, ha⟩ => ?_) hf)
 have hCa : C ≠ a := by
  rcases ha with e | e
  · rw [e]; exact hne
  · rintro rfl
    obtain ⟨v, o, ho, hd⟩ := I'.cell y C e
    obtain ⟨o2, es, ep, ho2, hd2, _⟩ := hm
    rw [ho] at ho2; cases ho2; rw [hd] at hd2; cases hd2
 refine ⟨m, hm.sameBut hsb hCa, fun h' hs' => ?_⟩
 have hCn : ∀ y c, X.env.cells.lookup y = some c → c ≠ C := fun z c e q => by
  subst q
  obtain ⟨v, o, ho, hd⟩ := I'.cell z c e
  obtain ⟨o2, es, ep, ho2, hd2, _⟩ := hm
  rw [ho] at ho2; cases ho2; rw [hd] at hd2; cases hd2
 have I3 : Inv X pins (σ.set j (some (.ref Da))) H' { s2 with heap := h' } := by
  refine I2'.step (g' := s2.gens) (d' := s2.drawn) (t' := s2.toks) (ch := [C]) (fun b hb => ?_) (fun b o _ _ hb e _ => (hs'.2 b (fun z => hb (by simp [z]))).trans e) (fun b o _ _ hb e _ => ⟨o.slots, (hs'.2 b (fun z => hb (by simp [z]))).trans e⟩) (fun _ _ _ _ n => n) (fun b o hb e => ⟨o, (hs'.2 b (fun z => hb (by simp [z]))).trans e⟩)
    (fun _ _ e => e) (fun _ _ _ e => e) (fun b ps e => ⟨#[], by rw [e]; simp⟩) (fun m' hm' => hm'.sameBut hs' (Ne.symm hne)) (fun b o e => ?_) I2'.bare
  · have e : b = C := by simpa using hb
    subst e
    exact ⟨.inr hlt.1, hne, fun z c e => hCn z c e, hlt.2⟩
  · refine (I2'.hok b o e).stay (fun c w' hc q => (hs'.2 c ?_).trans q) (fun _ q => q) fun _ _ q => q
    rintro rfl
    rcases hc with rfl | hc
    · rw [hfr] at e; cases e
    · rw [hfr] at hc; cases hc
 exact ⟨_, H', I3, q⟩
end
end L2
namespace L2
open PySem PySem.Spec PyProof.Rows
def tyN (H : Hp) : V → Option String
  | .non => some "NoneType"
  | .bl _ => some "bool"
  | .int _ => some "int"
  | .str _ => some "str"
  | .ref a => match H a with
    | some (.lst _) => some "list"
    | some (.frz _ (.lst _)) => some "list"
    | some (.tup _) => some "tuple"
    | some (.dK _) => some "dict"
    | some (.dT _) => some "dict"
    | _ => none
  | _ => none
theorem zZ {K : W.Frag} {H : Hp} {x : V} {t : String} (h : tyN H x = some t) : eB K H x (.type t) := by
  cases x with
  | non => cases h; exact .non
  | bl b => cases h; exact .bl b
  | int i => cases h; exact .int i
  | str x => cases h; exact .str x
  | byt _ => cases h
  | flt _ => cases h
  | ty _ => cases h
  | ref a =>
    unfold tyN at h
    dsimp only at h
    split at h
    · rename_i e; cases h; exact .lst e
    · rename_i e; cases h; exact .frz e
    · rename_i e; cases h; exact .tup e
    · rename_i e; cases h; exact .dK e
    · rename_i e; cases h; exact .dT e
    · cases h
def tyL : List String := ["NoneType", "bool", "int", "str", "list", "tuple", "dict"]
theorem yQ {H : Hp} {x : V} {t : String} (h : tyN H x = some t) : t ∈ tyL := by
  cases x with
  | non => cases h; decide
  | bl b => cases h; decide
  | int i => cases h; decide
  | str x => cases h; decide
  | byt _ => cases h
  | flt _ => cases h
  | ty _ => cases h
  | ref a =>
    unfold tyN at h
    dsimp only at h
    split at h <;> first | (cases h; decide) | cases h
def isI (t T : String) : Bool := t == T || (T == "int" && t == "bool")
theorem zM (K : W.Frag) : ∀ t ∈ tyL, ∀ T ∈ ["int", "bool", "str", "tuple", "list", "dict"], W.kitOne K (.type t) (.type T) = some (isI t T) := by
 intro t ht T hT
 simp only [tyL, List.mem_cons, List.not_mem_nil, or_false] at ht hT
 rcases ht with rfl | rfl | rfl | rfl | rfl | rfl | rfl <;> rcases hT with rfl | rfl | rfl | rfl | rfl | rfl <;> (unfold W.kitOne; first | rfl | decide +kernel | (simp only [W.kitCls]; rfl))
section
variable {X : Cx}
theorem uE : bF X (.builtin "isinstance") (fun xs H Q => ∃ x T t, xs = [x, .ty T] ∧ T ∈ ["int", "bool", "str", "tuple", "list", "dict"] ∧ tyN H x = some t ∧ Q (.bl (isI t T)) H) := by
 intro pins s σ H xs us Q I r h
 obtain ⟨x, T, t, rfl, hT, ht, q⟩ := h
 obtain ⟨u, w', rfl, r1, r2⟩ := jM r
 cases r2
 exact sD I r1 (zZ ht) (zM X.K t (yQ ht) T hT) fun tk => ⟨.bl _, H, I.tok tk, rfl, q⟩
end
end L2
namespace L2
open PySem PySem.Spec PyProof.Rows
section
variable {X : Cx}
theorem oo : ∀ {bs : List Bool} {us : List Value}, aA (bs.map V.bl) us → us = bs.map Value.bool
  | [], _, .nil => rfl
  | b :: bs, _, .cons r t => by
    have e : _ = Value.bool b := r
    rw [oo t, List.map_cons, e]
theorem rQ (bs : List Bool) : (List.range bs.length).all (fun i => bs.getD i false) = bs.all id := by
 rw [Bool.eq_iff_iff, List.all_eq_true, List.all_eq_true]
 constructor
 · intro h b hb
   obtain ⟨i, hi, e⟩ := List.mem_iff_getElem.mp hb
   have := h i (List.mem_range.mpr hi)
   simp only [List.getD_eq_getElem?_getD, List.getElem?_eq_getElem hi, Option.getD_some] at this
   rw [← e]; exact this
 · intro h i hi
   have hi := List.mem_range.mp hi
   simp only [List.getD_eq_getElem?_getD, List.getElem?_eq_getElem hi, Option.getD_some]
   exact h _ (List.getElem_mem hi)
theorem nQ {prog : Program} {w : World} {A : Around} {bs : List Bool} : TruthOf prog w A (fun i v => (bs.map Value.bool).toArray[i]? = some v) (fun i => bs.getD i false) := by
  intro i v s Q E hP hQ
  have hP : (bs.map Value.bool)[i]? = some v := by simpa using hP
  rw [List.getElem?_map] at hP
  cases e : bs[i]? with
  | none => rw [e] at hP; cases hP
  | some b =>
    rw [e] at hP
    cases hP
    have hQ' : Q b s := by
      have e2 : bs.getD i false = b := by rw [List.getD_eq_getElem?_getD, e]; rfl
      have hQ2 : Q (bs.getD i false) s := hQ
      rw [e2] at hQ2; exact hQ2
    exact wpAny_of_eq (a := b) rfl hQ'
theorem uM (hc : X.calm = true) : bF X (.builtin "all") (fun xs H Q => ∃ (a : Addr) (bs : List Bool), xs = [.ref a] ∧ H a = some (.lst (bs.map V.bl)) ∧ Q (.bl (bs.all id)) H) := by
 intro pins s σ H xs us Q I r h
 obtain ⟨a, bs, rfl, hH, q⟩ := h
 obtain ⟨u, rfl, ru⟩ := eX r
 cases ru
 obtain ⟨z, its, n, rv, e⟩ := I.hok a _ hH
 have ei := oo rv
 subst ei
 have hl : s.heap.IsList a (bs.map Value.bool).toArray := ⟨_, e, rfl, _, rfl⟩
 refine call_all_walk (wpAny_pyIter_list hl ?_)
 have hne : a ≠ s.heap.objs.size := Nat.ne_of_lt (Heap.lt_size e)
 refine ⟨s.heap.objs.size, _, _, _, _, _, _, rfl, Walks.list (by show X.A.handled = none; exact I.ok.hd hc) _ a hne (bs.map Value.bool).toArray, ⟨⟨_, Heap.get?_push_size _ rfl, rfl, rfl⟩, ⟨_, Heap.get?_push_of_some _ e, rfl, _, rfl⟩⟩, nQ, fun h' tk hk => ?_⟩
 have e2 : ((bs.map Value.bool).toArray).size = bs.length := by simp
 rw [e2, rQ]
 refine ⟨.bl _, H, I.kept (t' := tk) fun b o hb => hk b o ?_ (Heap.get?_push_of_some _ hb), rfl, q⟩
 intro z
 have : b = s.heap.objs.size := by simpa using z
 rw [this] at hb
 exact absurd (Heap.lt_size hb) (Nat.lt_irrefl _)
theorem oh : ∀ {xs : List Str} {us : List Value}, aA (xs.map V.str) us → StrsAre us xs
  | [], _, .nil => .nil
  | x :: xs, _, .cons r t => by
    obtain ⟨tk, e⟩ := (show ∃ t, _ = Value.str x t from r)
    rw [e]
    exact .cons _ _ (oh t)
def me : V → List V → Hp → VK → Prop := fun x vs H Q => ∃ (z : Str) (a : Addr) (xs : List Str), x = .str z ∧ vs = [.ref a] ∧ H a = some (.lst (xs.map V.str)) ∧ (xs.map (·.length)).sum + xs.length * z.length ≤ 16777216 ∧ Q (.str (Txt.join z xs)) H
theorem oS : MtM X "str.join" me := by
 intro pins s σ H x vs v us Q I rx rv h
 obtain ⟨z, a, xs, rfl, rfl, hH, hz, q⟩ := h
 obtain ⟨t, rfl⟩ := (show ∃ t, v = Value.str z t from rx)
 obtain ⟨u, rfl, ru⟩ := rv.one
 cases ru
 obtain ⟨_, its, n, rv, e⟩ := I.hok a _ hH
 refine join_list (items := its.toArray) ⟨_, e, rfl, _, rfl⟩ (by simpa using oh rv) hz fun t' k => ⟨.str _, H, I.tok k, ⟨_, rfl⟩, q⟩
end
end L2
namespace L2
open PySem PySem.Spec PyProof.Rows
@[irreducible] def Sel (b : Bool) (A B : Prop) : Prop := if b = true then A else B
theorem Sel.mk {b : Bool} {A B : Prop} (h1 : b = true → A) (h2 : b = false → B) : Sel b A B := by
 unfold Sel
 cases b with
 | true => exact h1 rfl
 | false => exact h2 rfl
theorem Sel.t {A B : Prop} (h : A) : Sel true A B := .mk (fun _ => h) fun e => by cases e
theorem Sel.f {A B : Prop} (h : B) : Sel false A B := .mk (fun e => by cases e) fun _ => h
theorem Sel.dec {p A B : Prop} [Decidable p] (h1 : p → A) (h2 : ¬ p → B) : Sel (decide p) A B := .mk (fun e => h1 (of_decide_eq_true e)) fun e => h2 (of_decide_eq_false e)
theorem Sel.ndec {p A B : Prop} [Decidable p] (h1 : ¬ p → A) (h2 : p → B) : Sel (!decide p) A B := .mk (fun e => h1 (by simpa using e)) fun e => h2 (by simpa using e)
theorem Sel.yes {b : Bool} {A B : Prop} (e : b = true) (h : A) : Sel b A B := by rw [e]; exact .t h
theorem Sel.no {b : Bool} {A B : Prop} (e : b = false) (h : B) : Sel b A B := by rw [e]; exact .f h
theorem dM {b : Bool} {A B : Prop} (h : Sel b A B) : if b = true then A else B := by unfold Sel at h; exact h
def ac (i : Nat) : TE := fun σ H Q => match σ[i]? with | some (some v) => Q v H | _ => False
section
variable {X : Cx}
theorem PE.imp {e : Expr} {t t' : TE} (h : PE X e t) (i : ∀ σ H Q, t' σ H Q → t σ H Q) : PE X e t' := fun pins s σ H Q I q => h pins s σ H Q I (i _ _ _ q)
theorem OpR.imp {f : Value → Value → Sem Value} {r r' : R2} (h : OpR X f r) (i : ∀ x y H Q, r' x y H Q → r x y H Q) : OpR X f r' := fun pins s σ H x y v u Q I rx ry q => h pins s σ H x y v u Q I rx ry (i _ _ _ _ q)
theorem qv (i : Nat) {x : Str} {pos : Pos} (hN : X.N[i]? = some x := by rfl) (hv : Vis X.env.scope x := by first | exact Or.inl rfl | exact Or.inr (Or.inl rfl) | exact Or.inr (Or.inr rfl)) (hd : (x == ("__debug__" : Str)) = false := by decide)
   (hcd : (x == ("__classdict__" : Str)) = false := by decide) : PE X (.Name x pos) (ac i) := (yJ hN hv hd hcd).imp fun σ H Q q => by
 unfold ac at q
 split at q
 · rename_i v e; exact ⟨v, e, q⟩
 · exact q.elim
theorem qgi {x : Str} {i : Int} {pos : Pos} (hm : ∃ t, X.mg x = some (.int i t)) (hg : Gl X x := by rfl) (hd : (x == ("__debug__" : Str)) = false := by decide) : PE X (.Name x pos) (tC (.int i)) := by
 obtain ⟨t, e⟩ := hm
 exact wJ hg e ⟨t, rfl⟩ hd
def eN : R2 := fun x y H Q => match x, y with | .int i, .int j => Q (.int (i - j)) H | _, _ => False
theorem fH : OpR X (binaryOp .Sub) eN := xU.imp fun x y H Q q => by
 unfold eN at q
 split at q
 · exact ⟨_, _, rfl, rfl, q⟩
 · exact q.elim
theorem xk : OpR X (binaryOp .Mult) (rI IntMulOk fun i j => .int (i * j)) := opI fun _ _ _ _ _ _ _ hc q => mul_int q hc
def uU : R2 := fun x y H Q => match x, y with
 | .int i, .int j => IntMulOk i j ∧ Q (.int (i * j)) H
 | _, _ => False
theorem EB : OpR X (binaryOp .Mult) uU := xk.imp fun x y H Q q => by
 unfold uU at q
 split at q
 · exact ⟨_, _, rfl, rfl, q.1, q.2⟩
 · exact q.elim
def bE : R2 := fun x y H Q => match x, y with | .int i, .int j => 0 < j ∧ Q (.int (i % j)) H | _, _ => False
theorem cp : OpR X (binaryOp .Mod) bE := yh.imp fun x y H Q q => by
 unfold bE at q
 split at q
 · exact ⟨_, _, rfl, rfl, q.1, q.2⟩
 · exact q.elim
def mM : R2 := fun x y H Q => match x, y with | .int i, .int j => (0 ≤ j ∧ j ≤ 1000000 ∧ i.natAbs < 2 ^ 64) ∧ Q (.int (i ^ j.toNat)) H | _, _ => False
theorem uF : OpR X (binaryOp .Pow) mM := ya.imp fun x y H Q q => by
 unfold mM at q
 split at q
 · exact ⟨_, _, rfl, rfl, q.1, q.2⟩
 · exact q.elim
def jl : R2 := fun x y H Q => match x, y with | .int i, .int j => (0 ≤ j ∧ j ≤ 1000000 ∧ i.natAbs < 2 ^ 64) ∧ Q (.int (i * 2 ^ j.toNat)) H | _, _ => False
theorem mV : OpR X (binaryOp .LShift) jl := zq.imp fun x y H Q q => by
 unfold jl at q
 split at q
 · exact ⟨_, _, rfl, rfl, q.1, q.2⟩
 · exact q.elim
def mLt : R2 := fun x y H Q => match x, y with | .int i, .int j => Q (.bl (decide (i < j))) H | _, _ => False
theorem oLt : OpR X (compareOp .Lt) mLt := Cd.imp fun x y H Q q => by
 unfold mLt at q
 split at q
 · exact ⟨_, _, rfl, rfl, q⟩
 · exact q.elim
def mLe : R2 := fun x y H Q => match x, y with | .int i, .int j => Q (.bl (decide (i ≤ j))) H | _, _ => False
theorem oLe : OpR X (compareOp .LtE) mLe := Df.imp fun x y H Q q => by
 unfold mLe at q
 split at q
 · exact ⟨_, _, rfl, rfl, q⟩
 · exact q.elim
def mGt : R2 := fun x y H Q => match x, y with | .int i, .int j => Q (.bl (decide (j < i))) H | _, _ => False
theorem oGt : OpR X (compareOp .Gt) mGt := Ci.imp fun x y H Q q => by
 unfold mGt at q
 split at q
 · exact ⟨_, _, rfl, rfl, q⟩
 · exact q.elim
def mGe : R2 := fun x y H Q => match x, y with | .int i, .int j => Q (.bl (decide (j ≤ i))) H | _, _ => False
theorem oGe : OpR X (compareOp .GtE) mGe := BV.imp fun x y H Q q => by
 unfold mGe at q
 split at q
 · exact ⟨_, _, rfl, rfl, q⟩
 · exact q.elim
def mEq : R2 := fun x y H Q => match x, y with
 | .int i, .int j => Q (.bl (decide (i = j))) H
 | .str i, .str j => Q (.bl (decide (i = j))) H
 | .bl i, .bl j => Q (.bl (decide (i = j))) H
 | .non, .non => Q (.bl true) H
 | .non, .int _ => Q (.bl false) H | .int _, .non => Q (.bl false) H | .non, .bl _ => Q (.bl false) H | .bl _, .non => Q (.bl false) H | .non, .str _ => Q (.bl false) H | .str _, .non => Q (.bl false) H
 | .int _, .str _ => Q (.bl false) H | .str _, .int _ => Q (.bl false) H | .bl _, .str _ => Q (.bl false) H | .str _, .bl _ => Q (.bl false) H
 | _, _ => False
theorem im {α : Type} [DecidableEq α] {f : α → V} (hf : ∀ a b, f a = f b → a = b) (a b : α) : decide (f a = f b) = decide (a = b) := by
 by_cases h : a = b
 · subst h; simp
 · rw [decide_eq_false h, decide_eq_false fun e => h (hf a b e)]
theorem oEq : OpR X (compareOp .Eq) mEq := Dd.imp fun x y H Q q => by
 unfold mEq at q
 split at q
 · exact ⟨rfl, by rw [im (f := V.int) fun _ _ e => V.int.inj e]; exact q⟩
 · exact ⟨rfl, by rw [im (f := V.str) fun _ _ e => V.str.inj e]; exact q⟩
 · exact ⟨rfl, by rw [im (f := V.bl) fun _ _ e => V.bl.inj e]; exact q⟩
 · exact ⟨rfl, by simpa using q⟩
 all_goals first | exact q.elim | exact ⟨rfl, q⟩
def mNe : R2 := fun x y H Q => match x, y with
 | .int i, .int j => Q (.bl (!decide (i = j))) H
 | .str i, .str j => Q (.bl (!decide (i = j))) H
 | .bl i, .bl j => Q (.bl (!decide (i = j))) H
 | .non, .non => Q (.bl false) H
 | .non, .int _ => Q (.bl true) H | .int _, .non => Q (.bl true) H | .non, .bl _ => Q (.bl true) H | .bl _, .non => Q (.bl true) H | .non, .str _ => Q (.bl true) H | .str _, .non => Q (.bl true) H
 | .int _, .str _ => Q (.bl true) H | .str _, .int _ => Q (.bl true) H | .bl _, .str _ => Q (.bl true) H | .str _, .bl _ => Q (.bl true) H
 | _, _ => False
theorem oNe : OpR X (compareOp .NotEq) mNe := Bs.imp fun x y H Q q => by
 unfold mNe at q
 split at q
 · exact ⟨rfl, by rw [im (f := V.int) fun _ _ e => V.int.inj e]; exact q⟩
 · exact ⟨rfl, by rw [im (f := V.str) fun _ _ e => V.str.inj e]; exact q⟩
 · exact ⟨rfl, by rw [im (f := V.bl) fun _ _ e => V.bl.inj e]; exact q⟩
 · exact ⟨rfl, by simpa using q⟩
 all_goals first | exact q.elim | exact ⟨rfl, q⟩
def vj : R2 := fun x y H Q => match y with | .non => Q (.bl (match x with | .non => true | _ => false)) H | _ => False
theorem oIs : OpR X (compareOp .Is) vj := yy.imp fun x y H Q q => by
 unfold vj at q
 split at q
 · refine ⟨rfl, ?_⟩
   cases x <;> simpa using q
 · exact q.elim
def pG : R2 := fun x y H Q => match y with | .non => Q (.bl (match x with | .non => false | _ => true)) H | _ => False
theorem yj : OpR X (compareOp .IsNot) pG := wy.imp fun x y H Q q => by
 unfold pG at q
 split at q
 · refine ⟨rfl, ?_⟩
   cases x <;> simpa using q
 · exact q.elim
def aE (t : TE) : TT := fun σ H Q => t σ H fun x H' => match x with | .bl k => Q k H' | _ => False
theorem qtc {op : CmpOp} {r : R2} {a b : Expr} {ta tb : TE} {pos : Pos} (ho : OpR X (compareOp op) r) (ha : PE X a ta) (hb : PE X b tb) (hm : behindInMarks op b = false := by first | exact jJ _ | rfl) : PT X (.Compare a [op] [b] pos) (aE (tOp r ta tb)) := by
 intro pins s σ H Q I h
 refine wpAny_isTrue_Compare1 (thn (ha pins s σ H _ I h) fun v s1 ⟨x, H1, I1, r1, q1⟩ => thn (hb pins s1 σ H1 _ I1 q1) fun u s2 ⟨y, H2, I2, r2, q2⟩ =>
  thn (ho pins s2 σ H2 x y v u _ I2 r1 r2 q2) fun c s3 ⟨z, H3, I3, r3, q3⟩ => ?_) hm
 cases z <;> first | exact q3.elim | (cases r3; exact wpAny_truthy_bool ⟨H3, I3, q3⟩)
theorem qc {op : CmpOp} {r : R2} {a b : Expr} {ta tb : TE} {pos : Pos} (ho : OpR X (compareOp op) r) (ha : PE X a ta) (hb : PE X b tb) (hm : behindInMarks op b = false := by first | exact jJ _ | rfl) : PE X (.Compare a [op] [b] pos) (tOp r ta tb) := wP ho ha hb hm
def eL (r r' : R2) (ta tb tc : TE) : TE := fun σ H Q => ta σ H fun x H1 => tb σ H1 fun y H2 => r x y H2 fun z H3 => match z with
 | .bl k => Sel k (tc σ H3 fun w' H4 => r' y w' H4 Q) (Q (.bl false) H3)
 | _ => False
theorem qch {op op' : CmpOp} {r r' : R2} {a b c : Expr} {ta tb tc : TE} {pos : Pos} (ho : OpR X (compareOp op) r) (ho' : OpR X (compareOp op') r') (ha : PE X a ta) (hb : PE X b tb) (hc : PE X c tc)
  (hm : lastMarks [op, op'] [b, c] = false := by with_unfolding_all rfl) : PE X (.Compare a [op, op'] [b, c] pos) (eL r r' ta tb tc) := by
 intro pins s σ H Q I h
 refine Compare_chain (thn (ha pins s σ H _ I h) fun v s1 ⟨x, H1, I1, r1, q1⟩ => chain_link (thn (hb pins s1 σ H1 _ I1 q1) fun u s2 ⟨y, H2, I2, r2, q2⟩ =>
  thn (ho pins s2 σ H2 x y v u _ I2 r1 r2 q2) fun d s3 ⟨z, H3, I3, r3, q3⟩ => ?_)) hm
 cases z <;> first | exact q3.elim | skip
 rename_i k
 cases r3
 refine wpAny_truthy_bool ?_
 have q3 := dM q3
 cases k with
 | false => exact ite_ff ⟨.bl false, H3, I3, rfl, q3⟩
 | true => exact ite_tt (chain_last (thn (hc pins s3 σ H3 _ I3 q3) fun w' s4 ⟨z', H4, I4, r4, q4⟩ => ho' pins s4 σ H4 y z' u w' Q I4 r2 r4 q4))
theorem DG {op op' : CmpOp} {r r' : R2} {a b c : Expr} {ta tb tc : TE} {pos : Pos} (ho : OpR X (compareOp op) r) (ho' : OpR X (compareOp op') r') (ha : PE X a ta) (hb : PE X b tb) (hc : PE X c tc)
    (hm : lastMarks [op, op'] [b, c] = false := by with_unfolding_all rfl) : PT X (.Compare a [op, op'] [b, c] pos) (aE (eL r r' ta tb tc)) := by
  intro pins s σ H Q I h
  refine isTrue_chain (thn (ha pins s σ H _ I h) fun v s1 ⟨x, H1, I1, r1, q1⟩ => test_link (thn (hb pins s1 σ H1 _ I1 q1) fun u s2 ⟨y, H2, I2, r2, q2⟩ =>
    thn (ho pins s2 σ H2 x y v u _ I2 r1 r2 q2) fun d s3 ⟨z, H3, I3, r3, q3⟩ => ?_)) hm
  cases z <;> first | exact q3.elim | skip
  rename_i k
  cases r3
  refine wpAny_truthy_bool ?_
  have q3 := dM q3
  cases k with
  | false => exact ite_ff ⟨H3, I3, q3⟩
  | true =>
    refine ite_tt (test_last (thn (hc pins s3 σ H3 _ I3 q3) fun w' s4 ⟨z', H4, I4, r4, q4⟩ => thn (ho' pins s4 σ H4 y z' u w' _ I4 r2 r4 q4) fun d' s5 ⟨z2, H5, I5, r5, q5⟩ => ?_))
    cases z2 <;> first | exact q5.elim | (cases r5; exact wpAny_truthy_bool ⟨H5, I5, q5⟩)
def cn (K : W.Frag) (t : TE) : TT := fun σ H Q => t σ H fun x H' => match x with
 | .bl k => Q k H'
 | .non => Q false H'
 | .int i => Q (i != 0) H'
 | x => ∃ k, xQ K x H' k ∧ Q k H'
theorem qtb {e : Expr} {t : TE} (h : PE X e t) (he : ∀ whole, isTrue e X.env whole = (do let v ← whole; standAt e.pos; holding [v] (truthy v)) := by intro _; rfl) : PT X e (cn X.K t) := by
 intro pins s σ H Q I q
 refine isTrue_plain (thn (h pins s σ H _ I q) fun v s1 ⟨x, H1, I1, r1, q1⟩ => yF pins s1 σ H1 x v Q I1 r1 ?_) (he _)
 cases x <;> first | exact ⟨_, rfl, q1⟩ | exact q1
def kr (t u : TT) : TT := fun σ H Q => t σ H fun c H1 => Sel c (u σ H1 Q) (Q false H1)
def mOr (t u : TT) : TT := fun σ H Q => t σ H fun c H1 => Sel c (Q true H1) (u σ H1 Q)
variable {a b c : Expr} {ta tb : TE} {tA tB' : TT} {bP : List Expr} {pos : Pos}
theorem xL (ha : PT X a tA) : PW X (.BoolOp .And [a] pos) tA := xK ha
theorem yC (ha : PT X a tA) : PW X (.BoolOp .Or [a] pos) tA := xR ha
theorem zv (ha : PT X a tA) (hb : PW X (.BoolOp .And (b :: bP) pos) tB') : PW X (.BoolOp .And (a :: b :: bP) pos) (kr tA tB') := by
 intro wh pins s σ H Q I h
 refine isTrue_and (thn (ha pins s σ H _ I h) fun c s1 ⟨H1, I1, q1⟩ => ?_)
 have q1 := dM q1
 cases c with
 | true => exact hb wh pins s1 σ H1 Q I1 q1
 | false => exact ⟨H1, I1, q1⟩
theorem CP (ha : PT X a tA) (hb : PW X (.BoolOp .Or (b :: bP) pos) tB') : PW X (.BoolOp .Or (a :: b :: bP) pos) (mOr tA tB') := by
 intro wh pins s σ H Q I h
 refine isTrue_or (thn (ha pins s σ H _ I h) fun c s1 ⟨H1, I1, q1⟩ => ?_)
 have q1 := dM q1
 cases c with
 | true => exact ⟨H1, I1, q1⟩
 | false => exact hb wh pins s1 σ H1 Q I1 q1
def cL (ta tb : TE) : TE := fun σ H Q => ta σ H fun x H1 => match x with | .bl c => Sel c (tb σ H1 Q) (Q (.bl false) H1) | _ => False
def qH (ta : TE) : TE := fun σ H Q => ta σ H fun x H1 => match x with | .bl c => Q (.bl (!c)) H1 | _ => False
theorem DP (ha : PE X a ta) (hb : PE X (.BoolOp .And (b :: bP) pos) tb) : PE X (.BoolOp .And (a :: b :: bP) pos) (cL ta tb) := by
 intro pins s σ H Q I h
 refine BoolOp_and (thn (ha pins s σ H _ I h) fun v s1 ⟨x, H1, I1, r1, q1⟩ => ?_)
 cases x <;> first | exact q1.elim | skip
 rename_i c
 cases r1
 refine wpAny_truthy_bool ?_
 have q1 := dM q1
 cases c with
 | true => exact hb pins s1 σ H1 Q I1 q1
 | false => exact ⟨.bl false, H1, I1, rfl, q1⟩
theorem CJ (ha : PE X a ta) : PE X (.UnaryOp .Not a pos) (qH ta) := by
 intro pins s σ H Q I h
 refine UnaryOp_ (thn (ha pins s σ H _ I h) fun v s1 ⟨x, H1, I1, r1, q1⟩ => ?_)
 cases x <;> first | exact q1.elim | skip
 rename_i c
 cases r1
 exact not_of (wpAny_truthy_bool ⟨.bl (!c), H1, I1, rfl, q1⟩)
def mIf (t : TT) (ta tb : TE) : TE := fun σ H Q => t σ H fun c H1 => Sel c (ta σ H1 Q) (tb σ H1 Q)
theorem DY {c : Expr} (hc : PT X c tA) (ha : PE X a ta) (hb : PE X b tb) : PE X (.IfExp c a b pos) (mIf tA ta tb) := by
 intro pins s σ H Q I h
 refine wpAny_IfExp (thn (hc pins s σ H _ I h) fun d s1 ⟨H1, I1, q1⟩ => ?_)
 have q1 := dM q1
 cases d with
 | true => exact ha pins s1 σ H1 Q I1 q1
 | false => exact hb pins s1 σ H1 Q I1 q1
def aR (c : TT) (t u : TS) : TS := fun D σ H => c σ H fun b H1 => Sel b (t D σ H1) (u D σ H1)
theorem qif {c : Expr} {l m : List Stmt} {tc : TT} {t u : TS} (hc : PT X c tc) (ha : PSs X l t) (hb : PSs X m u) : PS X (.If c l m pos) (aR tc t u) := by
 intro pins s σ H D I h
 refine wpAny_If (thn (hc pins s σ H _ I h) fun d s1 ⟨H1, I1, q1⟩ => ?_)
 have q1 := dM q1
 cases d with
 | true => exact ha pins s1 σ H1 D I1 q1
 | false => exact hb pins s1 σ H1 D I1 q1
theorem En : bF X (.builtin "len") (fun xs H Q => match xs with
   | [.str y] => y.length ≤ sizeLine ∧ Q (.int y.length) H
   | [.ref p] => (∃ xs, SqL X.K H p xs ∧ Q (.int xs.length) H) ∨ (∃ xs, SqT X.K H p xs ∧ Q (.int xs.length) H) ∨ ∃ kvs, H p = some (.dK kvs) ∧ Q (.int kvs.length) H
   | _ => False) := by
 intro pins s σ H xs us Q I r h
 split at h
 · rename_i y
   exact jv pins s σ H _ us Q I r ⟨_, _, rfl, ⟨h.1, rfl⟩, h.2⟩
 · rename_i p
   rcases h with ⟨ys, h1, h2⟩ | ⟨ys, h1, h2⟩ | ⟨kvs, h1, h2⟩
   · exact jv pins s σ H _ us Q I r ⟨_, _, rfl, .inl ⟨ys, h1, rfl⟩, h2⟩
   · exact jv pins s σ H _ us Q I r ⟨_, _, rfl, .inr ⟨ys, h1, rfl⟩, h2⟩
   · exact rY pins s σ H _ us Q I r ⟨p, kvs, rfl, h1, h2⟩
 · exact h.elim
end
end L2
namespace L2
open PySem PySem.Spec PyProof.Rows
section
variable {X : Cx} {tg : Expr}
def du : V → Hp → VK → Prop := fun x H Q => match x with | .int i => Q (.int (-i)) H | _ => False
theorem DJ : UnR X (unaryOp .USub) du := fun pins s σ H x v Q I rx q => yR pins s σ H x v Q I rx (by
 unfold du at q
 split at q
 · exact ⟨_, rfl, q⟩
 · exact q.elim)
def zg (K : W.Frag) : List V → Hp → VK → Prop := fun xs H Q => match xs with
 | [.str y] => y.length ≤ sizeLine ∧ Q (.int y.length) H
 | [.ref p] => (∃ xs, SqL K H p xs ∧ Q (.int xs.length) H) ∨ (∃ xs, SqT K H p xs ∧ Q (.int xs.length) H) ∨ ∃ kvs, H p = some (.dK kvs) ∧ Q (.int kvs.length) H
 | _ => False
theorem Ei : bF X (.builtin "len") (zg X.K) := En
def cT : List V → Hp → VK → Prop := fun xs H Q => match xs with
 | [x, .ty T] => T ∈ ["int", "bool", "str", "tuple", "list", "dict"] ∧ ∃ t, tyN H x = some t ∧ Q (.bl (isI t T)) H
 | _ => False
theorem dG : bF X (.builtin "isinstance") cT := fun pins s σ H xs us Q I r h => by
 unfold cT at h
 split at h
 · obtain ⟨h1, t, h2, h3⟩ := h
   exact uE pins s σ H _ us Q I r ⟨_, _, t, rfl, h1, h2, h3⟩
 · exact h.elim
def vf : List V → Hp → VK → Prop := fun xs H Q => ∃ (a : Addr) (bs : List Bool), xs = [.ref a] ∧ H a = some (.lst (bs.map V.bl)) ∧ Q (.bl (bs.all id)) H
theorem Ag (hc : X.calm = true) : bF X (.builtin "all") vf := uM hc
def sO (K : W.Frag) : List V → Hp → VK → Prop := fun xs H Q => ∃ p ys, xs = [.ref p] ∧ ((SqL K H p ys ∧ ∀ l, H l = none → Q (.ref l) (upd H l (.tup ys))) ∨ (SqT K H p ys ∧ Q (.ref p) H))
theorem zT : bF X (.type "tuple") (sO X.K) := lB
end
end L2
namespace L2
open PySem PySem.Spec PyProof.Rows
theorem sx : bootBuiltins "all" = some (.builtin "all") := by decide +kernel
structure cG (J : It) (n : Nat) (it : Nat → V) (Pv : Hp → Prop) : Prop where
 go : ∀ i H, i < n → Pv H → J.go i H
 yld : ∀ i H x H', i < n → Pv H → J.yld i H x H' → H' = H ∧ x = it i
 stop : ∀ H, Pv H → J.stop n H
theorem cG.tuple {K : W.Frag} {a : Addr} {xs : List V} (d : V) : cG (Itt K a) xs.length (fun i => xs.getD i d) (fun H => SqT K H a xs) where
 go := fun i H hi h => ⟨xs, xs[i], h, by simp [hi]⟩
 yld := fun i H x H' hi h y => ⟨y.1, by have := y.2 xs h; rw [List.getD_eq_getElem?_getD, this]; rfl⟩
 stop := fun H h => ⟨xs, h, Nat.le_refl _⟩
theorem cG.range {lo : Int} {n : Nat} : cG (Itr lo n) n (fun i => .int (lo + i)) (fun _ => True) where
 go := fun i H hi _ => hi
 yld := fun i H x H' hi _ y => y
 stop := fun H _ => Nat.le_refl _
def CWd (n : Nat) (Pv : Nat → List V → Hp → Prop) : Nat → Nat → List V → Hp → Prop := fun i m ys H => i ≤ n ∧ m = n - i ∧ Pv i ys H
theorem CWd.next {n i : Nat} {Pv : Nat → List V → Hp → Prop} {ys : List V} {H : Hp} (hi : i < n) (h : Pv (i + 1) ys H) : ∃ m', m' < n - i ∧ CWd n Pv (i + 1) m' ys H := ⟨n - (i + 1), by omega, hi, rfl, h⟩
theorem fe {J : It} {n : Nat} {it : Nat → V} {Pk : Hp → Prop} {σ : St} {is : List Nat} {tc : TT} {te : TE} {Q : VK} {H1 : Hp} {D : Addr} (T : cG J n it Pk) (Pv : Nat → List V → Hp → Prop)
   (hk : ∀ i ys H, i ≤ n → Pv i ys H → Pk H) (h0 : Pv 0 [] (upd H1 D (.lst [])))
   (hs : ∀ i ys H2, i < n → Pv i ys H2 → tc (some (it i) :: bj σ is) H2 fun b H4 => if b = true then
    te (some (it i) :: bj σ is) H4 fun y H5 => H5 D = some (.lst ys) ∧ ys.length < sizeLine ∧ ∃ m', m' < n - i ∧ CWd n Pv (i + 1) m' (ys ++ [y]) (upd H5 D (.lst (ys ++ [y])))
    else ∃ m', m' < n - i ∧ CWd n Pv (i + 1) m' ys H4)
   (hd : ∀ ys H, Pv n ys H → Q (.ref D) H) : vY is tc te σ D J H1 Q := by
 refine ⟨CWd n Pv, ⟨n, Nat.zero_le _, rfl, h0⟩, ?_⟩
 rintro i m ys H2 ⟨hi, rfl, p⟩
 by_cases hlt : i < n
 · refine .inr ⟨T.go i H2 hlt (hk i ys H2 hi p), fun x H3 y => ?_⟩
   obtain ⟨rfl, rfl⟩ := T.yld i H2 x H3 hlt (hk i ys H2 hi p) y
   exact hs i ys _ hlt p
 · have e : i = n := by omega
   subst e
   exact .inl ⟨T.stop H2 (hk _ ys H2 hi p), hd ys H2 p⟩
theorem au.upd {H : Hp} {p : Addr} {o : HO} (h : H p = none) : au H (upd H p o) := fun b u e => by rw [aj (aq e h)]; exact e
theorem si {xs : List V} {i : Int} (h0 : 0 ≤ i) (h1 : i < xs.length) : atI xs i = some (xs.getD i.toNat .non) := by
 unfold atI ixN
 rw [if_pos h0, if_pos h1]
 show xs[i.toNat]? = _
 rw [List.getD_eq_getElem?_getD]
 have : i.toNat < xs.length := by omega
 rw [List.getElem?_eq_getElem this]; rfl
end L2
namespace L2
open PySem PySem.Spec PyProof.Rows
def bv : Expr → Bool
 | .Starred _ _ => false
 | _ => true
theorem aV {e : Expr} (h : bv e = true) (bP : List Expr) (env : Env) : starEach (e :: bP) env = (false, eval e env) :: starEach bP env := by
 cases e <;> first | rfl | cases h
def aW : List Expr → Bool
 | [] => true
 | e :: r => bv e && aW r
theorem bo : ∀ {es : List Expr} {env : Env} {pos : Pos}, aW es = true → (backTo pos (starEach es env)).any (·.1) = false
  | [], _, _, _ => rfl
  | e :: r, env, pos, h => by
    have h : (bv e && aW r) = true := h
    rw [Bool.and_eq_true] at h
    rw [aV h.1]
    show (false || (backTo pos (starEach r env)).any (·.1)) = false
    rw [bo h.2]; rfl
section
variable {X : Cx} {e : Expr} {es : List Expr} {te : TE} {t : TA} {pos : Pos}
theorem wR (ha : PE X e te) (hr : PA X es t) (hs : bv e = true := by rfl) : PA X (e :: es) (ad te t) := xg ha hr (aV hs es X.env)
variable {x : Str} {p apos cpos : Pos} {id T : String} {r : List V → Hp → VK → Prop}
theorem xy (hc : bF X (.builtin id) r) (hg : Gl X x) (hm : X.mg x = none) (hv : bootBuiltins x = some (.builtin id)) (ha : PA X (e :: es) t) (hn : x ≠ "__name__" := by decide) (hdb : (x == ("__debug__" : Str)) = false := by decide)
  (hs : aW (e :: es) = true := by rfl) : PE X (.Call (.Name x p) (e :: es) [] pos) (tCB r t) :=
 have h : (bv e && aW es) = true := hs
 sW hc hg hm hv ha hn hdb (aV (Bool.and_eq_true_iff.mp h).1 es X.env) (bo (Bool.and_eq_true_iff.mp h).2)
theorem vz (hc : bF X (.type T) r) (hg : Gl X x) (hm : X.mg x = none) (hv : bootBuiltins x = some (.type T)) (ha : PA X (e :: es) t) (hn : x ≠ "__name__" := by decide) (hdb : (x == ("__debug__" : Str)) = false := by decide)
  (hs : aW (e :: es) = true := by rfl) : PE X (.Call (.Name x p) (e :: es) [] pos) (tCB r t) :=
 have h : (bv e && aW es) = true := hs
 rC hc hg hm hv ha hn hdb (aV (Bool.and_eq_true_iff.mp h).1 es X.env) (bo (Bool.and_eq_true_iff.mp h).2)
variable {CX : CXT} {k : Nat} {f C : Addr} {fd : FuncData} {ps : List Str} {sp : Sp} {dvs : List V} {ds : List Value} {E : XK} {m : Str} {o : Expr} {ta : TE}
theorem ja : ∀ {es : List Expr} {env : Env} {pos : Pos}, aW es = true → (backTo pos (starEach es env)).all (fun x => !x.1) = true
  | [], _, _, _ => rfl
  | e :: r, env, pos, h => by
    have h : (bv e && aW r) = true := h
    rw [Bool.and_eq_true] at h
    rw [aV h.1]
    show (true && (backTo pos (starEach r env)).all (fun x => !x.1)) = true
    rw [ja h.2]; rfl
variable {to : TE} {name : Str} {rm : V → List V → Hp → VK → Prop}
theorem Dl (pa : PlainAttrs T) (slot : Slot T name id) (hty : typeOf (.builtin id) = pure (.type "method_descriptor")) (hm : MtR X id rm) (ho : PE X o to) (ha : PA X (e :: es) t)
  (hbase : attributeBase o name X.env (eval o X.env) = eval o X.env := by rfl) (hfew : decide ((e :: es).length < 30) = true := by rfl)
  (hline : (apos.endLine == cpos.line) = true := by rfl) (hs : aW (e :: es) = true := by rfl) : PE X (.Call (.Attribute o name apos) (e :: es) [] cpos) (tBM X.K T rm to t) :=
 have h : (bv e && aW es) = true := hs
 Bb pa slot hty hm ho ha hbase (by rw [ja hs]; exact hfew) hline (aV (Bool.and_eq_true_iff.mp h).1 es X.env) (bo (Bool.and_eq_true_iff.mp h).2)
end
end L2
namespace L2
open PySem PySem.Spec PyProof.Rows
structure QE (X : Cx) (e : Expr) (t : TE) : Prop where
 out : PE X e t
structure QT (X : Cx) (e : Expr) (t : TT) : Prop where
 out : PT X e t
structure QW (X : Cx) (e : Expr) (t : TT) : Prop where
 out : PW X e t
structure QA (X : Cx) (e : List Expr) (t : TA) : Prop where
 out : PA X e t
structure QS (X : Cx) (e : Stmt) (t : TS) : Prop where
 out : PS X e t
structure QSs (X : Cx) (e : List Stmt) (t : TS) : Prop where
 out : PSs X e t
structure QI (X : Cx) (tg iter : Expr) (t : TI) : Prop where
 out : PI X tg iter t
structure QO (X : Cx) (e : Option Expr) (t : TO) : Prop where
 out : PO X e t
structure qa (X : Cx) (e : List Expr) (t : TT) : Prop where
 out : pB X e t
section
variable {X : Cx} {a b c e o : Expr} {es bP : List Expr} {ta tb tc te to tv : TE} {tA tB' : TT} {t : TA} {pos apos cpos p : Pos} {x y : Str}
theorem aa (i : Nat) (hN : X.N[i]? = some x := by rfl) (hv : Vis X.env.scope x := by first | exact Or.inl rfl | exact Or.inr (Or.inl rfl) | exact Or.inr (Or.inr rfl)) (hd : (x == ("__debug__" : Str)) = false := by decide)
 (hcd : (x == ("__classdict__" : Str)) = false := by decide) : QE X (.Name x pos) (ac i) := ⟨qv i hN hv hd hcd⟩
theorem DC {i : Int} (hm : ∃ t, X.mg x = some (.int i t)) (hg : Gl X x := by rfl) (hd : (x == ("__debug__" : Str)) = false := by decide) : QE X (.Name x pos) (tC (.int i)) := ⟨qgi hm hg hd⟩
theorem dD {T : String} (hm : X.mg x = none) (hv : bootBuiltins x = some (.type T)) (hg : Gl X x := by rfl) (hn : x ≠ "__name__" := by decide) (hd : (x == ("__debug__" : Str)) = false := by decide) : QE X (.Name x pos) (tC (.ty T)) := ⟨xD hg hm hv rfl hn hd⟩
theorem ak {i : Int} {j} : QE X (.Constant (.int i) j pos) (tC (.int i)) := ⟨yY⟩
theorem dm {b : Bool} {j} : QE X (.Constant (.bool b) j pos) (tC (.bl b)) := ⟨AJ⟩
theorem jP {j} : QE X (.Constant .none j pos) (tC .non) := ⟨zY⟩
theorem bM {z : Str} {j} : QE X (.Constant (.str z) j pos) (tC (.str z)) := ⟨Ao⟩
theorem dN (ha : QE X a ta) : QE X (.UnaryOp .USub a pos) (tUn du ta) := ⟨CW DJ ha.out⟩
theorem CZ (ha : QE X a ta) : QE X (.UnaryOp .Not a pos) (qH ta) := ⟨CJ ha.out⟩
theorem ax {op : Operator} {r : R2} (ho : OpR X (binaryOp op) r) (ha : QE X a ta) (hb : QE X b tb) : QE X (.BinOp a op b pos) (tOp r ta tb) := ⟨AL ho ha.out hb.out⟩
theorem fE {op : CmpOp} {r : R2} (ho : OpR X (compareOp op) r) (ha : QE X a ta) (hb : QE X b tb) (hm : behindInMarks op b = false := by first | exact jJ _ | rfl) : QE X (.Compare a [op] [b] pos) (tOp r ta tb) := ⟨qc ho ha.out hb.out hm⟩
theorem kB {op op' : CmpOp} {r r' : R2} (ho : OpR X (compareOp op) r) (ho' : OpR X (compareOp op') r') (ha : QE X a ta) (hb : QE X b tb) (hc : QE X c tc) (hm : lastMarks [op, op'] [b, c] = false := by with_unfolding_all rfl) :
 QE X (.Compare a [op, op'] [b, c] pos) (eL r r' ta tb tc) := ⟨qch ho ho' ha.out hb.out hc.out hm⟩
theorem fF {op} (h : QE X a ta) : QE X (.BoolOp op [a] pos) ta := ⟨xT h.out⟩
theorem dC (ha : QE X a ta) (hb : QE X (.BoolOp .And (b :: bP) pos) tb) : QE X (.BoolOp .And (a :: b :: bP) pos) (cL ta tb) := ⟨DP ha.out hb.out⟩
theorem El (hc : QT X c tA) (ha : QE X a ta) (hb : QE X b tb) : QE X (.IfExp c a b pos) (mIf tA ta tb) := ⟨DY hc.out ha.out hb.out⟩
theorem af : QA X [] ag := ⟨xS⟩
theorem ae (ha : QE X e te) (hr : QA X es t) (hs : bv e = true := by rfl) : QA X (e :: es) (ad te t) := ⟨wR ha.out hr.out hs⟩
theorem iK (h : QA X es t) : QE X (.List es pos) (io t) := ⟨zQ h.out⟩
theorem bC {x1} (h : QA X es t) : QE X (.Tuple es x1 pos) (bw t) := ⟨zK h.out⟩
theorem bg {r : R2} (hr : IxR X r) (ha : QE X a ta) (hb : QE X b tb) (hs : oV b) : QE X (.Subscript a b pos) (tOp r ta tb) := ⟨AQ hr ha.out hb.out hs⟩
theorem fY : QO X none dh := ⟨xI⟩
theorem fU (h : QE X e te) : QO X (some e) (eY te) := ⟨wL h.out⟩
theorem gj {r : V → Option Int → Option Int → Hp → VK → Prop} {lo hi : Option Expr} {tl th : TO} {p2 : Pos} (hr : SlR X r) (he : QE X e te) (hl : QO X lo tl) (hu : QO X hi th) : QE X (.Subscript e (.Slice lo hi none p2) pos) (tSl r te tl th) := ⟨uV hr he.out hl.out hu.out⟩
variable {id T : String} {r : List V → Hp → VK → Prop}
theorem aI (hc : bF X (.builtin id) r) (hm : X.mg x = none) (hv : bootBuiltins x = some (.builtin id)) (ha : QA X (e :: es) t) (hg : Gl X x := by rfl) (hn : x ≠ "__name__" := by decide) (hdb : (x == ("__debug__" : Str)) = false := by decide)
 (hs : aW (e :: es) = true := by rfl) : QE X (.Call (.Name x p) (e :: es) [] pos) (tCB r t) := ⟨xy hc hg hm hv ha.out hn hdb hs⟩
theorem ju (hc : bF X (.type T) r) (hm : X.mg x = none) (hv : bootBuiltins x = some (.type T)) (ha : QA X (e :: es) t) (hg : Gl X x := by rfl) (hn : x ≠ "__name__" := by decide) (hdb : (x == ("__debug__" : Str)) = false := by decide)
 (hs : aW (e :: es) = true := by rfl) : QE X (.Call (.Name x p) (e :: es) [] pos) (tCB r t) := ⟨vz hc hg hm hv ha.out hn hdb hs⟩
variable {CX : CXT} {k : Nat} {f C : Addr} {fd : FuncData} {ps : List Str} {sp : Sp} {dvs : List V} {ds : List Value} {E : XK} {m : Str}
variable {name : Str} {rm : V → List V → Hp → VK → Prop}
theorem eD (pa : PlainAttrs T) (slot : Slot T name id) (hty : typeOf (.builtin id) = pure (.type "method_descriptor")) (hm : MtR X id rm) (ho : QE X o to) (ha : QA X (e :: es) t)
 (hbase : attributeBase o name X.env (eval o X.env) = eval o X.env := by rfl) (hfew : decide ((e :: es).length < 30) = true := by rfl)
 (hline : (apos.endLine == cpos.line) = true := by rfl) (hs : aW (e :: es) = true := by rfl) : QE X (.Call (.Attribute o name apos) (e :: es) [] cpos) (tBM X.K T rm to t) := ⟨Dl pa slot hty hm ho.out ha.out hbase hfew hline hs⟩
theorem aH {op : CmpOp} {r : R2} (ho : OpR X (compareOp op) r) (ha : QE X a ta) (hb : QE X b tb) (hm : behindInMarks op b = false := by first | exact jJ _ | rfl) : QT X (.Compare a [op] [b] pos) (aE (tOp r ta tb)) := ⟨qtc ho ha.out hb.out hm⟩
theorem vp {op op' : CmpOp} {r r' : R2} (ho : OpR X (compareOp op) r) (ho' : OpR X (compareOp op') r') (ha : QE X a ta) (hb : QE X b tb) (hc : QE X c tc) (hm : lastMarks [op, op'] [b, c] = false := by with_unfolding_all rfl) :
 QT X (.Compare a [op, op'] [b, c] pos) (aE (eL r r' ta tb tc)) := ⟨DG ho ho' ha.out hb.out hc.out hm⟩
theorem bB (h : QE X e te) (he : ∀ whole, isTrue e X.env whole = (do let v ← whole; standAt e.pos; holding [v] (truthy v)) := by intro _; rfl) : QT X e (cn X.K te) := ⟨qtb h.out he⟩
theorem cB (ha : QT X a tA) : QT X (.UnaryOp .Not a pos) (cS tA) := ⟨xO ha.out⟩
theorem x_w (h : QW X e tA) : QT X e tA := ⟨h.out.pt⟩
theorem kq (ha : QT X a tA) : QW X (.BoolOp .And [a] pos) tA := ⟨xL ha.out⟩
theorem fo (ha : QT X a tA) : QW X (.BoolOp .Or [a] pos) tA := ⟨yC ha.out⟩
theorem nw (ha : QT X a tA) (hb : QW X (.BoolOp .And (b :: bP) pos) tB') : QW X (.BoolOp .And (a :: b :: bP) pos) (kr tA tB') := ⟨zv ha.out hb.out⟩
theorem eS (ha : QT X a tA) (hb : QW X (.BoolOp .Or (b :: bP) pos) tB') : QW X (.BoolOp .Or (a :: b :: bP) pos) (mOr tA tB') := ⟨CP ha.out hb.out⟩
variable {tg iter elt : Expr} {wi : TI} {ifs : List Expr} {scope : Scope} {ys : List Str} {is : List Nat} {px py spos : Pos}
theorem jo (hm : X.mg "range" = none) (ha : QA X [a] t) (hg : Gl X "range" := by rfl) (hs : bv a = true := by rfl) : QI X tg (.Call (.Name "range" p) [a] [] pos) (iM t) := ⟨sj hg hm ha.out (aV hs [] X.env)⟩
theorem gY : qa X [] (fun _ H Q => Q true H) := ⟨rfl⟩
theorem wK (h : QT X c tA) : qa X [c] tA := ⟨h.out⟩
theorem iC {tcn : TT} (S : dJ scope x ys) (hcap : eO X scope ys is) (hi : QI X (.Name x px) iter wi)
 (hif : ∀ C s H fp, qa (bf X scope C (x :: ys) s H fp) ifs tcn) (he : ∀ C s H fp, QE (bf X scope C (x :: ys) s H fp) elt te) (hc : X.calm = true := by rfl)
 (hs : ∀ x, foldedSetIterable iter X.env x = pure x := by intro _; rfl) : QE X (.ListComp elt [⟨.Name x px, iter, ifs, 0⟩] scope pos) (dS is wi tcn te) := ⟨xc hc S hcap hi.out (fun C s H fp => (hif C s H fp).out) (fun C s H fp => (he C s H fp).out) hs⟩
variable {st : Stmt} {sts : List Stmt} {tS uS : TS} {i j : Nat}
theorem aJ : QSs X [] aG := ⟨xt⟩
theorem ap (h : QS X st tS) : QSs X [st] tS := ⟨wY h.out⟩
theorem ao (h1 : QS X st tS) (h2 : QSs X sts uS) : QSs X (st :: sts) (av tS uS) := ⟨uB h1.out h2.out⟩
theorem ay (h : QE X e te) : QS X (.Return (some e) pos) (aB te) := ⟨zf h.out⟩
theorem aP {l m : List Stmt} (hc : QT X c tA) (ha : QSs X l tS) (hb : QSs X m uS) : QS X (.If c l m pos) (aR tA tS uS) := ⟨qif hc.out ha.out hb.out⟩
theorem aK (i : Nat) (hN : X.N.Nodup) (he : QE X e te) (hi : X.N[i]? = some x := by rfl) (hx : Loc X.env.scope x := by first | exact .inl rfl | exact .inr rfl)
 (hs : swapsWith e (some (.Name x p)) pos.line X.env = pure false := by rfl) (hf : X.fn x = true ∨ X.env.scope.names.lookup x = some .local := by first | exact .inl rfl | exact .inr rfl) : QS X (.Assign [.Name x p] e pos) (aF te (aw i)) := ⟨ym hN hi hx he.out hs hf⟩
theorem qY (j : Nat) {tcn : TT} (hN : X.N.Nodup) (S : dJ scope x ys) (hcap : eO X scope ys is) (hi : QI X (.Name x px) iter wi)
  (hif : ∀ C s H fp, qa (bf X scope C (x :: ys) s H fp) ifs tcn) (he : ∀ C s H fp, QE (bf X scope C (x :: ys) s H fp) elt te) (hc : X.calm = true := by rfl)
  (hj : X.N[j]? = some y := by rfl) (hy : Loc X.env.scope y := by first | exact .inl rfl | exact .inr rfl)
  (hsw : swapsWith (.ListComp elt [⟨.Name x px, iter, ifs, 0⟩] scope pos) (some (.Name y py)) spos.line X.env = pure true := by rfl) (hf : X.fn y = true ∨ X.env.scope.names.lookup y = some .local := by first | exact .inl rfl | exact .inr rfl)
  (hs : ∀ x, foldedSetIterable iter X.env x = pure x := by intro _; rfl) : QS X (.Assign [.Name y py] (.ListComp elt [⟨.Name x px, iter, ifs, 0⟩] scope pos) spos) (aF (dS is wi tcn te) (aw j)) :=
 ⟨qp hN hj hy hc S hcap hi.out (fun C s H fp => (hif C s H fp).out) (fun C s H fp => (he C s H fp).out) hsw hf hs⟩
theorem da (h : QE X e te) (hs : swapsWith e none pos.line X.env = pure false := by rfl) : QS X (.Expr e pos) (cX te) := ⟨xE h.out hs⟩
theorem lV (i : Nat) (hN : X.N.Nodup) {body : List Stmt} (hi : QI X (.Name x px) iter wi) (hb : QSs X body tS) (hp : PassesOwn (model X.prog X.w) X.A X.env X.xe) (hc : X.calm = true := by rfl)
 (hj : X.N[i]? = some x := by rfl) (hx : Loc X.env.scope x := by first | exact .inl rfl | exact .inr rfl) (hf : X.fn x = true ∨ X.env.scope.names.lookup x = some .local := by first | exact .inl rfl | exact .inr rfl)
 (hs : ∀ x, foldedSetIterable iter X.env x = pure x := by intro _; rfl) : QS X (.For (.Name x px) iter body [] pos) (iA wi (aw i) tS) := ⟨qO hp hc hi.out (gg hN hj hx hf) hb.out hs⟩
theorem ku {body : List Stmt} (hc : QT X c tA) (hb : QSs X body tS) (hp : PassesOwn (model X.prog X.w) X.A X.env X.xe) : QS X (.While c body [] pos) (iD tA tS) := ⟨ux hp hc.out hb.out⟩
theorem fV : QS X st fv := ⟨tM⟩
end
end L2
namespace HT
open PySem PyProof.Rows
structure TrD (h base : Heap) (e : Addr) (cls a0 : Value) (d : Option Addr) (fl : Value) : Prop where
 ex : ∃ oe vs T oT ts, h.get? e = some oe ∧ oe.cls = cls ∧ oe.dict = d ∧ oe.data = .fields vs ∧ vs[0]? = some a0 ∧ vs[1]? = some (.ref T) ∧ base.get? T = none ∧ T ≠ e ∧ h.get? T = some oT ∧ oT.data = .fields ts ∧ ts[3]? = some fl
structure jV (base : Heap) (l : List Env) (e : Addr) (cls a0 : Value) (d : Option Addr) (fl : Value) (h h' : Heap) : Prop where
 st : base.StaysIn h'
 fr : h'.FunFrames base l
 tr : TrD h' base e cls a0 d fl
 up : h.UpToSlots h'
theorem kF (o : Obj) (f : Array Value → Array Value) : (Obj.mapFields f o).dict = o.dict := by
 obtain ⟨c, d, dt, sl⟩ := o
 cases dt <;> rfl
section
variable {M : Model} {A : Around} {E : Value → Shared → Prop} {s : Shared} {base : Heap} {env : Env} {outer : List Env} {L e : Addr} {cls a0 : Value} {d : Option Addr} {Q : Unit → Shared → Prop}
theorem sw {oe : Obj} {vs : Array Value} {head : Value} {hadNext : Bool} (hfr : A.frames = some (env :: outer)) (hl : s.heap.FunFrames base (env :: outer)) (hf : env.frame = some L) (he : s.heap.get? e = some oe) (hc : oe.cls = cls) (hdc : oe.dict = d)
   (hkb : base.StaysIn s.heap) (hen : base.get? e = none) (hd : oe.data = .fields vs) (hsz : 1 < vs.size) (h0 : vs[0]? = some a0) (h : ∀ h', jV base (env :: outer) e cls a0 d (rawInt L) s.heap h' → Q () { s with heap := h' }) :
   wpAny M A (do let a ← frameOf env; let pl ← entryPlaceOf L hadNext; let b ← EntryCells.newEntry head a .none (rawInt L) .none pl; setField (.ref e) 1 b) Q E s := by
 have nfr : e ∉ (env :: outer).filterMap (·.frame) := fun hm => by
   obtain ⟨_, o, ho, hnf⟩ := hl.mem hm
   rw [he] at ho
   cases ho
   exact hnf vs hd
 refine wpAny_bind (wpAny_frameOf_fun hfr hl hf fun h1 s1 => wpAny_bind (wpAny_entryPlaceOf fun pl hpl => ?_))
 unfold EntryCells.newEntry newFields
 refine wpAny_bind (wpAny_newObj_type ?_ (hpl.sizeOk5 _ _ _ _ _))
 generalize hts : ([head, Value.ref L, .none, rawInt L, .none] ++ (if pl.isEmpty then List.replicate 6 Value.none else pl)).toArray = ts
 have hts3 : ts[3]? = some (rawInt L) := by rw [← hts]; first | (simp; done) | (rcases hpl with rfl | ⟨_, _, _, _, _, _, _, rfl⟩ <;> simp)
 have e1 : h1.get? e = some oe := (s1.2.1 e nfr).trans he
 have kb1 : base.StaysIn h1 := fun b o hbo => (s1.2.1 b fun hm => by rw [(hl.mem hm).1] at hbo; cases hbo).trans (hkb b o hbo)
 have e2 : (h1.push { cls := .type "traceback", dict := none, data := .fields ts }).get? e = some oe := Heap.get?_push_of_some _ e1
 have nT : h1.objs.size ≠ e := Nat.ne_of_gt (Heap.lt_size e1)
 refine wpAny_setField e2 hd hsz (h _ ?_)
 have d3 := Obj.data_mapFields hd (·.setIfInBounds 1 (Value.ref h1.objs.size))
 have e3 := Heap.get?_update_self (Obj.mapFields (·.setIfInBounds 1 (Value.ref h1.objs.size))) e2 (Obj.isFreed_of_fields d3)
 have kp : ∀ b o, b ≠ e → h1.get? b = some o → ((h1.push { cls := .type "traceback", dict := none, data := .fields ts }).update e (Obj.mapFields (·.setIfInBounds 1 (Value.ref h1.objs.size)))).get? b = some o := fun b o nb eb =>
   (Heap.get?_update_other _ _ (Ne.symm nb)).trans (Heap.get?_push_of_some _ eb)
 have T3 := (Heap.get?_update_other (h1.push { cls := .type "traceback", dict := none, data := .fields ts }) (Obj.mapFields (·.setIfInBounds 1 (Value.ref h1.objs.size))) (Ne.symm nT)).trans (Heap.get?_push_size h1 rfl)
 have nr : ∀ b o, s.heap.get? b = some o → (∀ vs, o.data ≠ .fields vs) → b ≠ e := fun b o hb hnf q => by
   rw [q, he] at hb
   cases hb
   exact hnf vs hd
 refine ⟨fun b o hbo => kp b o (fun q => by rw [q, hen] at hbo; cases hbo) (kb1 b o hbo), hl.of_keeps fun b o hb hnf => ?_, ⟨_, _, h1.objs.size, _, ts, e3, (Obj.cls_mapFields ..).trans hc, (kF ..).trans hdc, d3, ?_, by simp [hsz], kb1.fresh, nT, T3, rfl, hts3⟩, fun b o hb hnf => ?_⟩
 · obtain ⟨sl, hs⟩ := s1.2.2 b o hb
   exact ⟨_, kp b _ (nr b o hb hnf) hs, rfl⟩
 · rw [Array.getElem?_setIfInBounds_ne (by decide)]; exact h0
 · obtain ⟨sl, hs⟩ := s1.2.2 b o hb
   exact ⟨sl, kp b _ (nr b o hb hnf) hs⟩
theorem nI {oe : Obj} {vs : Array Value} (hfr : A.frames = some (env :: outer)) (hl : s.heap.FunFrames base (env :: outer)) (hf : env.frame = some L) (he : s.heap.get? e = some oe) (hc : oe.cls = cls) (hdc : oe.dict = d) (hkb : base.StaysIn s.heap) (hen : base.get? e = none)
  (hd : oe.data = .fields vs) (h1 : vs[1]? = some .none) (h0 : vs[0]? = some a0) (h : ∀ h', jV base (env :: outer) e cls a0 d (rawInt L) s.heap h' → Q () { s with heap := h' }) : wpAny M A (noteFrame (.ref e) env) Q E s := by
 unfold noteFrame
 simp only [hf]
 refine wpAny_bind (wpAny_field he hd h1 ?_)
 rw [if_neg (by decide)]
 exact sw hfr hl hf he hc hdc hkb hen hd (Array.getElem?_eq_some_iff.mp h1).1 h0 h
theorem zj {fl fl' : Value} {T : Addr} {oT : Obj} {ts : Array Value} {l : List Env} {oe : Obj} {vs : Array Value} (hkb : base.StaysIn s.heap) (hl : s.heap.FunFrames base l) (he : s.heap.get? e = some oe) (hc : oe.cls = cls) (hdc : oe.dict = d) (hd : oe.data = .fields vs) (h0 : vs[0]? = some a0)
  (h1 : vs[1]? = some (.ref T)) (nT : base.get? T = none) (Te : T ≠ e) (hT : s.heap.get? T = some oT) (hdT : oT.data = .fields ts) (h3 : ts[3]? = some fl) (h : ∀ h', jV base l e cls a0 d fl' s.heap h' → (h'.get? e = some oe) → Q () { s with heap := h' }) : wpAny M A (setField (.ref T) 3 fl') Q E s := by
 have sz := (Array.getElem?_eq_some_iff.mp h3).1
 have ot : ∀ b, b ≠ T → (s.heap.update T (Obj.mapFields (·.setIfInBounds 3 fl'))).get? b = s.heap.get? b := fun b hb => Heap.get?_update_other _ _ (Ne.symm hb)
 have nr : ∀ b o, s.heap.get? b = some o → (∀ vs, o.data ≠ .fields vs) → b ≠ T := fun b o hb hnf q => by
  rw [q, hT] at hb
  cases hb
  exact hnf ts hdT
 refine wpAny_setField hT hdT sz (h _ ⟨fun b o hbo => (ot b fun q => by rw [q, nT] at hbo; cases hbo).trans (hkb b o hbo), hl.of_keeps fun b o hb hnf => ⟨o, (ot b (nr b o hb hnf)).trans hb, rfl⟩,
  ⟨oe, vs, T, _, _, (ot e (Ne.symm Te)).trans he, hc, hdc, hd, h0, h1, nT, Te, Heap.get?_update_self _ hT (Obj.isFreed_of_fields (Obj.data_mapFields hdT _)), Obj.data_mapFields hdT _, by simp [sz]⟩, fun b o hb hnf => ⟨o.slots, (ot b (nr b o hb hnf)).trans hb⟩⟩ ((ot e (Ne.symm Te)).trans he))
theorem kH {fl : Value} {l : List Env} (hkb : base.StaysIn s.heap) (hl : s.heap.FunFrames base l) (ht : TrD s.heap base e cls a0 d fl) (h : ∀ h', jV base l e cls a0 d .none s.heap h' → Q () { s with heap := h' }) : wpAny M A (setFlight (.ref e) none) Q E s := by
 obtain ⟨oe, vs, T, oT, ts, he, hc, hdc, hd, h0, h1, nT, Te, hT, hdT, h3⟩ := ht.ex
 unfold setFlight
 refine wpAny_bind (wpAny_field he hd h1 ?_)
 rw [if_pos (show (Value.ref T != Value.none) = true from by simp)]
 exact zj hkb hl he hc hdc hd h0 h1 nT Te hT hdT h3 fun h' n _ => h h' n
theorem pW (hfr : A.frames = some (env :: outer)) (hl : s.heap.FunFrames base (env :: outer)) (hf : env.frame = some L) (ht : TrD s.heap base e cls a0 d .none) (hkb : base.StaysIn s.heap) (hen : base.get? e = none)
  (h : ∀ h', jV base (env :: outer) e cls a0 d (rawInt L) s.heap h' → Q () { s with heap := h' }) : wpAny M A (noteFrame (.ref e) env) Q E s := by
 obtain ⟨oe, vs, T, oT, ts, he, hc, hdc, hd, h0, h1, nT, Te, hT, hdT, h3⟩ := ht.ex
 unfold noteFrame
 simp only [hf]
 refine wpAny_bind (wpAny_field he hd h1 ?_)
 rw [if_pos (show (Value.ref T != Value.none) = true from by simp)]
 refine wpAny_bind (wpAny_field hT hdT h3 ?_)
 rw [if_neg (show ¬ ((Value.none == rawInt L) = true) from by simp [rawInt])]
 refine wpAny_bind (zj (fl' := .none) hkb hl he hc hdc hd h0 h1 nT Te hT hdT h3 fun h' n he' => ?_)
 exact sw (s := { s with heap := h' }) hfr n.fr hf he' hc hdc n.st hen hd (Array.getElem?_eq_some_iff.mp h1).1 h0 fun h2 n2 => h h2 ⟨n2.st, n2.fr, n2.tr, n.up.trans n2.up⟩
theorem mz {oe : Obj} {vs : Array Value} (hfr : A.frames = some (env :: outer)) (hl : s.heap.FunFrames base (env :: outer)) (hf : env.frame = some L) (he : s.heap.get? e = some oe) (hc : oe.cls = cls) (hdc : oe.dict = d) (hkb : base.StaysIn s.heap) (hen : base.get? e = none)
  (hd : oe.data = .fields vs) (h1 : vs[1]? = some .none) (h0 : vs[0]? = some a0) (h : ∀ h', jV base outer e cls a0 d .none s.heap h' → Q () { s with heap := h' }) : wpAny M A (leaving env (.ref e)) Q E s := by
 unfold leaving
 refine wpAny_bind (nI hfr hl hf he hc hdc hkb hen hd h1 h0 fun h' n => ?_)
 obtain ⟨n1, ⟨_, _, n2⟩, n3, n4⟩ := n
 exact kH (s := { s with heap := h' }) n1 n2 n3 fun h2 m => h h2 ⟨m.st, m.fr, m.tr, n4.trans m.up⟩
end
end HT
namespace L2
open PySem PySem.Spec PyProof.Rows
abbrev veM : List Value := [.type "ValueError", .type "Exception", .type "BaseException", .type "object"]
def gG (K : W.Frag) (C D : Addr) : Option Bool := match K.lookup C with
 | some ⟨_, _, .cls cd, _⟩ => some (cd.mro.contains (.ref D))
 | _ => none
def mT (K : W.Frag) (C : Addr) : Bool := match K.lookup C with
  | some ⟨.type "type", _, .cls cd, sl⟩ => (match cd.mro, sl.toList with
    | .ref C' :: bm, [_, _, _, _, some (.builtin n), _] => C' == C && n == "ValueError.__new__" && !cd.hasDel && W.tailIn K veM bm && W.nsOkIn K cd.ns
    | _, _ => false)
  | _ => false
def cK (K : W.Frag) (C : Addr) : Prop := mT K C = true
def rR (K : W.Frag) (C : Addr) : Prop := W.excIn K C veM "ValueError.__new__" = true
theorem fN {K : W.Frag} {h : Heap} {C : Addr} (X : K.In h) (q : cK K C) :
   ∃ bm N nm qn bs hdct sn sub ab col dd k0 k1 k2 k3 k5 mN, h.get? C = some (excClassObj nm qn C N bs bm hdct sn sub ab col dd k0 k1 k2 k3 k5 "ValueError.__new__") ∧ h.Ns N mN ∧ (rR K C → mN "__init__" = none) ∧ OwnTail h veM bm ∧
     ∀ D, gG K C D = some ((Value.ref C :: bm).contains (.ref D)) := by
 have q2 := q
 unfold cK mT at q
 split at q
 · rename_i dd cd sl ho
   split at q
   · rename_i C' bm k0 k1 k2 k3 n k5 hm hs
     simp only [Bool.and_eq_true, beq_iff_eq, Bool.not_eq_true'] at q
     obtain ⟨⟨⟨⟨rfl, rfl⟩, hdel⟩, ht⟩, hok⟩ := q
     obtain ⟨nm, bs, mro, ns, qn, hd, sn, sub, ab, col, del⟩ := cd
     dsimp only at hm hdel hok
     subst hm hdel
     have hsl : sl = #[k0, k1, k2, k3, some (.builtin "ValueError.__new__"), k5] := by
       obtain ⟨l⟩ := sl
       simp only at hs
       rw [hs]
     subst hsl
     refine ⟨bm, ns, nm, qn, bs, hd, sn, sub, ab, col, dd, k0, k1, k2, k3, k5, _, X _ _ ho, .of_isNs (W.isNs_of_in X hok), fun r => ?_, W.tail_of_in X ht, fun D => ?_⟩
     · unfold rR W.excIn at r
       rw [ho] at r
       simp only [Bool.and_eq_true, beq_iff_eq] at r
       exact W.nsMap_none_of_in X hok r.2
     · unfold gG
       rw [ho]
   · cases q
 · cases q
theorem kj {M : Model} {A : Around} {E : Value → Shared → Prop} {s : Shared} {K : W.Frag} {C D e : Addr} {oe : Obj} {Q : Bool → Shared → Prop} {b : Bool} (X : K.In s.heap) (hC : cK K C) (hD : cK K D) (he : s.heap.get? e = some oe) (hcls : oe.cls = .ref C)
  (hs : gG K C D = some b) (hq : Q b s) : wpAny M A (excMatches (.ref e) (.ref D)) Q E s := by
 obtain ⟨bm, N, nm, qn, bs, hdct, sn, sub, ab, col, dd, k0, k1, k2, k3, k5, mN, oC, _, _, _, hsub⟩ := fN X hC
 obtain ⟨bm', N', nm', qn', bs', hdct', sn', sub', ab', col', dd', k0', k1', k2', k3', k5', mN', oD, _, _, T', _⟩ := fN X hD
 have hb : (Value.ref C :: bm).contains (.ref D) = b := Option.some.inj ((hsub D).symm.trans hs)
 have hbase : (Value.ref D :: bm').contains (.type "BaseException") = true := by
  rw [List.contains_cons, T'.hasType (X := "BaseException") (b := true) (by decide +kernel), Bool.or_true]
 have f := tc_notTuple
 obtain ⟨hp, g, d, t, os⟩ := s
 unfold excMatches
 repeat (first | (with_reducible refine wpAny_loadPart_at he ?_; rw [hcls]) | with_reducible refine wpAny_loadPart_at oD ?_ | (with_reducible refine wpAny_isSubtype_exc oC ?_; rw [hb]) | (with_reducible refine wpAny_isSubtype_exc oD ?_; rw [hbase]) | wp_step)
 all_goals first | exact hq | (cases b <;> first | exact hq | (repeat (first | exact hq | wp_step)))
structure Fly (P : Program) (w : World) (l : List Env) (H : Hp) (s : Shared) (cls fl : Value) (a : Addr) (d : Option Addr) (H' : Hp) (s' : Shared) : Prop where
 os : s'.os = s.os
 bare : AllBare s'.gens
 un : Un (frs l) [] H H' s.heap s'.heap
 hok : HOk P w H' s'.heap
 new : s.heap.get? a = none
 free : H' a = none
 tr : ∃ oe vs a0 T oT ts, s'.heap.get? a = some oe ∧ oe.cls = cls ∧ oe.dict = d ∧ oe.data = .fields vs ∧ vs[0]? = some a0 ∧ vs[1]? = some (.ref T) ∧ T ≠ a ∧ s'.heap.get? T = some oT ∧ oT.data = .fields ts ∧ ts[3]? = some fl ∧ s.heap.get? T = none ∧ H' T = none
def CX1 (P : Program) (w : World) : CXT := fun outer H s E e s' => ∃ a C d H', e = .ref a ∧ Fly P w outer H s (.ref C) .none a d H' s' ∧ E (.ref C) d H'
theorem jn {P : Program} {w : World} {H : Hp} {h : Heap} {a : Addr} {o : HO} (x : aO P w H h a o) : ∃ u, h.get? a = some u := by
 cases o with
 | lst xs => obtain ⟨_, _, _, _, e⟩ := x; exact ⟨_, e⟩
 | tup xs => obtain ⟨_, _, _, p⟩ := x; obtain ⟨o, e, _⟩ := p; exact ⟨_, e⟩
 | dK kvs => obtain ⟨_, _, _, _, o, _, _, e, _⟩ := x; exact ⟨_, e⟩
 | dT kvs => obtain ⟨_, _, _, _, o, _, _, e, _⟩ := x; exact ⟨_, e⟩
 | set S n => obtain ⟨o, _, _, _, e, _⟩ := x; exact ⟨_, e⟩
 | ins C dx fs => obtain ⟨_, _, _, e, _⟩ := x; exact ⟨_, e⟩
 | own y => exact x
 | xd fs => obtain ⟨_, ⟨_, _, _, e, _⟩, _⟩ := x; exact ⟨_, e⟩
 | rng lo hi => obtain ⟨_, _, _, e⟩ := x; exact ⟨_, e⟩
 | frz ob u => obtain ⟨e, _⟩ := x; exact ⟨_, e⟩
 | tbl ps => exact ⟨_, (show h.get? a = some _ from x)⟩
 | met f y => exact ⟨_, (show h.get? a = some _ from x)⟩
 | ext φ => obtain ⟨_, e, _⟩ := x; exact e
section
variable {P : Program} {w : World} {l : List Env} {H H' : Hp} {s s' : Shared} {cls fl fl' : Value} {a : Addr} {d : Option Addr} {base : Heap}
def eE (h : Heap) (l : List Env) (a T : Addr) : Heap := W.hideAll h (a :: T :: frs l)
theorem Fly.frames (F : Fly P w l H s cls fl a d H' s') (ff : s.heap.FunFrames base l) (frf : ∀ b ∈ frs l, H b = none) : s'.heap.FunFrames base l := by
  have all : ∀ (k : List Env), (∀ b ∈ frs k, b ∈ frs l) → s.heap.FunFrames base k → s'.heap.FunFrames base k := by
    intro k
    induction k with
    | nil => intro _ _; trivial
    | cons env r ih =>
      intro hs hl
      obtain ⟨hk, ⟨L, o, hf, hn, ho, hd⟩, hr⟩ := hl
      have hL : L ∈ frs l := hs L (by unfold frs; rw [List.filterMap_cons, hf]; exact List.mem_cons_self)
      obtain ⟨sl, e⟩ := F.un.slot L o ho (frf L hL) hL (by simp)
      exact ⟨hk, ⟨L, _, hf, hn, e, hd⟩, ih (fun b hb => hs b (by unfold frs; rw [List.filterMap_cons, hf]; exact List.mem_cons_of_mem _ hb)) hr⟩
  exact all l (fun _ hb => hb) ff
theorem ib {h B B' : Heap} : ∀ {k : List Env}, h.FunFrames B k → (∀ b ∈ frs k, B'.get? b = none) → h.FunFrames B' k
 | [], _, _ => trivial
 | env :: r, ⟨hk, ⟨L, o, hf, hn, ho, hd⟩, hr⟩, hb => ⟨hk, ⟨L, o, hf, hb L (by unfold frs; rw [List.filterMap_cons, hf]; exact List.mem_cons_self), ho, hd⟩, ib hr fun b h => hb b (by unfold frs; rw [List.filterMap_cons, hf]; exact List.mem_cons_of_mem _ h)⟩
theorem Fly.moved (F : Fly P w l H s cls fl a d H' s') (ff : s.heap.FunFrames base l) (frf : ∀ b ∈ frs l, H b = none) (ffs : ∀ b ∈ frs l, H' b = none) {T : Addr} {oT : Obj} (hT0 : s.heap.get? T = none) (hT1 : H' T = none) {h' : Heap} {a0 : Value}
    (st : (eE s'.heap l a T).StaysIn h') (up : s'.heap.UpToSlots h') (tr : HT.TrD h' (eE s'.heap l a T) a cls a0 d fl') : Fly P w l H s cls fl' a d H' { s' with heap := h' } := by
  have kp : ∀ b o, s'.heap.get? b = some o → b ≠ a → b ≠ T → b ∉ frs l → h'.get? b = some o := fun b o e h1 h2 h3 => st b o (W.hideAll_get _ e (by simp [h1, h2, h3]))
  have ff' := F.frames ff frf
  have nf : ∀ b ∈ frs l, ∀ o, s'.heap.get? b = some o → ∀ vs, o.data ≠ .fields vs := fun b hb o e vs z => by
    obtain ⟨_, o', ho, hd⟩ := ff'.mem hb
    rw [e] at ho; cases ho
    exact hd vs z
  have old : ∀ b o, s.heap.get? b = some o → b ≠ a ∧ b ≠ T := fun b o e => ⟨fun z => (by rw [z, F.new] at e; cases e), fun z => (by rw [z, hT0] at e; cases e)⟩
  refine ⟨F.os, F.bare, ⟨fun b o e n hb hx => ?_, fun b o e n hb hx => ?_, F.un.free, fun b o e hx => ?_, F.un.tups, F.un.frzs, F.un.tbls⟩, fun b o e => ?_, F.new, F.free, ?_⟩
  · exact kp b o (F.un.keep b o e n hb hx) (old b o e).1 (old b o e).2 hb
  · obtain ⟨sl, e1⟩ := F.un.slot b o e n hb hx
    obtain ⟨sl', e2⟩ := up b _ e1 (nf b hb _ e1)
    exact ⟨sl', e2⟩
  · obtain ⟨o', e1⟩ := F.un.there b o e hx
    by_cases hb : b ∈ frs l
    · obtain ⟨sl', e2⟩ := up b _ e1 (nf b hb _ e1)
      exact ⟨_, e2⟩
    · exact ⟨o', kp b o' e1 (old b o e).1 (old b o e).2 hb⟩
  · refine (F.hok b o e).stay (fun c u hc q => kp c u q ?_ ?_ ?_) (fun _ q => q) fun _ _ q => q
    · rintro rfl
      rcases hc with r | r
      · rw [← r, F.free] at e; cases e
      · rw [F.free] at r; cases r
    · rintro rfl
      rcases hc with r | r
      · rw [← r, hT1] at e; cases e
      · rw [hT1] at r; cases r
    · intro hm
      rcases hc with r | r
      · rw [← r, ffs _ hm] at e; cases e
      · rw [ffs _ hm] at r; cases r
  · obtain ⟨oe, vs, T', oT', ts, he, hc, hdc, hd, h0, h1, hn, hne, hT', hdT, h3⟩ := tr.ex
    have key : s'.heap.get? T' = none ∨ T' = T := by
      cases q : s'.heap.get? T' with
      | none => exact .inl rfl
      | some o =>
        refine .inr (Classical.byContradiction fun hz => ?_)
        by_cases hf : T' ∈ frs l
        · obtain ⟨sl', e2⟩ := up T' o q (nf T' hf o q)
          rw [hT'] at e2; cases e2
          exact nf T' hf o q ts hdT
        · have : (eE s'.heap l a T).get? T' = some o := W.hideAll_get _ q (by simp [hz, hne, hf])
          rw [hn] at this; cases this
    refine ⟨oe, vs, a0, T', oT', ts, he, hc, hdc, hd, h0, h1, hne, hT', hdT, h3, ?_, ?_⟩
    · rcases key with z | z
      · cases q : s.heap.get? T' with
        | none => rfl
        | some o =>
          obtain ⟨o', e⟩ := F.un.there T' o q (by simp)
          rw [z] at e; cases e
      · rw [z]; exact hT0
    · rcases key with z | z
      · cases q : H' T' with
        | none => rfl
        | some o =>
          obtain ⟨o1, e1⟩ := jn (F.hok T' o q)
          rw [z] at e1; cases e1
      · rw [z]; exact hT1
end
end L2
namespace L2
open PySem PySem.Spec PyProof.Rows
section
variable {X : Cx} {pins : List (Addr × Obj)} {σ : St} {H H' : Hp} {s s' : Shared} {cls fl : Value} {a : Addr} {d : Option Addr}
theorem Fly.inv (I : Inv X pins σ H s) (F : Fly X.prog X.w X.stack H s cls fl a d H' s') : Inv X pins σ H' s' := I.call' (ch := []) F.os F.un F.hok F.bare fun b z => absurd z (by simp)
theorem Fly.up (I : Inv X pins σ H s) (hex : X.ex = []) (F : Fly X.prog X.w X.stack H s cls fl a d H' s') : Fly X.prog X.w X.outer X.H₀ X.s₀ cls fl a d H' s' := by
  have I2 := F.inv I
  have back : ∀ b, s.heap.get? b = none → X.s₀.heap.get? b = none := fun b e => by
    cases q : X.s₀.heap.get? b with
    | none => rfl
    | some o =>
      obtain ⟨o', e'⟩ := I.base.there b o q (by rw [hex]; simp)
      rw [e] at e'; cases e'
  obtain ⟨oe, vs, a0, T, oT, ts, h1, h2, hd, h3, h4, h5, h6, h7, h8, h9, h10, h11⟩ := F.tr
  have b := I2.base
  rw [hex] at b
  exact ⟨I2.os, I2.bare, b, I2.hok, back a F.new, F.free, oe, vs, a0, T, oT, ts, h1, h2, hd, h3, h4, h5, h6, h7, h8, h9, back T h10, h11⟩
theorem Fly.flying (I : Inv X pins σ H s) (F : Fly X.prog X.w X.stack H s cls .none a d H' s') : ∃ T a0, s.heap.get? T = none ∧ H' T = none ∧ (eE s'.heap X.stack a T).StaysIn s'.heap ∧ (eE s'.heap X.stack a T).get? a = none ∧ s'.heap.FunFrames (eE s'.heap X.stack a T) X.stack ∧
  HT.TrD s'.heap (eE s'.heap X.stack a T) a cls a0 d .none := by
 obtain ⟨oe, vs, a0, T, oT, ts, h1, h2, hd, h3, h4, h5, h6, h7, h8, h9, h10, h11⟩ := F.tr
 exact ⟨T, a0, h10, h11, fun b o e => W.of_hideAll _ e, W.hideAll_none _ (by simp), ib (F.frames I.stack I.stkFree) fun b hb => W.hideAll_none _ (by simp [hb]), ⟨oe, vs, T, oT, ts, h1, h2, hd, h3, h4, h5, W.hideAll_none _ (by simp), h6, h7, h8, h9⟩⟩
end
structure ur (P : Program) (w : World) (l : List Env) (H : Hp) (s : Shared) (cls : Value) (a : Addr) (d : Option Addr) (H' : Hp) (s' : Shared) : Prop where
 os : s'.os = s.os
 bare : AllBare s'.gens
 un : Un (frs l) [] H H' s.heap s'.heap
 hok : HOk P w H' s'.heap
 new : s.heap.get? a = none
 free : H' a = none
 tr : ∃ oe vs a0, s'.heap.get? a = some oe ∧ oe.cls = cls ∧ oe.dict = d ∧ oe.data = .fields vs ∧ vs[0]? = some a0 ∧ vs[1]? = some .none
section
variable {P : Program} {w : World} {l : List Env} {H H' : Hp} {s s' : Shared} {cls fl' : Value} {a : Addr} {d : Option Addr} {base : Heap}
theorem kP (un : Un (frs l) [] H H' s.heap s'.heap) (ff : s.heap.FunFrames base l) (frf : ∀ b ∈ frs l, H b = none) : s'.heap.FunFrames base l := by
  have all : ∀ (k : List Env), (∀ b ∈ frs k, b ∈ frs l) → s.heap.FunFrames base k → s'.heap.FunFrames base k := by
    intro k
    induction k with
    | nil => intro _ _; trivial
    | cons env r ih =>
      intro hs hl
      obtain ⟨hk, ⟨L, o, hf, hn, ho, hd⟩, hr⟩ := hl
      have hL : L ∈ frs l := hs L (by unfold frs; rw [List.filterMap_cons, hf]; exact List.mem_cons_self)
      obtain ⟨sl, e⟩ := un.slot L o ho (frf L hL) hL (by simp)
      exact ⟨hk, ⟨L, _, hf, hn, e, hd⟩, ih (fun b hb => hs b (by unfold frs; rw [List.filterMap_cons, hf]; exact List.mem_cons_of_mem _ hb)) hr⟩
  exact all l (fun _ hb => hb) ff
theorem ur.moved (F : ur P w l H s cls a d H' s') (ff : s.heap.FunFrames base l) (frf : ∀ b ∈ frs l, H b = none) (ffs : ∀ b ∈ frs l, H' b = none) {h' : Heap} {a0 : Value}
    (st : (eE s'.heap l a a).StaysIn h') (up : s'.heap.UpToSlots h') (tr : HT.TrD h' (eE s'.heap l a a) a cls a0 d fl') : Fly P w l H s cls fl' a d H' { s' with heap := h' } := by
  have kp : ∀ b o, s'.heap.get? b = some o → b ≠ a → b ∉ frs l → h'.get? b = some o := fun b o e h1 h3 => st b o (W.hideAll_get _ e (by simp [h1, h3]))
  have ff' := kP F.un ff frf
  have nf : ∀ b ∈ frs l, ∀ o, s'.heap.get? b = some o → ∀ vs, o.data ≠ .fields vs := fun b hb o e vs z => by
    obtain ⟨_, o', ho, hd⟩ := ff'.mem hb
    rw [e] at ho; cases ho
    exact hd vs z
  have old : ∀ b o, s.heap.get? b = some o → b ≠ a := fun b o e z => by rw [z, F.new] at e; cases e
  refine ⟨F.os, F.bare, ⟨fun b o e n hb hx => ?_, fun b o e n hb hx => ?_, F.un.free, fun b o e hx => ?_, F.un.tups, F.un.frzs, F.un.tbls⟩, fun b o e => ?_, F.new, F.free, ?_⟩
  · exact kp b o (F.un.keep b o e n hb hx) (old b o e) hb
  · obtain ⟨sl, e1⟩ := F.un.slot b o e n hb hx
    obtain ⟨sl', e2⟩ := up b _ e1 (nf b hb _ e1)
    exact ⟨sl', e2⟩
  · obtain ⟨o', e1⟩ := F.un.there b o e hx
    by_cases hb : b ∈ frs l
    · obtain ⟨sl', e2⟩ := up b _ e1 (nf b hb _ e1)
      exact ⟨_, e2⟩
    · exact ⟨o', kp b o' e1 (old b o e) hb⟩
  · refine (F.hok b o e).stay (fun c u hc q => kp c u q ?_ ?_) (fun _ q => q) fun _ _ q => q
    · rintro rfl
      rcases hc with r | r
      · rw [← r, F.free] at e; cases e
      · rw [F.free] at r; cases r
    · intro hm
      rcases hc with r | r
      · rw [← r, ffs _ hm] at e; cases e
      · rw [ffs _ hm] at r; cases r
  · obtain ⟨oe, vs, T', oT', ts, he, hc, hdc, hd, h0, h1, hn, hne, hT', hdT, h3⟩ := tr.ex
    have key : s'.heap.get? T' = none := by
      cases q : s'.heap.get? T' with
      | none => rfl
      | some o =>
        by_cases hf : T' ∈ frs l
        · obtain ⟨sl', e2⟩ := up T' o q (nf T' hf o q)
          rw [hT'] at e2; cases e2
          exact (nf T' hf o q ts hdT).elim
        · have : (eE s'.heap l a a).get? T' = some o := W.hideAll_get _ q (by simp [hne, hf])
          rw [hn] at this; cases this
    refine ⟨oe, vs, a0, T', oT', ts, he, hc, hdc, hd, h0, h1, hne, hT', hdT, h3, ?_, ?_⟩
    · cases q : s.heap.get? T' with
      | none => rfl
      | some o =>
        obtain ⟨o', e⟩ := F.un.there T' o q (by simp)
        rw [key] at e; cases e
    · cases q : H' T' with
      | none => rfl
      | some o =>
        obtain ⟨o1, e1⟩ := jn (F.hok T' o q)
        rw [key] at e1; cases e1
end
def eI (CX : CXT) (X : Cx) (E : St → XK) : Prop := ∀ (pins : List (Addr × Obj)) (σ : St) (H : Hp) (s : Shared) (e : Value) (s' : Shared), Inv X pins σ H s → CX X.stack H s (E σ) e s' → X.xe e s'
def sf (X : Cx) (E : St → XK) : Prop := ∀ (pins : List (Addr × Obj)) (σ : St) (H : Hp) (s : Shared) (C a : Addr) (d : Option Addr) (H2 : Hp) (s2 : Shared), Inv X pins σ H s → ur X.prog X.w X.stack H s (.ref C) a d H2 s2 → E σ (.ref C) d H2 → X.xe (.ref a) s2
theorem cM {P : Program} {w : World} {X : Cx} : eI (CX1 P w) X (fun _ => E0) := fun pins σ H s e s' I ⟨_, _, _, _, _, _, h⟩ => h.elim
section
variable {P : Program} {w : World} {K : W.Frag} {mg : Str → Option Value} {base : Heap} {N : List Str} {qual : Str} {scope : Scope} {f : Addr} {cd : Value} {A : Around} {outer : List Env} {s : Shared} {H : Hp} {E : XK}
theorem qT : sf (cI (CX1 P w) P w K mg base N qual scope f cd A outer s H E) (fun _ => E) := by
 intro pins σ H1 s1 C a d H2 s2 I F hE
 have I2 : Inv (cI (CX1 P w) P w K mg base N qual scope f cd A outer s H E) pins σ H2 s2 := I.call' (ch := []) F.os F.un F.hok F.bare fun b z => absurd z (by simp)
 obtain ⟨oe, vs, a0, he, hc, hdc, hd, h0, h1⟩ := F.tr
 refine HT.mz I.ok.frames (ib (B' := eE s2.heap (cI (CX1 P w) P w K mg base N qual scope f cd A outer s H E).stack a a) (kP F.un I.stack I.stkFree) fun b hb => W.hideAll_none _ (List.mem_cons_of_mem _ (List.mem_cons_of_mem _ hb))) rfl he hc hdc (fun b o e => W.of_hideAll _ e) (W.hideAll_none _ (by simp)) hd h1 h0 fun h' n => ?_
 have F2 := F.moved I.stack I.stkFree I2.stkFree n.st n.up n.tr
 exact ⟨a, C, d, H2, rfl, F2.up I rfl, hE⟩
end
def ar (sp : Sp) (E : St → XK) (t : TA) : TE := fun σ H Q => t σ H fun vs H1 => sp vs H1 Q (E σ)
section
variable {X : Cx} {CX : CXT} {k : Nat} {f : Addr} {fd : FuncData} {ps : List Str} {sp : Sp} {E : St → XK} {x : Str} {p pos : Pos} {e : Expr} {es : List Expr} {t : TA}
theorem ki {pins : List (Addr × Obj)} {σ : St} {H : Hp} {s : Shared} {Q : VK} {us : List Value} {vs : List V} (F : aU X.prog X.w X.K X.mg X.base CX k f fd ps sp) (hr : ba k X.A) (hb : bZ X.K fd ps []) (hx : eI CX X E)
    (I : Inv X pins σ H s) (r : aA vs us) (h : sp vs H Q (E σ)) : wpAny (model X.prog X.w) X.A (call (.ref f) us) (EP X pins σ Q) X.xe s := by
  have hl : us.length = ps.length := by rw [← r.length]; exact F.len _ _ _ _ h
  have hb' := hb s us I.kIn (by rw [List.append_nil]; exact hl)
  rw [List.append_nil] at hb'
  refine wpAny_call (codeAny_mono (F.run X.A X.stack s H ⟨us, []⟩ us vs Q (E σ) hr I.env0 hb' r h) fun r s' hq => ?_)
  cases r with
  | error e => exact hx pins σ H s e s' I hq
  | ok fl =>
    cases fl with
    | ret u => exact I.after hq
    | next => exact False.elim hq
    | brk => exact False.elim hq
    | cont => exact False.elim hq
theorem oK (F : aU X.prog X.w X.K X.mg X.base CX k f fd ps sp) (hr : ba k X.A) (hm : X.mg x = some (.ref f)) (hk : W.keepIn X.K (.ref f) = true) (hb : bZ X.K fd ps []) (hx : eI CX X E)
  (ha : QA X (e :: es) t) (hg : Gl X x := by rfl) (hdb : (x == ("__debug__" : Str)) = false := by decide) (hs : aW (e :: es) = true := by rfl) : QE X (.Call (.Name x p) (e :: es) [] pos) (ar sp E t) := by
 refine ⟨fun pins s σ H Q I h => ?_⟩
 have h' : (bv e && aW es) = true := hs
 refine wpAny_Call_Name_kw (fX I hg hm ?_ hdb)
 refine W.callWith_K (h₀ := X.base) I.ok.mod.kin hk (thn (ha.out pos pins s σ H _ I h) fun us s1 ⟨vs, H1, I1, r, q⟩ => ⟨I1.kIn, ?_⟩) (aV (Bool.and_eq_true_iff.mp h').1 es X.env) (bo (Bool.and_eq_true_iff.mp h').2)
 exact ki F hr hb hx I1 r q
theorem my (F : aU X.prog X.w X.K X.mg X.base CX k f fd ps sp) (hr : ba k X.A) (hm : X.mg x = some (.ref f)) (hk : W.keepIn X.K (.ref f) = true) (hb : bZ X.K fd ps []) (hx : eI CX X E)
  (hg : Gl X x := by rfl) (hdb : (x == ("__debug__" : Str)) = false := by decide) : QE X (.Call (.Name x p) [] [] pos) (ar sp E ag) := by
 refine ⟨fun pins s σ H Q I h => ?_⟩
 refine wpAny_Call_Name_kw (fX I hg hm ?_ hdb)
 exact W.callWith_K0 I.kIn hk (ki (us := []) F hr hb hx I .nil h)
end
theorem Fun.okX {P : Program} {w : World} {K : W.Frag} {mg : Str → Option Value} {base : Heap} {x qual : Str} {st : Stmt} {f : Addr} {fd : FuncData} {N ps : List Str} {k : Nat} {sp : Sp} (F : Fun K x qual st f fd) (S : az N ps (ai st)) (len : ∀ vs H Q E, sp vs H Q E → vs.length = ps.length)
  (hbody : ∀ (cdv : Value) (A : Around) (outer : List Env) (s : Shared) (H : Hp) (vs : List V) (Q : VK) (E : XK), ba k (A.deeper (envOfC qual (ai st) s.heap.objs.size f cdv)) → sp vs H Q E →
   ∃ t, PSs (cI (CX1 P w) P w K mg base N qual (ai st) f cdv A outer s H E) (aL st) t ∧ t { nx := fun _ H' => Q .non H', rt := Q } (start N vs) H) : aU P w K mg base (CX1 P w) (k + 1) f fd ps sp := by
 obtain ⟨oc, od, kV, doc, pm, an, cdv, ct, osl, rfl, lk, hcd⟩ := F.ex
 exact wt lk hcd S len fun A outer s H vs Q E hr hsp => hbody cdv A outer s H vs Q E hr hsp
end L2
namespace L2
open PySem PySem.Spec PyProof.Rows
def kh (C : Addr) (d : Option Addr) (a : Addr) : HO := .ext fun h => ∃ o vs, h.get? a = some o ∧ o.cls = .ref C ∧ o.dict = d ∧ o.data = .fields vs
theorem xA {P : Program} {w : World} {H : Hp} {h : Heap} {C a : Addr} {d : Option Addr} {o : Obj} {vs : Array Value} (e : h.get? a = some o) (hc : o.cls = .ref C) (hdc : o.dict = d) (hd : o.data = .fields vs) : aO P w H h a (kh C d a) :=
 ⟨⟨o, vs, e, hc, hdc, hd⟩, ⟨o, e⟩, fun h1 h2 ⟨o1, vs1, e1, c1, x1, d1⟩ k => ⟨o1, vs1, k o1 e1, c1, x1, d1⟩⟩
theorem wM {P : Program} {w : World} {H : Hp} {h : Heap} {C a : Addr} {d : Option Addr} (x : aO P w H h a (kh C d a)) : ∃ o vs, h.get? a = some o ∧ o.cls = .ref C ∧ o.dict = d ∧ o.data = .fields vs := x.1
section
variable {X : Cx} {pins : List (Addr × Obj)} {σ : St} {H H1 H' : Hp} {s s0 : Shared} {a : Addr} {o : HO}
theorem Inv.track (I0 : Inv X pins σ H1 s0) (hex : X.ex = []) (I : Inv X pins σ H s) (new : s0.heap.get? a = none) (hn : H a = none) (ok : aO X.prog X.w (upd H a o) s.heap a o) : Inv X pins σ (upd H a o) s := by
 have ne : ∀ b u, s0.heap.get? b = some u → b ≠ a := fun b u e z => by rw [z, new] at e; cases e
 have ne0 : ∀ b u, X.s₀.heap.get? b = some u → b ≠ a := fun b u e => by
   obtain ⟨u', e'⟩ := I0.base.there b u e (by rw [hex]; simp)
   exact ne b u' e'
 have nL : X.env.locals ≠ a := by
   obtain ⟨m, ⟨o', _, _, e, _⟩, _⟩ := I0.loc
   exact ne _ _ e
 refine ⟨I.ok, I.os, I.bare, ⟨I.base.keep, I.base.slot, fun b u e n hx => ?_, I.base.there, fun b xs e => ?_, fun b u v e => ?_, fun b ps e => ?_⟩, I.loc, I.cell, ?_, fun x c e => ?_, fun p hp => ?_, fun b u e => ?_, I.len⟩
 · rw [aj (ne0 b u e)]; exact I.base.free b u e n hx
 · have := I.base.tups b xs e
   rw [aj (aq this hn)]; exact this
 · have := I.base.frzs b u v e
   rw [aj (aq this hn)]; exact this
 · obtain ⟨more, this⟩ := I.base.tbls b ps e
   exact ⟨more, by rw [aj (aq this hn)]; exact this⟩
 · rw [aj nL]; exact I.free
 · obtain ⟨v, o', e', _⟩ := I0.cell x c e
   rw [aj (ne _ _ e')]; exact I.freeC x c e
 · obtain ⟨h1, h2, h3⟩ := I.pin p hp
   exact ⟨h1, by rw [aj (ne _ _ (I0.pin p hp).1)]; exact h2, h3⟩
 · by_cases hb : b = a
   · subst hb
     rw [am] at e; cases e
     exact ok
   · rw [aj hb] at e
     exact (I.hok b u e).stay (fun c v _ q => q) (fun c q => by
      have : c ≠ a := aq q hn
      rw [aj this]; exact q) fun c xs q => by
      have : c ≠ a := aq q hn
      rw [aj this]; exact q
end
def cxH (X : Cx) (a : Addr) : Cx := { X with A := X.A.mark (some (.ref a)), calm := false, xe := fun _ _ => False }
section
variable {X : Cx} {pins : List (Addr × Obj)} {σ : St} {H : Hp} {s : Shared} {a : Addr}
theorem Cx.Ok.toH (ok : X.Ok) : (cxH X a).Ok := ⟨ok.mod, ok.kind, ok.glob, ok.blt, ok.above, ok.inj, ok.has, ok.cab, fun h => absurd (show false = true from h) Bool.false_ne_true, ok.frames, ok.stk, ok.exf, ok.bs, ok.bsz, ok.noex, ok.exfs, ok.funs, ok.frf⟩
theorem Inv.toH (I : Inv X pins σ H s) : Inv (cxH X a) pins σ H s := ⟨I.ok.toH, I.os, I.bare, I.base, I.loc, I.cell, I.free, I.freeC, I.pin, I.hok, I.len⟩
theorem Inv.ofH (ok : X.Ok) (I : Inv (cxH X a) pins σ H s) : Inv X pins σ H s := ⟨ok, I.os, I.bare, I.base, I.loc, I.cell, I.free, I.freeC, I.pin, I.hok, I.len⟩
theorem SP.ofH {D : dE} {f : Flow} (ok : X.Ok) (h : SP (cxH X a) pins D f s) : SP X pins D f s := by
 cases f with
 | next => obtain ⟨σ', H', J, q⟩ := h; exact ⟨σ', H', J.ofH ok, q⟩
 | brk => obtain ⟨σ', H', J, q⟩ := h; exact ⟨σ', H', J.ofH ok, q⟩
 | cont => obtain ⟨σ', H', J, q⟩ := h; exact ⟨σ', H', J.ofH ok, q⟩
 | ret u => obtain ⟨v, σ', H', J, r, q⟩ := h; exact ⟨v, σ', H', J.ofH ok, r, q⟩
end
abbrev TH := dE → St → Addr → Option Addr → Hp → Prop
def PH (X : Cx) (hs : List ExceptHandler) (t : TH) : Prop := ∀ (pins : List (Addr × Obj)) (s0 : Shared) (σ : St) (H1 H' : Hp) (C a : Addr) (d : Option Addr) (s3 : Shared) (D : dE), X.stack = X.env :: X.outer → X.env.frame = some X.env.locals → X.ex = [] →
 Inv X pins σ H1 s0 → Fly X.prog X.w X.stack H1 s0 (.ref C) .none a d H' s3 → cK X.K C → t D σ C d H' → wpAny (model X.prog X.w) X.A (handleBy (.ref a) X.env hs) (SP X pins D) X.xe s3
structure QH (X : Cx) (hs : List ExceptHandler) (t : TH) : Prop where
 out : PH X hs t
def wa : TH := fun _ _ _ _ _ => False
def rc (i : Nat) (D : dE) : dE := ⟨fun σ H => D.nx (σ.set i none) H, D.rt, fun σ H => D.bk (σ.set i none) H, fun σ H => D.ct (σ.set i none) H⟩
def hAs (K : W.Frag) (Dc : Addr) (i : Nat) (ts : TS) (r : TH) : TH := fun D σ C d H => ∃ b, gG K C Dc = some b ∧ Sel b (∀ a, H a = none → ts (rc i D) (σ.set i (some (.ref a))) (upd H a (kh C d a))) (r D σ C d H)
section
variable {X : Cx}
theorem zE : QH X [] wa := ⟨fun _ _ _ _ _ _ _ _ _ _ _ _ _ _ _ _ h => h.elim⟩
theorem qR {pins : List (Addr × Obj)} {σ : St} {H H' : Hp} {s s' : Shared} {cls : Value} {a : Addr} {d : Option Addr} {M : Model} {A : Around} {E : Value → Shared → Prop} {Q : Unit → Shared → Prop} (I : Inv X pins σ H s) (F : Fly X.prog X.w X.stack H s cls .none a d H' s')
  (hQ : ∀ s'', Fly X.prog X.w X.stack H s cls .none a d H' s'' → Q () s'') : wpAny M A (setFlight (.ref a) none) Q E s' := by
 obtain ⟨T, a0, hT0, hT1, f1, f2, f3, f4⟩ := F.flying I
 refine HT.kH f1 f3 f4 fun h' n => ?_
 exact hQ _ (F.moved (oT := { cls := .none, data := .dict #[] }) I.stack I.stkFree (F.inv I).stkFree hT0 hT1 n.st n.up n.tr)
variable {x n : Str} {np hp : Pos} {Dc : Addr} {b0 : Stmt} {suite : List Stmt} {bP : List ExceptHandler} {ts : TS} {r : TH} {i : Nat}
theorem vy {A : Around} {E : Value → Shared → Prop} {pins : List (Addr × Obj)} {s : Shared} {σ : St} {H : Hp} {u : Value} {pos : Pos} {Q : Value → Shared → Prop} (I : Inv X pins σ H s) (hg : Gl X x) (hm : X.mg x = some u) (h : Q u s)
  (hd : (x == ("__debug__" : Str)) = false := by decide) : wpAny (model X.prog X.w) A (eval (.Name x pos) X.env) Q E s :=
 Calls.Name_function_global I.ok.kind hg (Calls.loadGlobal_global (by rw [I.ok.glob]; exact I.mod.glob.keeps I.bk) hm h) hd
theorem Bm (i : Nat) (hN : X.N.Nodup) (hD : cK X.K Dc) (hm : X.mg x = some (.ref Dc)) (hs : ∀ a, QSs (cxH X a) (b0 :: suite) ts) (hr : QH X bP r) (hg : Gl X x := by rfl) (hdb : (x == ("__debug__" : Str)) = false := by decide)
    (hi : X.N[i]? = some n := by rfl) (hl : X.env.scope.names.lookup n = some .local := by rfl) :
    QH X (.ExceptHandler (some (.Name x np)) (some n) (b0 :: suite) hp :: bP) (hAs X.K Dc i ts r) := by
  refine ⟨fun pins s0 σ H1 H' C a d s3 D e1 e2 hex I F hC h => ?_⟩
  obtain ⟨b, hb, q⟩ := h
  have I3 := F.inv I
  obtain ⟨oe, vs, _, _, _, _, he, hc, hdc, hd, _⟩ := F.tr
  refine wpAny_handleBy_cons (codeAny_handlers_test (vy I3 hg hm ?_ hdb)) (by intro q; cases q)
  refine kj I3.kIn hC hD he hc hb ?_
  have q := dM q
  cases b with
  | false => exact hr.out pins s0 σ H1 H' C a d s3 D e1 e2 hex I F hC q
  | true =>
    refine codeAny_handlers_suite_as (qR I F fun s4 F4 => ?_)
    have I4 := F4.inv I
    obtain ⟨oe4, vs4, _, _, _, _, he4, hc4, hdc4, hd4, _⟩ := F4.tr
    have I5 : Inv X pins σ (upd H' a (kh C d a)) s4 := Inv.track I hex I4 F.new F.free (xA he4 hc4 hdc4 hd4)
    have hcls : (X.env.scope.kind == .class || (X.env.scope.kind == .module && X.env.locals != X.env.globals)) = false := by rw [I.ok.kind]; rfl
    refine dY (v := .ref a) I5 hN hi (.inl hl) rfl (fun s6 I6 => ?_) (.inr hl)
    refine wpAny_mono ((hs a).out pins s6 _ _ (rc i D) I6.toH (q a F.free)) (fun f s7 h7 => ?_) fun _ _ z => z.elim
    have h7 := SP.ofH I.ok h7
    have go : ∀ {σ' : St} {H'' : Hp} {Q : Unit → Shared → Prop}, Inv X pins σ' H'' s7 → (∀ s8, Inv X pins (σ'.set i none) H'' s8 → Q () s8) → wpAny (model X.prog X.w) X.A (do bindName X.env n .none; unbindBehindTheSuite X.env n hp) Q X.xe s7 := fun {σ' H'' Q} J hQ => by
      obtain ⟨m, hn, hloc⟩ := id J.loc
      refine wpAny_nameGoes_keeps hl hn hcls fun h' v hn' hs' => hQ _ ?_
      obtain ⟨oL, _, _, hoL, _⟩ := id hn
      refine ⟨J.ok, J.os, J.bare, ⟨fun b o e n hb hx => ?_, fun b o e n hb hx => ?_, J.base.free, fun b o e hx => ?_, J.base.tups, J.base.frzs, J.base.tbls⟩, ⟨_, hn', fun j y v' e1 e2 e3 => ?_⟩, fun y c e => ?_, J.free, J.freeC, fun p hp => ?_, fun b ob e => ?_, by simpa using J.len⟩
      · exact (hs'.2 b (Nat.ne_of_lt (Nat.lt_of_lt_of_le (Heap.lt_size e) J.ok.above))).trans (J.base.keep b o e n hb hx)
      · obtain ⟨sl, e1⟩ := J.base.slot b o e n hb hx
        exact ⟨sl, (hs'.2 b (Nat.ne_of_lt (Nat.lt_of_lt_of_le (Heap.lt_size e) J.ok.above))).trans e1⟩
      · obtain ⟨o', e1⟩ := J.base.there b o e hx
        exact ⟨o', (hs'.2 b (Nat.ne_of_lt (Nat.lt_of_lt_of_le (Heap.lt_size e) J.ok.above))).trans e1⟩
      · have hji : j ≠ i := by
          rintro rfl
          have : j < σ'.length := by rw [J.len]; exact (List.getElem?_eq_some_iff.mp hi).1
          rw [List.getElem?_set_self this] at e2; cases e2
        rw [List.getElem?_set_ne (Ne.symm hji)] at e2
        obtain ⟨u, ru, lk⟩ := hloc j y v' e1 e2 e3
        refine ⟨u, ru, ?_⟩
        rcases lk with ⟨k, e⟩ | ⟨k, c, e, z⟩
        · refine .inl ⟨k, ?_⟩
          have : y ≠ n := fun e => hji (jf hN e1 (e ▸ hi))
          simp [this, e]
        · exact .inr ⟨k, c, e, z.sameBut hs' (J.cne y c e)⟩
      · obtain ⟨w', z⟩ := J.cell y c e
        exact ⟨w', z.sameBut hs' (J.cne y c e)⟩
      · obtain ⟨e, n, ne, nf, d⟩ := J.pin p hp
        exact ⟨(hs'.2 p.1 ne).trans e, n, ne, nf, d⟩
      · refine (J.hok b ob e).stay (fun c w' hc q => (hs'.2 c ?_).trans q) (fun _ q => q) fun _ _ q => q
        rintro rfl
        rcases hc with r | hc
        · rw [← r, J.free] at e; cases e
        · rw [J.free] at hc; cases hc
    cases f with
    | next => obtain ⟨σ', H'', J, q'⟩ := h7; exact go J fun s8 J8 => ⟨_, _, J8, q'⟩
    | brk => obtain ⟨σ', H'', J, q'⟩ := h7; exact go J fun s8 J8 => ⟨_, _, J8, q'⟩
    | cont => obtain ⟨σ', H'', J, q'⟩ := h7; exact go J fun s8 J8 => ⟨_, _, J8, q'⟩
    | ret u => obtain ⟨v, σ', H'', J, rv, q'⟩ := h7; exact go J fun s8 J8 => ⟨v, _, _, J8, rv, q'⟩
end
end L2
namespace L2
open PySem PySem.Spec PyProof.Rows
def yp (K : W.Frag) (tb : (St → XK) → TS) (th : TH) (te : TS) : TS := fun D σ H =>
 tb (fun σ' cls d H' => ∃ C, cls = .ref C ∧ cK K C ∧ th D σ' C d H') { D with nx := te D } σ H
abbrev cxT (X : Cx) (pn : List (Addr × Obj)) (E' : Value → Shared → Prop) : Cx := { X with pn := pn, xe := E' }
section
variable {X : Cx} {pins pn : List (Addr × Obj)} {σ : St} {H : Hp} {s : Shared} {E' : Value → Shared → Prop}
theorem Cx.Ok.toT (ok : X.Ok) : (cxT X pn E').Ok := ⟨ok.mod, ok.kind, ok.glob, ok.blt, ok.above, ok.inj, ok.has, ok.cab, ok.hd, ok.frames, ok.stk, ok.exf, ok.bs, ok.bsz, ok.noex, ok.exfs, ok.funs, ok.frf⟩
theorem Inv.toT (I : Inv X pins σ H s) : Inv (cxT X (X.pn ++ pins) E') [] σ H s := ⟨I.ok.toT, I.os, I.bare, I.base, I.loc, I.cell, I.free, I.freeC, fun p hp => I.pin p (by
 have hp : p ∈ (X.pn ++ pins) ++ [] := hp
 rwa [List.append_nil] at hp), I.hok, I.len⟩
theorem Inv.ofT {pins' : List (Addr × Obj)} (ok : X.Ok) (I : Inv (cxT X (X.pn ++ pins) E') pins' σ H s) : Inv X pins σ H s := ⟨ok, I.os, I.bare, I.base, I.loc, I.cell, I.free, I.freeC, fun p hp => I.pin p (List.mem_append_left _ hp), I.hok, I.len⟩
theorem AK {body orelse : List Stmt} {h0 : ExceptHandler} {hs : List ExceptHandler} {pos : Pos} {tb : (St → XK) → TS} {te : TS} {th : TH}
    (hb : ∀ (pn' : List (Addr × Obj)) (E' : Value → Shared → Prop) (EH : St → XK), eI (CX1 X.prog X.w) (cxT X pn' E') EH → QSs (cxT X pn' E') body (tb EH)) (hh : QH X (h0 :: hs) th) (he : QSs X orelse te)
    (e1 : X.stack = X.env :: X.outer := by rfl) (e2 : X.env.frame = some X.env.locals := by rfl) (hex : X.ex = [] := by rfl) : QS X (.Try body (h0 :: hs) orelse [] pos) (yp X.K tb th te) := by
  refine ⟨fun pins s σ H D I h => ?_⟩
  let E' : Value → Shared → Prop := fun e s1 => ∃ σ1 H1 s0 C a d H', e = .ref a ∧ Inv X pins σ1 H1 s0 ∧ Fly X.prog X.w X.stack H1 s0 (.ref C) .none a d H' s1 ∧ cK X.K C ∧ th D σ1 C d H'
  have pass : eI (CX1 X.prog X.w) (cxT X (X.pn ++ pins) E') (fun σ' cls d H' => ∃ C, cls = .ref C ∧ cK X.K C ∧ th D σ' C d H') := by
    intro pins' σ1 H1 s0 e s1 I1 hx
    obtain ⟨a, C, d, H', rfl, F, C', ec, hC, ht⟩ := hx
    cases ec
    exact ⟨σ1, H1, s0, C, a, d, H', rfl, I1.ofT I.ok, F, hC, ht⟩
  refine wpAny_Try_except (wpAny_mono ((hb (X.pn ++ pins) E' _ pass).out [] s σ H _ I.toT h) (fun f s1 h1 => ?_) fun e s1 h1 => ?_)
  · cases f with
    | next =>
      obtain ⟨σ', H', J, q⟩ := h1
      exact he.out pins s1 σ' H' D (J.ofT I.ok) q
    | brk => obtain ⟨σ', H', J, q⟩ := h1; exact ⟨σ', H', J.ofT I.ok, q⟩
    | cont => obtain ⟨σ', H', J, q⟩ := h1; exact ⟨σ', H', J.ofT I.ok, q⟩
    | ret u => obtain ⟨v, σ', H', J, rv, q⟩ := h1; exact ⟨v, σ', H', J.ofT I.ok, rv, q⟩
  · obtain ⟨σ1, H1, s0, C, a, d, H', rfl, I1, F, hC, ht⟩ := h1
    obtain ⟨T, a0, hT0, hT1, f1, f2, f3, f4⟩ := F.flying I1
    have hfr := I1.ok.frames
    rw [e1] at hfr
    have f3' := f3
    rw [e1] at f3'
    have f1' := f1
    have f2' := f2
    have f4' := f4
    rw [e1] at f1' f2' f4'
    refine HT.pW hfr f3' e2 f4' f1' f2' fun h' n1 => ?_
    refine HT.kH (s := { s1 with heap := h' }) n1.st n1.fr n1.tr fun h'' n2 => ?_
    have st : (eE s1.heap X.stack a T).StaysIn h'' := by rw [e1]; exact n2.st
    have tr : HT.TrD h'' (eE s1.heap X.stack a T) a (.ref C) a0 d .none := by rw [e1]; exact n2.tr
    have F3 := F.moved (oT := { cls := .none, data := .dict #[] }) I1.stack I1.stkFree (F.inv I1).stkFree hT0 hT1 st (n1.up.trans n2.up) tr
    exact hh.out pins s0 σ1 H1 H' C a d _ D e1 e2 hex I1 F3 hC ht
end
section
variable {X : Cx}
end
end L2
namespace L2
open PySem PySem.Spec PyProof.Rows
structure iF (K : W.Frag) (C : Addr) : Prop where
 ga : W.findIn K (.ref C) "__getattribute__" = some (some (.builtin "BaseException.__getattribute__"))
 na : W.findIn K (.ref C) "__getattr__" = some none
 cl : W.findIn K (.ref C) "__class__" = some (some (.builtin "object.__class__"))
 mo : W.mroIn K C (.type "object") = some true
 mb : W.mroIn K C (.type "BaseException") = some true
section
variable {K : W.Frag} {prog : Program} {w : World} {A : Around} {E : Value → Shared → Prop} {h : Heap} {g : Array GenState} {d : Drawn} {t : Nat} {os : OsState} {a C : Addr} {o : Obj}
theorem tU {M : Model} {nameV : Value} {Q : Unit → Shared → Prop} (X : K.In h) (G : iF K C) (hx : h.get? a = some o) (hc : o.cls = .ref C) (hq : Q () ⟨h, g, d, t, os⟩) : wpAny M A (checkBuiltinCall "BaseException.__getattribute__" ⟨[.ref a, nameV], []⟩) Q E ⟨h, g, d, t, os⟩ := by
 have hk : builtinKind "BaseException.__getattribute__" = some .slot := by decide +kernel
 have hsplit : splitId "BaseException.__getattribute__" = some ("BaseException", "__getattribute__") := by decide +kernel
 have f8 := W.looks_mroIn (M := M) X G.mb
 have ha := F.args_bexc_ga (.ref a) nameV
 simp only [checkBuiltinCall, hk, hsplit]
 refine wpAny_bind ?_
 · unfold isInstance
   repeat (first | (with_reducible refine wpAny_loadPart_at hx ?_; rw [hc]) | with_reducible refine f8.at ?_ | wp_step)
   exact hq
end
section
variable {X : Cx}
end
end L2
namespace HT
open PySem PyProof.Rows
section
variable {prog : Program} {w : World} {A : Around} {E : Value → Shared → Prop} {s : Shared}
theorem gS {t sl : Addr} {items : Array Value} {vl vu : Value} {lo hi : Option Int} {Q : Value → Shared → Prop} (ht : IsTup s.heap t items) (hs : s.heap.IsSliceOf sl vl vu .none) (pl : IsPart vl lo) (pu : IsPart vu hi)
  (hw : sIx items.size 0 lo = 0 ∧ sIx items.size items.size hi = items.size) (h : Q (.ref t) s) : wpAny (model prog w) A (getItem (.ref t) (.ref sl)) Q E s := by
 obtain ⟨os, hos, hcs, hds⟩ := id hs
 have hTs : s.TypeIs (.ref sl) "slice" := ⟨os, hos, hcs⟩
 unfold getItem
 try with_reducible refine wpAny_holding ?_
 first | refine wpAny_bind (wpAny_pure ?_) | skip
 refine wpAny_bind (wpAny_sequenceKey ht.typeIs (by decide) ?_)
 refine wpAny_bind (wpAny_callSpecial?_slot (name := Str.ofString "__getitem__") ht.typeIs PyProof.Rows.slot_tuple_getitem
  (wpAny_call_entry PyProof.Rows.slot_tuple_getitem ht.typeIs entry_tuple_getitem ?_ (args_tuple_getitem _ _)))
 show wpAny _ _ (Builtin.Tuple.tupleItemsOf (.ref t) >>= _) _ _ s
 refine wpAny_bind (tupleItemsOf_ ht ?_)
 refine wpAny_bind (wpAny_typeOf hTs ?_)
 rw [if_pos (by decide)]
 refine wpAny_bind (ft hs pl pu ?_)
 have hyes : (((sIx items.size 0 lo : Nat) : Int) == 0 && (1 : Int) == 1 && (sIx items.size items.size hi - sIx items.size 0 lo) == items.size) = true := by
  rw [hw.1, hw.2]; simp
 show wpAny _ _ (if (((sIx items.size 0 lo : Nat) : Int) == 0 && (1 : Int) == 1 && (sIx items.size items.size hi - sIx items.size 0 lo) == items.size) = true then _ else _) _ _ s
 rw [if_pos hyes]
 have hte : s.TypeIs (.ref t) "tuple" := ht.typeIs
 unfold Builtin.Tuple.tupleIsExact
 repeat (first | exact ⟨_, rfl, wpAny_pure h⟩ | (with_reducible refine wpAny_typeOf hte ?_) | wp_step)
end
end HT
namespace HT
open PySem PyProof.Rows
section
variable {prog : Program} {w : World} {A : Around} {E : Value → Shared → Prop} {s : Shared}
theorem vi {t b : Addr} {ws : List Value} {Q : Value → Shared → Prop} (ht : IsTup s.heap t #[]) (hb : IsTup s.heap b ws.toArray) (h1 : Q (.ref b) s) : wpAny (model prog w) A (binaryOp .Add (.ref t) (.ref b)) Q E s := by
 obtain ⟨⟨cls, dd, data, sl⟩, ho, hc, n, hd⟩ := id ht
 obtain ⟨⟨cls2, dd2, data2, sl2⟩, ho2, hc2, n2, hd2⟩ := id hb
 simp only at hc hd hc2 hd2
 subst hc hd hc2 hd2
 exact concat_meets ⟨_, ho, rfl⟩ ⟨_, ho2, rfl⟩ noFill_tuple_add seq_tuple_add PySem.F.slot_tuple_add PySem.F.entry_tuple_add (PySem.F.args_tuple_add_2 _ _)
  (tuple_addW0 t b #[] ws.toArray n n2 dd dd2 sl sl2 (by simp)) ⟨ho, ho2, h1⟩
end
end HT
namespace L2
open PySem PySem.Spec PyProof.Rows
theorem au.rfl' {H : Hp} : au H H := fun _ _ e => e
theorem qw {xs : List V} {lo hi : Option Int} (h : HT.sIx xs.length 0 lo = 0 ∧ HT.sIx xs.length xs.length hi = xs.length) : eu xs lo hi = xs := by
 unfold eu
 rw [h.1, h.2, List.drop_zero, Nat.sub_zero, List.take_length]
section
variable {X : Cx}
def ww : V → Option Int → Option Int → Hp → VK → Prop := fun x lo hi H Q => ∃ a xs, x = .ref a ∧ H a = some (.tup xs) ∧ ∀ p H', au H H' → H' p = some (.tup (eu xs lo hi)) → Q (.ref p) H'
theorem xB : SlR X ww := by
 intro pins s σ H x v vl vu lo hi sl Q I rx hs pl pu h
 obtain ⟨a, xs, rfl, hx, q⟩ := h
 have hq : SqT X.K H a xs := .inl (.inl hx)
 by_cases hw : HT.sIx xs.length 0 lo = 0 ∧ HT.sIx xs.length xs.length hi = xs.length
 · cases rx
   obtain ⟨its, r, ht, hz⟩ := I.tuple hq
   have hlen : its.toArray.size = xs.length := by rw [List.size_toArray]; exact r.length.symm
   refine ⟨"tuple", _, PyProof.Rows.slot_tuple_getitem.lookup, ht.typeIs, ?_⟩
   refine HT.gS ht hs pl pu (by rw [hlen]; exact hw) ?_
   exact ⟨.ref a, H, I, rfl, q a H au.rfl' (by rw [qw hw]; exact hx)⟩
 · exact zt pins s σ H _ v vl vu lo hi sl Q I rx hs pl pu ⟨a, xs, rfl, hq, hw, fun p hp => q p _ (au.upd hp) (am ..)⟩
def vG : R2 := fun x y H Q => ∃ a b xs ys, x = .ref a ∧ y = .ref b ∧ H a = some (.tup xs) ∧ H b = some (.tup ys) ∧ xs.length + ys.length ≤ sizeLine ∧ ∀ p H', au H H' → H' p = some (.tup (xs ++ ys)) → Q (.ref p) H'
theorem xr : OpR X (binaryOp .Add) vG := by
 intro pins s σ H x y v u Q I rx ry h
 obtain ⟨a, b, xs, ys, rfl, rfl, ha, hb, hz, q⟩ := h
 by_cases hx : xs = []
 · subst hx
   cases rx
   cases ry
   obtain ⟨its, r1, p1, _⟩ := I.tuple (.inl (.inl ha))
   obtain ⟨its2, r2, p2, _⟩ := I.tuple (.inl (.inl hb))
   cases r1
   exact HT.vi p1 p2 ⟨.ref b, H, I, rfl, q b H au.rfl' hb⟩
 · refine wU pins s σ H _ _ v u Q I rx ry ⟨a, b, xs, ys, rfl, rfl, .inl (.inl ha), .inl (.inl hb), hx, hz, fun e => ?_, fun _ p hp => q p _ (au.upd hp) (am ..)⟩
   subst e
   exact q a H au.rfl' (by rw [List.append_nil]; exact ha)
def bh (K : W.Frag) : R2 := fun x y H Q => match x, y with
 | .int i, .int j => Q (.int (i + j)) H
 | .str i, .str j => i.length + j.length ≤ sizeLine ∧ Q (.str (i ++ j)) H
 | .ref a, .ref b => zh (.ref a) (.ref b) H Q ∨ vG (.ref a) (.ref b) H Q
 | _, _ => False
theorem bz : OpR X (binaryOp .Add) (bh X.K) := (yb.or (qd.or (yn.or xr))).imp fun x y H Q q => by
 unfold bh at q
 split at q
 · exact .inl ⟨_, _, rfl, rfl, q⟩
 · exact .inr (.inl ⟨_, _, rfl, rfl, q.1, q.2⟩)
 · exact .inr (.inr q)
 · exact q.elim
def zm (K : W.Frag) : V → Option Int → Option Int → Hp → VK → Prop := fun x lo hi H Q => zP K x lo hi H Q ∨ ww x lo hi H Q
theorem zw : SlR X (zm X.K) := xn.or xB
def pO (t : TE) : TE := fun σ H Q => t σ H fun x H' => match x with
 | .int i => i.natAbs.log2 < 1920 ∧ Q (.str (toString i)) H'
 | .str z => z.length ≤ sizeLine ∧ Q (.str z) H'
 | _ => False
theorem qq {e : Expr} {te : TE} {pos : Pos} (h : QE X e te) : QE X (.FormattedValue e (-1) none pos) (pO te) := ⟨fun pins s σ H Q I q => by
 refine FormattedValue_plain (thn (h.out pins s σ H _ I q) fun v s1 ⟨x, H1, I1, r1, q1⟩ => ?_)
 cases x <;> first | exact q1.elim | skip
 · rename_i i
   obtain ⟨t, rfl⟩ := (show ∃ t, v = Value.int i t from r1)
   exact formatField_int_small q1.1 ⟨.str _, H1, I1.tok _, ⟨_, rfl⟩, q1.2⟩
 · rename_i z
   obtain ⟨t, rfl⟩ := (show ∃ t, v = Value.str z t from r1)
   exact formatField_str (fun t' tk => ⟨.str _, H1, I1.tok _, ⟨_, rfl⟩, q1.2⟩) q1.1⟩
def mJ : List TE → Str → TE
  | [], acc => fun σ H Q => acc.length ≤ sizeLine ∧ Q (.str acc) H
  | t :: r, acc => fun σ H Q => t σ H fun x H' => match x with
    | .str y => (acc ++ y).length ≤ sizeLine ∧ mJ r (acc ++ y) σ H' Q
    | _ => False
inductive QJ (X : Cx) : List Expr → List TE → Prop where
 | nil : QJ X [] []
 | cons {e : Expr} {t : TE} {es : List Expr} {ts : List TE} : QE X e t → QJ X es ts → QJ X (e :: es) (t :: ts)
theorem BA {es : List Expr} {ts : List TE} (j : QJ X es ts) : ∀ {pins : List (Addr × Obj)} {s : Shared} {σ : St} {H : Hp} {Q : VK} {acc : Str}, Inv X pins σ H s → mJ ts acc σ H Q → wpAny (model X.prog X.w) X.A (joinParts acc (evalEach es X.env)) (EP X pins σ Q) X.xe s := by
  induction j with
  | nil => intro pins s σ H Q acc I q; exact joinParts_nil ⟨.str _, H, I.tok _, ⟨_, rfl⟩, q.2⟩ q.1
  | cons h _ ih =>
    intro pins s σ H Q acc I q
    refine joinParts_cons (thn (h.out pins s σ H _ I q) fun v s1 ⟨x, H1, I1, r1, q1⟩ => ?_)
    cases x <;> first | exact q1.elim | skip
    rename_i z
    obtain ⟨t, rfl⟩ := (show ∃ t, v = Value.str z t from r1)
    exact ⟨q1.1, ih I1 q1.2⟩
theorem rH {v1 v2 : Expr} {bP : List Expr} {ts : List TE} {pos : Pos} (j : QJ X (v1 :: v2 :: bP) ts) : QE X (.JoinedStr (v1 :: v2 :: bP) pos) (mJ ts Str.empty) := ⟨fun pins s σ H Q I q => JoinedStr_many (BA j I q)⟩
end
end L2
namespace L2
open PySem PySem.Spec PyProof.Rows
theorem vq {K : W.Frag} {C D : Addr} {b : Bool} (h : W.mroIn K C (.ref D) = some b) : gG K C D = some b := by
 unfold W.mroIn W.clsIn at h
 unfold gG
 split at h
 · rename_i cd sl e
   rw [e]
   dsimp only [Option.bind] at h ⊢
   split at h
   · cases h
   · exact h
 · cases h
theorem Fun.okN {P : Program} {w : World} {K : W.Frag} {mg : Str → Option Value} {base : Heap} {CX : CXT} {x qual : Str} {st : Stmt} {f : Addr} {fd : FuncData} {N ps : List Str} {k : Nat} {sp : Sp} (F : Fun K x qual st f fd) (S : az N ps (ai st)) (len : ∀ vs H Q E, sp vs H Q E → vs.length = ps.length)
  (hbody : ∀ (cdv : Value) (A : Around) (outer : List Env) (s : Shared) (H : Hp) (vs : List V) (Q : VK) (E : XK), ba k (A.deeper (envOfC qual (ai st) s.heap.objs.size f cdv)) → sp vs H Q E →
   ∃ t, PSs (cI CX P w K mg base N qual (ai st) f cdv A outer s H E).nox (aL st) t ∧ t { nx := fun _ H' => Q .non H', rt := Q } (start N vs) H) : aU P w K mg base CX (k + 1) f fd ps sp := by
 obtain ⟨oc, od, kV, doc, pm, an, cdv, ct, osl, rfl, lk, hcd⟩ := F.ex
 refine wt lk hcd S len fun A outer s H vs Q E hr hsp => ?_
 obtain ⟨t, h, q⟩ := hbody cdv A outer s H vs Q E hr hsp
 exact ⟨t, h.nox, q⟩
end L2
namespace L2
open PySem PySem.Spec PyProof.Rows
section
variable {X : Cx}
def Aa : V → Option Int → Option Int → Hp → VK → Prop := fun x lo hi H Q => ∃ z, x = .str z ∧ z.length ≤ sizeLine ∧ Q (.str (Txt.slice z lo hi)) H
theorem zJ : SlR X Aa := by
  intro pins s σ H x v vl vu lo hi sl Q I rx hs pl pu h
  obtain ⟨z, rfl, hz, q⟩ := h
  obtain ⟨t, rfl⟩ := (show ∃ t, v = Value.str z t from rx)
  refine ⟨"str", _, F.slot_str_getitem.lookup, typeIs_str _ _ _, ?_⟩
  have fin : ∀ (l u : Option (Int × Tok)), l.map (·.1) = lo → u.map (·.1) = hi → s.heap.IsSlice sl l u none → wpAny (model X.prog X.w) X.A (getItem (.str z t) (.ref sl)) (EP X pins σ Q) X.xe s := fun l u e1 e2 hs' => by
    subst e1 e2
    refine wpAny_getItem_str_slice (l := l) (u := u) (st := none) hs' rfl (post_val_or_str ⟨Nat.le_trans (Txt.slice_le z _ _) hz, fun t' k => ⟨.str _, H, I.tok k, ⟨_, rfl⟩, q⟩⟩)
  obtain ⟨os, hos, hcs, hds⟩ := hs
  cases pl with
  | none => cases pu with
    | none => exact fin none none rfl rfl ⟨os, hos, hcs, hds⟩
    | int j tj => exact fin none (some (j, tj)) rfl rfl ⟨os, hos, hcs, hds⟩
  | int i ti => cases pu with
    | none => exact fin (some (i, ti)) none rfl rfl ⟨os, hos, hcs, hds⟩
    | int j tj => exact fin (some (i, ti)) (some (j, tj)) rfl rfl ⟨os, hos, hcs, hds⟩
def ig (K : W.Frag) : V → Option Int → Option Int → Hp → VK → Prop := fun x lo hi H Q => zm K x lo hi H Q ∨ Aa x lo hi H Q
theorem ia : SlR X (ig X.K) := zw.or zJ
def hJ : V → Bool
 | .int _ => true
 | .str _ => true
 | _ => false
theorem qF {A : Around} {s : Shared} {x y : V} {u v : Value} (rx : aC x u) (ry : aC y v) (hx : hJ x = true) (hy : hJ y = true) : PySem.SeqAt.EqAt A s u v (decide (x = y)) := by
 cases x <;> first | cases hx | skip
 all_goals (cases y <;> first | cases hy | skip)
 · obtain ⟨t, rfl⟩ := rx; obtain ⟨t', rfl⟩ := ry
   have e := PySem.SeqAt.EqAt.int_int (A := A) (s := s) ‹Int› t ‹Int› t'
   rename_i i j
   have e2 : decide (V.int i = V.int j) = (i == j) := by rw [im (f := V.int) fun _ _ e => V.int.inj e]; rfl
   rw [e2]; exact PySem.SeqAt.EqAt.int_int i t j t'
 · obtain ⟨t, rfl⟩ := rx; obtain ⟨t', rfl⟩ := ry
   exact PySem.SeqAt.EqAt.int_str _ _ _ _
 · obtain ⟨t, rfl⟩ := rx; obtain ⟨t', rfl⟩ := ry
   exact PySem.SeqAt.EqAt.str_int _ _ _ _
 · obtain ⟨t, rfl⟩ := rx; obtain ⟨t', rfl⟩ := ry
   rename_i i j
   have e2 : decide (V.str i = V.str j) = (i == j) := by
    rw [im (f := V.str) fun _ _ e => V.str.inj e]
    by_cases h : i = j
    · rw [h]; simp
    · rw [decide_eq_false h]; exact (beq_eq_false_iff_ne.mpr h).symm
   rw [e2]; exact PySem.SeqAt.EqAt.str_str i t j t'
theorem sy {xs ys : List V} : decide (xs = ys) = ((List.range (min xs.length ys.length)).all (fun j => decide (xs[j]? = ys[j]?)) && xs.length == ys.length) := by
 by_cases h : xs = ys
 · subst h; simp
 · rw [decide_eq_false h]
   by_cases hl : xs.length = ys.length
   · rw [hl, Nat.min_self, beq_self_eq_true, Bool.and_true]
     symm
     rw [List.all_eq_false]
     apply Classical.byContradiction
     intro hn
     apply h
     apply List.ext_getElem? fun i => ?_
     by_cases hi : i < ys.length
     · apply Classical.byContradiction
       intro hne
       exact hn ⟨i, List.mem_range.mpr hi, by simpa using hne⟩
     · rw [List.getElem?_eq_none (by omega), List.getElem?_eq_none (by omega)]
   · have : (xs.length == ys.length) = false := by simpa using hl
     rw [this, Bool.and_false]
def Au (K : W.Frag) : R2 := fun x y H Q => ∃ a b xs ys, x = .ref a ∧ y = .ref b ∧ SqT K H a xs ∧ SqT K H b ys ∧ xs.all hJ = true ∧ ys.all hJ = true ∧ Q (.bl (decide (xs = ys))) H
theorem yg (hu : X.A.units < cLine) : OpR X (compareOp .Eq) (Au X.K) := by
 intro pins s σ H x y v u Q I rx ry h
 obtain ⟨a, b, xs, ys, rfl, rfl, ha, hb, px, py, q⟩ := h
 cases rx
 cases ry
 obtain ⟨its, r1, p1, _⟩ := I.tuple ha
 obtain ⟨its2, r2, p2, _⟩ := I.tuple hb
 have l1 := r1.length
 have l2 := r2.length
 refine PySem.SeqAt.eq_tupleAt (e := fun j => decide (xs[j]? = ys[j]?)) p1 p2 hu (fun j h1 h2 => ?_) ?_
 · have h1 : j < its.length := by simpa using h1
   have h2 : j < its2.length := by simpa using h2
   have e1 : xs[j]? = some xs[j] := List.getElem?_eq_getElem (by omega)
   have e2 : ys[j]? = some ys[j] := List.getElem?_eq_getElem (by omega)
   obtain ⟨u1, g1, ru1⟩ := r1.get e1
   obtain ⟨u2, g2, ru2⟩ := r2.get e2
   have g1' : its.toArray[j] = u1 := by
    rw [List.getElem?_eq_getElem h1] at g1; simpa using Option.some.inj g1
   have g2' : its2.toArray[j] = u2 := by
    rw [List.getElem?_eq_getElem h2] at g2; simpa using Option.some.inj g2
   rw [g1', g2', e1, e2]
   have : decide (some xs[j] = some ys[j]) = decide (xs[j] = ys[j]) := by simp
   rw [this]
   exact qF ru1 ru2 (List.all_eq_true.mp px _ (List.getElem_mem _)) (List.all_eq_true.mp py _ (List.getElem_mem _))
 · have e := sy (xs := xs) (ys := ys)
   rw [l1, l2] at e
   simp only [List.size_toArray]
   rw [← e]
   exact ⟨.bl _, H, I, rfl, q⟩
def pH : List V → Hp → VK → Prop := fun xs H Q => match xs with
 | [.str z] => ∃ n, PySem.intText? z = some n ∧ z.length ≤ 640 ∧ Q (.int n) H
 | [.bl b] => Q (.int (if b then 1 else 0)) H
 | _ => False
theorem Ab : bF X (.type "int") pH := fun pins s σ H xs us Q I r h => by
 unfold pH at h
 split at h
 · obtain ⟨n, h1, h2, q⟩ := h
   obtain ⟨u, rfl, ru⟩ := eX r
   obtain ⟨t, rfl⟩ := ru
   exact W.KIN.call_text h1 h2 ⟨.int n, H, I.tok _, ⟨_, rfl⟩, q⟩
 · obtain ⟨u, rfl, ru⟩ := eX r
   cases ru
   exact call_int_bool ⟨.int _, H, I.tok _, ⟨_, rfl⟩, h⟩
 · exact h.elim
end
end L2
namespace HT
open PySem PyProof.Rows
section
variable {prog : Program} {w : World} {A : Around} {E : Value → Shared → Prop} {s : Shared}
theorem fi {it t : Addr} {i : Nat} {items : Array Value} {x : Value} {Q : Value → Shared → Prop} (hit : s.heap.IsTupleIter it t i) (ht : s.heap.IsTuple t items) (hx : items[i]? = some x)
  (hQ : ∀ h', h'.IsTupleIter it t (i + 1) → Heap.SameBut it s.heap h' → Q x { s with heap := h' }) : wpAny (model prog w) A (Builtin.SmallTypes.nextOf (.ref it)) Q E s := by
 obtain ⟨o, ho, hc, hd⟩ := id hit
 obtain ⟨ol, hol, _, nl, hdl⟩ := ht
 unfold Builtin.SmallTypes.nextOf
 refine wpAny_bind (wpAny_callSpecial?_slot (name := Str.ofString "__next__") hit.typeIs F.slot_tuple_iterator_next
  (wpAny_call_entry F.slot_tuple_iterator_next hit.typeIs F.entry_tuple_iterator_next ?_ (F.args_tuple_iterator_next_1 _)))
 show wpAny _ _ (field (.ref it) 0 >>= _) _ _ s
 refine wpAny_bind (wpAny_field ho hd (x := .ref t) rfl ?_)
 show wpAny _ _ (if (Value.ref t == Value.none) = true then _ else _) _ _ s
 rw [if_neg (show ¬ ((Value.ref t == Value.none) = true) from Bool.false_ne_true)]
 show wpAny _ _ (field (.ref it) 1 >>= _) _ _ s
 refine wpAny_bind (wpAny_field ho hd (x := .int i 0) rfl ?_)
 show wpAny _ _ (seqItems? (.ref t) >>= _) _ _ s
 refine wpAny_bind (wpAny_seqItems hol hdl ?_)
 simp only [Int.toNat_natCast, hx]
 refine wpAny_bind (wpAny_setField ho hd (by simp) (wpAny_pure ⟨x, rfl, wpAny_pure (hQ _ ?_ (Heap.SameBut.update ..))⟩))
 exact ⟨_, Heap.get?_update_self _ ho (Obj.isFreed_of_fields (Obj.data_mapFields hd _)), (Obj.cls_mapFields ..).trans hc, by rw [Obj.data_mapFields hd]; simp [rawInt]⟩
theorem iq {it t : Addr} {i : Nat} {items : Array Value} {Q : Value → Shared → Prop} (hh : A.handled = none) (hit : s.heap.IsTupleIter it t i) (ht : s.heap.IsTuple t items) (hx : items[i]? = none)
  (hE : ∀ h' e, Heap.ExtBut it s.heap h' → (∃ o, h'.get? e = some o ∧ o.cls = .type "StopIteration") → E (.ref e) { s with heap := h' }) : wpAny (model prog w) A (Builtin.SmallTypes.nextOf (.ref it)) Q E s := by
 obtain ⟨o, ho, hc, hd⟩ := id hit
 obtain ⟨ol, hol, _, nl, hdl⟩ := ht
 unfold Builtin.SmallTypes.nextOf
 refine wpAny_bind (wpAny_callSpecial?_slot (name := Str.ofString "__next__") hit.typeIs F.slot_tuple_iterator_next
  (wpAny_call_entry F.slot_tuple_iterator_next hit.typeIs F.entry_tuple_iterator_next ?_ (F.args_tuple_iterator_next_1 _)))
 show wpAny _ _ (field (.ref it) 0 >>= _) _ _ s
 refine wpAny_bind (wpAny_field ho hd (x := .ref t) rfl ?_)
 show wpAny _ _ (if (Value.ref t == Value.none) = true then _ else _) _ _ s
 rw [if_neg (show ¬ ((Value.ref t == Value.none) = true) from Bool.false_ne_true)]
 show wpAny _ _ (field (.ref it) 1 >>= _) _ _ s
 refine wpAny_bind (wpAny_field ho hd (x := .int i 0) rfl ?_)
 show wpAny _ _ (seqItems? (.ref t) >>= _) _ _ s
 refine wpAny_bind (wpAny_seqItems hol hdl ?_)
 simp only [Int.toNat_natCast, hx]
 refine wpAny_bind (wpAny_rule (wpAny_bind (wpAny_setField ho hd (by simp) ?_)))
 show wpAny _ _ (newExc (.type "StopIteration") [] >>= _) _ _ _
 refine wpAny_bind ?_
 simp only [newExc, newTuple]
 refine wpAny_bind (wpAny_newObj_type ?_ (by size_fits))
 refine wpAny_bind (m := firstArgMember _ _) (wpAny_of_eq (a := Value.none) (by first | rfl | (simp only [firstArgMember]; rfl)) ?_)
 refine wpAny_newObj_type ?_ (by size_fits)
 simp only [raiseNew]
 refine wpAny_bind (wpAny_handled ?_)
 first | rw [show A.in1.handled = none from hh] | rw [hh]
 refine wpAny_bind (wpAny_pure (wpAny_throw ?_))
 exact hE _ _ (((Heap.SameBut.update ..).extBut.push _).push _) ⟨_, Heap.get?_push_size _ rfl, rfl⟩
structure jT (h : Heap) (z TI TO i1 i2 t1 t2 : Addr) (xs ys : Array Value) (f0 : Value) (k : Nat) : Prop where
 z : IsZip h z TI TO f0
 ti : IsPair h TI (.ref i1) (.ref i2)
 to : ∃ a b, IsPair h TO a b
 j1 : h.IsTupleIter i1 t1 k
 j2 : h.IsTupleIter i2 t2 k
theorem rM {z TI TO i1 i2 t1 t2 : Addr} {k : Nat} {xs ys : Array Value} {x y : Value} {Q : Option Value → Shared → Prop} (D : ZipApart z TI TO i1 i2 t1 t2) (Z : jT s.heap z TI TO i1 i2 t1 t2 xs ys .none k)
  (ht1 : s.heap.IsTuple t1 xs) (ht2 : s.heap.IsTuple t2 ys) (hx : xs[k]? = some x) (hy : ys[k]? = some y)
  (hQ : ∀ h', jT h' z TI TO i1 i2 t1 t2 xs ys (rawInt s.heap.objs.size) (k + 1) → IsPair h' s.heap.objs.size x y →
   (∀ c o, c ≠ z → c ≠ TO → c ≠ i1 → c ≠ i2 → s.heap.get? c = some o → h'.get? c = some o) → Q (some (.ref s.heap.objs.size)) { s with heap := h' }) :
  wpAny (model prog w) A (pyNext (.ref z)) Q E s := by
 obtain ⟨hz, hTI, ⟨a, b, hTO⟩, h1, h2⟩ := Z
 have hT : s.TypeIs (.ref z) "zip" := ⟨_, hz, rfl⟩
 unfold pyNext
 refine wpAny_bind (wpAny_attempt (wpAny_callSpecial?_slot (name := Str.ofString "__next__") hT F.slot_zip_next (wpAny_call_entry F.slot_zip_next hT F.entry_zip_next ?_ (F.args_zip_next_1 _))))
 show wpAny _ _ (field (.ref z) 2 >>= _) _ _ _
 refine wpAny_bind (wpAny_field hz rfl (x := .bool false) rfl ?_)
 show wpAny _ _ (field (.ref z) 3 >>= _) _ _ _
 refine wpAny_bind (wpAny_field hz rfl (x := .ref TI) rfl (wpAny_bind (wpAny_seqItems hTI rfl ?_)))
 show wpAny _ _ (Builtin.SmallTypes.ownedTupleIsFree (.ref z) >>= _) _ _ _
 refine wpAny_bind ?_
 unfold Builtin.SmallTypes.ownedTupleIsFree
 refine wpAny_bind (wpAny_field hz rfl (x := .none) rfl (wpAny_pure ?_))
 simp only [if_true]
 refine wpAny_bind (wpAny_rule (wpAny_bind (wpAny_field hz rfl (x := .ref TO) rfl (wpAny_bind (wpAny_setField_rec hz (by simp) fun ha hza hsa => wpAny_bind ?_)))))
 replace hza : IsZip ha z TI TO .ellipsis := hza
 simp only [List.zipIdx_cons, List.zipIdx_nil, List.forIn_cons, List.forIn_nil]
 refine wpAny_bind (wpAny_bind (wpAny_onRaise ?_))
 show wpAny _ _ (Builtin.SmallTypes.nextOf (.ref i1) >>= _) _ _ _
 refine wpAny_bind (fi (h1.at fun o e => hsa.extBut _ _ D.i1z e) (ht1.at fun o e => hsa.extBut _ _ D.l1z e) hx fun hb h1b hsb => wpAny_pure ?_)
 have hTOb : IsPair hb TO a b := hsb.extBut _ _ D.TOi1 (hsa.extBut _ _ D.TOz hTO)
 refine wpAny_bind (wpAny_seqItems hTOb rfl (wpAny_bind (wpAny_updateSeq_pair hTOb fun hc hTOc hsc => ?_)))
 replace hTOc : IsPair hc TO x b := hTOc
 refine wpAny_bind (wpAny_letGo (wpAny_pure ?_))
 refine wpAny_bind (wpAny_bind (wpAny_onRaise ?_))
 show wpAny _ _ (Builtin.SmallTypes.nextOf (.ref i2) >>= _) _ _ _
 refine wpAny_bind (fi (h2.at fun o e => hsc.extBut _ _ D.TOi2.symm (hsb.extBut _ _ D.i12.symm (hsa.extBut _ _ D.i2z e)))
  (ht2.at fun o e => hsc.extBut _ _ D.l2TO (hsb.extBut _ _ D.l2i1 (hsa.extBut _ _ D.l2z e))) hy fun hd h2d hsd => wpAny_pure ?_)
 have hTOd : IsPair hd TO x b := hsd.extBut _ _ D.TOi2 hTOc
 refine wpAny_bind (wpAny_seqItems hTOd rfl (wpAny_bind (wpAny_updateSeq_pair hTOd fun he hTOe hse => ?_)))
 replace hTOe : IsPair he TO x y := hTOe
 refine wpAny_bind (wpAny_letGo (wpAny_pure (wpAny_pure ?_)))
 refine wpAny_bind (wpAny_seqItems hTOe rfl (wpAny_bind (wpAny_newTuple ?_)))
 have hsz : he.objs.size = s.heap.objs.size := by rw [hse.1, hsd.1, hsc.1, hsb.1, hsa.1]
 have hze : IsZip he z TI TO .ellipsis := hse.extBut _ _ D.TOz.symm (hsd.extBut _ _ D.i2z.symm (hsc.extBut _ _ D.TOz.symm (hsb.extBut _ _ D.i1z.symm hza)))
 have hke : ∀ c o, c ≠ z → c ≠ TO → c ≠ i1 → c ≠ i2 → s.heap.get? c = some o → he.get? c = some o := fun c o c1 c2 c3 c4 e =>
  hse.extBut _ _ c2 (hsd.extBut _ _ c4 (hsc.extBut _ _ c2 (hsb.extBut _ _ c3 (hsa.extBut _ _ c1 e))))
 have h1e : he.IsTupleIter i1 t1 (k + 1) := h1b.at fun o e => hse.extBut _ _ D.TOi1.symm (hsd.extBut _ _ D.i12 (hsc.extBut _ _ D.TOi1.symm e))
 have h2e : he.IsTupleIter i2 t2 (k + 1) := h2d.at fun o e => hse.extBut _ _ D.TOi2.symm e
 show wpAny _ _ (Builtin.SmallTypes.ownedTupleHandOut (.ref z) (.ref he.objs.size) >>= _) _ _ _
 refine wpAny_bind ?_
 unfold Builtin.SmallTypes.ownedTupleHandOut
 have hzf : IsZip (he.push { cls := .type "tuple", data := .seq #[x, y] }) z TI TO .ellipsis := Heap.get?_push_of_some _ hze
 refine wpAny_bind (wpAny_setField_rec hzf (by simp) fun hg hzg hsg => ?_)
 replace hzg : IsZip hg z TI TO (rawInt he.objs.size) := hzg
 refine wpAny_setField_rec hzg (by simp) fun hh hzh hsh => ?_
 replace hzh : IsZip hh z TI TO (rawInt he.objs.size) := hzh
 have up : ∀ c o, c ≠ z → he.get? c = some o → hh.get? c = some o := fun c o c1 e => hsh.extBut _ _ c1 (hsg.extBut _ _ c1 (Heap.get?_push_of_some _ e))
 have hTh : IsPair hh he.objs.size x y := hsh.extBut _ _ (Nat.ne_of_gt (Heap.lt_size hze)) (hsg.extBut _ _ (Nat.ne_of_gt (Heap.lt_size hze)) (Heap.get?_push_size _ rfl))
 rw [hsz] at hzh hTh
 have fin := hQ hh ⟨hzh, up _ _ D.TIz (hke _ _ D.TIz D.TITO D.TIi1 D.TIi2 hTI), ⟨x, y, up _ _ D.TOz hTOe⟩, h1e.at fun o e => up _ o D.i1z e, h2e.at fun o e => up _ o D.i2z e⟩ hTh fun c o c1 c2 c3 c4 e => up c o c1 (hke c o c1 c2 c3 c4 e)
 rw [← hsz] at fin
 exact wpAny_pure ⟨_, rfl, wpAny_pure fin⟩
theorem sT {z TI TO i1 i2 t1 t2 : Addr} {k : Nat} {xs ys : Array Value} {Q : Option Value → Shared → Prop} (hh : A.handled = none) (D : ZipApart z TI TO i1 i2 t1 t2) (Z : jT s.heap z TI TO i1 i2 t1 t2 xs ys .none k)
    (ht1 : s.heap.IsTuple t1 xs) (ht2 : s.heap.IsTuple t2 ys) (hend : xs[k]? = none ∨ ys[k]? = none)
    (hQ : ∀ h', (∀ c o, c ≠ z → c ≠ TO → c ≠ i1 → c ≠ i2 → s.heap.get? c = some o → h'.get? c = some o) → Q none { s with heap := h' }) : wpAny (model prog w) A (pyNext (.ref z)) Q E s := by
  obtain ⟨hz, hTI, ⟨a, b, hTO⟩, h1, h2⟩ := Z
  have hT : s.TypeIs (.ref z) "zip" := ⟨_, hz, rfl⟩
  have fin : ∀ h' e, (∀ c o, c ≠ z → c ≠ TO → c ≠ i1 → c ≠ i2 → s.heap.get? c = some o → h'.get? c = some o) → (∃ o, h'.get? e = some o ∧ o.cls = .type "StopIteration") →
      wpAny (model prog w) A (do if ← isInstance (.ref e) (.type "StopIteration") then pure none else throw (.ref e)) Q E { s with heap := h' } := fun h' e hk ⟨o, ho, hc⟩ =>
    wpAny_bind (wpAny_isInstance (T := "StopIteration") (b := true) ⟨o, ho, hc⟩ isSubtype_stop (wpAny_pure (hQ _ hk)))
  unfold pyNext
  refine wpAny_bind (wpAny_attempt (wpAny_callSpecial?_slot (name := Str.ofString "__next__") hT F.slot_zip_next (wpAny_call_entry F.slot_zip_next hT F.entry_zip_next ?_ (F.args_zip_next_1 _))))
  show wpAny _ _ (field (.ref z) 2 >>= _) _ _ _
  refine wpAny_bind (wpAny_field hz rfl (x := .bool false) rfl ?_)
  show wpAny _ _ (field (.ref z) 3 >>= _) _ _ _
  refine wpAny_bind (wpAny_field hz rfl (x := .ref TI) rfl (wpAny_bind (wpAny_seqItems hTI rfl ?_)))
  show wpAny _ _ (Builtin.SmallTypes.ownedTupleIsFree (.ref z) >>= _) _ _ _
  refine wpAny_bind ?_
  unfold Builtin.SmallTypes.ownedTupleIsFree
  refine wpAny_bind (wpAny_field hz rfl (x := .none) rfl (wpAny_pure ?_))
  simp only [if_true]
  refine wpAny_bind (wpAny_rule (wpAny_bind (wpAny_field hz rfl (x := .ref TO) rfl (wpAny_bind (wpAny_setField_rec hz (by simp) fun ha hza hsa => wpAny_bind ?_)))))
  replace hza : IsZip ha z TI TO .ellipsis := hza
  simp only [List.zipIdx_cons, List.zipIdx_nil, List.forIn_cons, List.forIn_nil]
  refine wpAny_bind (wpAny_bind (wpAny_onRaise ?_))
  show wpAny _ _ (Builtin.SmallTypes.nextOf (.ref i1) >>= _) _ _ _
  cases hx : xs[k]? with
  | none =>
    refine wpAny_bind (iq hh (h1.at fun o e => hsa.extBut _ _ D.i1z e) (ht1.at fun o e => hsa.extBut _ _ D.l1z e) hx fun hb e hsb he => ?_)
    obtain ⟨oe, hoe, hce⟩ := he
    have hzb : IsZip hb z TI TO .ellipsis := hsb _ _ D.i1z.symm hza
    have hez : e ≠ z := fun x => by subst x; rw [hzb] at hoe; cases hoe; simp at hce
    exact wpAny_setField_rec hzb (by simp) fun hc _ hsc => fin hc e (fun c o c1 _ c3 _ x => hsc.extBut _ _ c1 (hsb _ _ c3 (hsa.extBut _ _ c1 x))) ⟨oe, hsc.extBut _ _ hez hoe, hce⟩
  | some x =>
    have hy : ys[k]? = none := by rcases hend with h | h; rw [hx] at h; cases h; exact h
    refine wpAny_bind (fi (h1.at fun o e => hsa.extBut _ _ D.i1z e) (ht1.at fun o e => hsa.extBut _ _ D.l1z e) hx fun hb h1b hsb => wpAny_pure ?_)
    have hTOb : IsPair hb TO a b := hsb.extBut _ _ D.TOi1 (hsa.extBut _ _ D.TOz hTO)
    refine wpAny_bind (wpAny_seqItems hTOb rfl (wpAny_bind (wpAny_updateSeq_pair hTOb fun hc hTOc hsc => ?_)))
    refine wpAny_bind (wpAny_letGo (wpAny_pure ?_))
    refine wpAny_bind (wpAny_bind (wpAny_onRaise ?_))
    show wpAny _ _ (Builtin.SmallTypes.nextOf (.ref i2) >>= _) _ _ _
    refine wpAny_bind (iq hh (h2.at fun o e => hsc.extBut _ _ D.TOi2.symm (hsb.extBut _ _ D.i12.symm (hsa.extBut _ _ D.i2z e)))
      (ht2.at fun o e => hsc.extBut _ _ D.l2TO (hsb.extBut _ _ D.l2i1 (hsa.extBut _ _ D.l2z e))) hy fun hd e hsd he => ?_)
    obtain ⟨oe, hoe, hce⟩ := he
    have hzd : IsZip hd z TI TO .ellipsis := hsd _ _ D.i2z.symm (hsc.extBut _ _ D.TOz.symm (hsb.extBut _ _ D.i1z.symm hza))
    have hez : e ≠ z := fun x => by subst x; rw [hzd] at hoe; cases hoe; simp at hce
    exact wpAny_setField_rec hzd (by simp) fun hf _ hsf => fin hf e (fun c o c1 c2 c3 c4 x => hsf.extBut _ _ c1 (hsd _ _ c4 (hsc.extBut _ _ c2 (hsb.extBut _ _ c3 (hsa.extBut _ _ c1 x))))) ⟨oe, hsf.extBut _ _ hez hoe, hce⟩
end
end HT
namespace HT
open PySem PyProof.Rows
abbrev itO (t : Addr) : Obj := { cls := .type "tuple_iterator", data := .fields #[.ref t, .int 0 0] }
abbrev zh1 (h : Heap) (t1 : Addr) : Heap := h.push (itO t1)
abbrev zh2 (h : Heap) (t1 t2 : Addr) : Heap := (zh1 h t1).push (itO t2)
abbrev zh3 (h : Heap) (t1 t2 : Addr) : Heap := (zh2 h t1 t2).push { cls := .type "tuple", data := .seq #[.ref h.objs.size, .ref (zh1 h t1).objs.size] }
abbrev zh4 (h : Heap) (t1 t2 : Addr) : Heap := (zh3 h t1 t2).push { cls := .type "tuple", data := .seq #[.none, .none] }
abbrev zh5 (h : Heap) (t1 t2 : Addr) : Heap := (zh4 h t1 t2).push { cls := .type "zip", data := .fields #[.none, .bool false, .bool false, .ref (zh2 h t1 t2).objs.size, .ref (zh3 h t1 t2).objs.size] }
theorem vE (t1 t2 : Addr) (xs ys : Array Value) :
  Meets (Builtin.«zip.__new__» ⟨[.type "zip", .ref t1, .ref t2], []⟩) (fun _ R s => s.heap.IsTuple t1 xs ∧ s.heap.IsTuple t2 ys ∧ R (.ok (.ret (.ref (zh4 s.heap t1 t2).objs.size))) { s with heap := zh5 s.heap t1 t2 }) :=
 .of_wp fun prog w A R s h => by
  obtain ⟨hp, g, d, tk, os⟩ := s; obtain ⟨hl1, hl2, h⟩ := h
  have hsub := sub_zip
  have hL1 : Heap.IsTuple (Shared.heap ⟨hp, g, d, tk, os⟩) t1 xs := hl1
  have hL2 : Heap.IsTuple (Shared.heap ⟨hp.push (itO t1), g, d, tk, os⟩) t2 ys := hl2.at fun o e => Heap.get?_push_of_some _ e
  wp_walk using wpAny_pyIter_tuple hL1, wpAny_pyIter_tuple hL2
  exact ⟨_, rfl, h⟩
section
variable {prog : Program} {w : World} {A : Around} {E : Value → Shared → Prop} {s : Shared}
theorem sC {t1 t2 : Addr} {xs ys : Array Value} {Q : Value → Shared → Prop} (hl1 : s.heap.IsTuple t1 xs) (hl2 : s.heap.IsTuple t2 ys)
  (h : ∀ h', jT h' (s.heap.objs.size + 4) (s.heap.objs.size + 2) (s.heap.objs.size + 3) s.heap.objs.size (s.heap.objs.size + 1) t1 t2 xs ys .none 0 → (∀ c o, s.heap.get? c = some o → h'.get? c = some o) → Q (.ref (s.heap.objs.size + 4)) { s with heap := h' }) :
  wpAny (model prog w) A (call (.type "zip") [.ref t1, .ref t2]) Q E s := by
 refine callType_new F.called_zip (by decide) (F.typeCall_zip_2 _ _) (F.newCall_zip_2 _ _) (fun obj => F.args_object_init_3 obj _ _) F.entry_zip_new (vE t1 t2 xs ys) ⟨hl1, hl2, ?_⟩
 have z1 : (zh1 s.heap t1).objs.size = s.heap.objs.size + 1 := Heap.size_push ..
 have z2 : (zh2 s.heap t1 t2).objs.size = s.heap.objs.size + 2 := by rw [Heap.size_push, z1]
 have z3 : (zh3 s.heap t1 t2).objs.size = s.heap.objs.size + 3 := by rw [Heap.size_push, z2]
 have z4 : (zh4 s.heap t1 t2).objs.size = s.heap.objs.size + 4 := by rw [Heap.size_push, z3]
 have g5 : (zh5 s.heap t1 t2).get? (zh4 s.heap t1 t2).objs.size = some _ := Heap.get?_push_size _ rfl
 have g4 : (zh5 s.heap t1 t2).get? (zh3 s.heap t1 t2).objs.size = some _ := Heap.get?_push_of_some _ (Heap.get?_push_size _ rfl)
 have g3 : (zh5 s.heap t1 t2).get? (zh2 s.heap t1 t2).objs.size = some _ := Heap.get?_push_of_some _ (Heap.get?_push_of_some _ (Heap.get?_push_size _ rfl))
 have g2 : (zh5 s.heap t1 t2).get? (zh1 s.heap t1).objs.size = some _ := Heap.get?_push_of_some _ (Heap.get?_push_of_some _ (Heap.get?_push_of_some _ (Heap.get?_push_size _ rfl)))
 have g1 : (zh5 s.heap t1 t2).get? s.heap.objs.size = some _ := Heap.get?_push_of_some _ (Heap.get?_push_of_some _ (Heap.get?_push_of_some _ (Heap.get?_push_of_some _ (Heap.get?_push_size _ rfl))))
 show _ ∧ _
 rw [z2, z3, z4] at g5
 rw [z1, z2] at g3
 rw [z3] at g4
 rw [z1] at g2
 rw [z4]
 exact ⟨⟨_, g5, rfl⟩, h _ ⟨g5, g3, ⟨_, _, g4⟩, ⟨_, g1, rfl, rfl⟩, ⟨_, g2, rfl, rfl⟩⟩ fun c o x => Heap.get?_push_of_some _ (Heap.get?_push_of_some _ (Heap.get?_push_of_some _ (Heap.get?_push_of_some _ (Heap.get?_push_of_some _ x))))⟩
end
end HT
namespace L2
open PySem PySem.Spec PyProof.Rows
section
variable {X : Cx} {pins : List (Addr × Obj)} {σ : St} {H : Hp} {s : Shared} {h' : Heap}
theorem Inv.turnedL {t' : Nat} {fp : List Addr} (I : Inv X pins σ H s) (k : ∀ b o, b ∉ fp → s.heap.get? b = some o → h'.get? b = some o) (hf : ∀ b ∈ fp, gq X pins H b) : Inv X pins σ H { s with heap := h', toks := t' } := by
 have nit : ∀ b u, H b = some u → b ∉ fp := fun b u e z => by rw [(hf b z).1] at e; cases e
 refine I.step (g' := s.gens) (d' := s.drawn) (ch := fp) (fun b hb => ?_) (fun b o _ _ hc e _ => k b o hc e) (fun b o _ _ hc e _ => ⟨o.slots, k b o hc e⟩) (fun _ _ _ _ n => n)
   (fun b o hc e => ⟨o, k b o hc e⟩) (fun _ _ e => e) (fun _ _ _ e => e) (fun b ps e => ⟨#[], by rw [e]; simp⟩) (fun m hm => ?_) (fun b u e => ?_) I.bare
 · obtain ⟨f0, f1, f2, f3, f4, f5⟩ := hf b hb
   exact ⟨f3, f1, f4, f5⟩
 · obtain ⟨o, es, ep, ho, r⟩ := hm
   exact ⟨o, es, ep, k _ o (fun z => (hf _ z).2.1 rfl) ho, r⟩
 · refine (I.hok b u e).stay (fun c v hc q => k c v ?_ q) (fun _ q => q) fun _ _ q => q
   rcases hc with z | z
   · rw [z]; exact nit b u e
   · exact nit c _ z
end
section
variable {X : Cx} {pins : List (Addr × Obj)} {σ : St} {H H1 : Hp} {s s0 : Shared} {a : Addr} {o : HO}
theorem Inv.track2 (I0 : Inv X pins σ H1 s0) (I : Inv X pins σ H s) (new : s0.heap.objs.size ≤ a) (hn : H a = none) (ok : aO X.prog X.w (upd H a o) s.heap a o) : Inv X pins σ (upd H a o) s := by
 have ne : ∀ b u, s0.heap.get? b = some u → b ≠ a := fun b u e => Nat.ne_of_lt (Nat.lt_of_lt_of_le (Heap.lt_size e) new)
 have ne0 : ∀ b u, X.s₀.heap.get? b = some u → b ≠ a := fun b u e => Nat.ne_of_lt (Nat.lt_of_lt_of_le (Heap.lt_size e) (Nat.le_trans I0.sz new))
 have nL : X.env.locals ≠ a := by
   obtain ⟨m, ⟨o', _, _, e, _⟩, _⟩ := I0.loc
   exact ne _ _ e
 refine ⟨I.ok, I.os, I.bare, ⟨I.base.keep, I.base.slot, fun b u e n hx => ?_, I.base.there, fun b xs e => ?_, fun b u v e => ?_, fun b ps e => ?_⟩, I.loc, I.cell, ?_, fun x c e => ?_, fun p hp => ?_, fun b u e => ?_, I.len⟩
 · rw [aj (ne0 b u e)]; exact I.base.free b u e n hx
 · have := I.base.tups b xs e
   rw [aj (aq this hn)]; exact this
 · have := I.base.frzs b u v e
   rw [aj (aq this hn)]; exact this
 · obtain ⟨more, this⟩ := I.base.tbls b ps e
   exact ⟨more, by rw [aj (aq this hn)]; exact this⟩
 · rw [aj nL]; exact I.free
 · obtain ⟨v, o', e', _⟩ := I0.cell x c e
   rw [aj (ne _ _ e')]; exact I.freeC x c e
 · obtain ⟨h1, h2, h3⟩ := I.pin p hp
   exact ⟨h1, by rw [aj (ne _ _ (I0.pin p hp).1)]; exact h2, h3⟩
 · by_cases hb : b = a
   · subst hb
     rw [am] at e; cases e
     exact ok
   · rw [aj hb] at e
     exact (I.hok b u e).stay (fun c v _ q => q) (fun c q => by
      have : c ≠ a := aq q hn
      rw [aj this]; exact q) fun c xs q => by
      have : c ≠ a := aq q hn
      rw [aj this]; exact q
end
def Itz (K : W.Frag) (a b : Addr) : It where
 go := fun i H => ∃ xs ys x y, SqT K H a xs ∧ SqT K H b ys ∧ xs[i]? = some x ∧ ys[i]? = some y
 yld := fun i H v H' => ∃ p, v = .ref p ∧ H p = none ∧ ∀ xs ys, SqT K H a xs → SqT K H b ys → ∃ x y, xs[i]? = some x ∧ ys[i]? = some y ∧ H' = upd H p (.tup [x, y])
 stop := fun i H => ∃ xs ys, SqT K H a xs ∧ SqT K H b ys ∧ (xs.length ≤ i ∨ ys.length ≤ i)
theorem vk {P : Program} {w : World} {K : W.Frag} {elts : List Expr} {ek : Nat} {ep : Pos} (a b z TI TO i1 i2 : Addr) (D : ZipApart z TI TO i1 i2 a b) :
  fM P w K (.Tuple elts ek ep) (Itz K a b) [z, TI, TO, i1, i2] z (fun i h => HT.jT h z TI TO i1 i2 a b #[] #[] .none i) where
 mem := by simp
 obj := fun i h st c hc => by
  obtain ⟨hz, hTI, ⟨x, y, hTO⟩, ⟨o1, e1, c1, d1⟩, ⟨o2, e2, c2, d2⟩⟩ := st
  simp only [List.mem_cons, List.not_mem_nil, or_false] at hc
  rcases hc with rfl | rfl | rfl | rfl | rfl
  · exact ⟨_, hz, fun v q => by cases q⟩
  · exact ⟨_, hTI, fun v q => by cases q⟩
  · exact ⟨_, hTO, fun v q => by cases q⟩
  · exact ⟨o1, e1, fun v q => by rw [d1] at q; cases q⟩
  · exact ⟨o2, e2, fun v q => by rw [d2] at q; cases q⟩
 keep := fun i h h' st k => by
  obtain ⟨hz, hTI, ⟨x, y, hTO⟩, h1, h2⟩ := st
  exact ⟨k z (by simp) _ hz, k TI (by simp) _ hTI, ⟨x, y, k TO (by simp) _ hTO⟩, h1.at fun o e => k i1 (by simp) o e, h2.at fun o e => k i2 (by simp) o e⟩
 item := by
  intro X hP hw hK hc i pins s σ H E I hf st hg
  subst hP hw hK
  obtain ⟨xs, ys, x, y, hx, hy, ex, ey⟩ := hg
  obtain ⟨its, r1, p1, _⟩ := I.tuple hx
  obtain ⟨its2, r2, p2, _⟩ := I.tuple hy
  obtain ⟨u, gu, ru⟩ := r1.get ex
  obtain ⟨u2, gu2, ru2⟩ := r2.get ey
  obtain ⟨z1, z2, z3, z4, z5⟩ := st
  refine HT.rM (xs := its.toArray) (ys := its2.toArray) (x := u) (y := u2) D ⟨z1, z2, z3, z4, z5⟩ p1 p2 (by simpa using gu) (by simpa using gu2) fun h1 Z1 hT hk => ?_
  obtain ⟨y1, y2, y3, y4, y5⟩ := Z1
  refine ⟨_, rfl, wpAny_letOwnedTupleGo_zip y1 fun h2 hz2 hs2 => ?_⟩
  have Tn : ∀ c ∈ [z, TI, TO, i1, i2], c ≠ s.heap.objs.size := fun c hc e => by
    obtain ⟨o, eo⟩ : ∃ o, s.heap.get? c = some o := by
      simp only [List.mem_cons, List.not_mem_nil, or_false] at hc
      rcases hc with rfl | rfl | rfl | rfl | rfl
      · exact ⟨_, z1⟩
      · exact ⟨_, z2⟩
      · obtain ⟨_, _, q⟩ := z3; exact ⟨_, q⟩
      · obtain ⟨_, q, _⟩ := z4; exact ⟨_, q⟩
      · obtain ⟨_, q, _⟩ := z5; exact ⟨_, q⟩
    have := Heap.lt_size eo
    rw [e] at this; exact Nat.lt_irrefl _ this
  have k2 : ∀ c o, c ∉ [z, TI, TO, i1, i2] → s.heap.get? c = some o → h2.get? c = some o := fun c o hc e => by
    simp only [List.mem_cons, List.not_mem_nil, or_false, not_or] at hc
    exact hs2.extBut _ _ hc.1 (hk c o hc.1 hc.2.2.1 hc.2.2.2.1 hc.2.2.2.2 e)
  have I1 : Inv X pins σ H { s with heap := h2, toks := s.toks } := I.turnedL k2 hf
  have hTz : s.heap.objs.size ≠ z := fun e => Tn z (by simp) e.symm
  have hT2 : IsPair h2 s.heap.objs.size u u2 := hs2.extBut _ _ hTz hT
  have hfr : H s.heap.objs.size = none := I.hok.fresh (Nat.le_refl _)
  have I2 : Inv X pins σ (upd H s.heap.objs.size (.tup [x, y])) { s with heap := h2, toks := s.toks } :=
    Inv.track2 I I1 (Nat.le_refl _) hfr ⟨by show 2 ≤ sizeLine; decide, [u, u2], .cons ru (.cons ru2 .nil), ⟨_, hT2, rfl, _, rfl⟩⟩
  refine ⟨.ref s.heap.objs.size, _, I2, rfl, ⟨_, rfl, hfr, fun xs' ys' hx' hy' => ⟨x, y, by rw [I.tuple_inj hx' hx]; exact ex, by rw [I.tuple_inj hy' hy]; exact ey, rfl⟩⟩, ?_, fun c hc => ?_⟩
  · exact ⟨hz2, hs2.extBut _ _ D.TIz y2, (let ⟨m, n, q⟩ := y3; ⟨m, n, hs2.extBut _ _ D.TOz q⟩), y4.at fun o e => hs2.extBut _ _ D.i1z e, y5.at fun o e => hs2.extBut _ _ D.i2z e⟩
  · rw [aj (Tn c hc)]; exact (hf c hc).1
 done := by
  intro X hP hw hK hc i pins s σ H E I hf st hg
  subst hP hw hK
  obtain ⟨xs, ys, hx, hy, hl⟩ := hg
  obtain ⟨its, r1, p1, _⟩ := I.tuple hx
  obtain ⟨its2, r2, p2, _⟩ := I.tuple hy
  have l1 := r1.length
  have l2 := r2.length
  obtain ⟨z1, z2, z3, z4, z5⟩ := st
  refine HT.sT (xs := its.toArray) (ys := its2.toArray) (I.ok.hd hc) D ⟨z1, z2, z3, z4, z5⟩ p1 p2 ?_ fun h1 hk => ⟨rfl, I.turnedL (t' := s.toks) (fun c o hc e => ?_) hf⟩
  · rcases hl with q | q
    · exact .inl (by simp; omega)
    · exact .inr (by simp; omega)
  · simp only [List.mem_cons, List.not_mem_nil, or_false, not_or] at hc
    exact hk c o hc.1 hc.2.2.1 hc.2.2.2.1 hc.2.2.2.2 e
 self := fun _ _ _ _ _ st h => wpAny_pyIter_zip st.z h
end L2
namespace L2
open PySem PySem.Spec PyProof.Rows
section
variable {X : Cx} {a b : Expr} {t : TA} {p pos ep : Pos} {elts : List Expr} {ek : Nat}
theorem rE : bootBuiltins "zip" = some (.type "zip") := by decide +kernel
theorem tm : ∀ (pins : List (Addr × Obj)) (s : Shared) (σ : St) (H : Hp) (us : List Value) (vs : List V) (R : It → Hp → Prop), Inv X pins σ H s → aA vs us → (∃ c d xs ys, vs = [.ref c, .ref d] ∧ SqT X.K H c xs ∧ SqT X.K H d ys ∧ R (Itz X.K c d) H) →
   wpAny (model X.prog X.w) X.A (call (.type "zip") us) (fun v s1 => wpAny (model X.prog X.w) X.A (pyIter v) (PIE X pins σ (.Tuple elts ek ep) R) X.xe s1) X.xe s := by
 intro pins s σ H us vs R I r h
 obtain ⟨c, d, xs, ys, rfl, hx, hy, q⟩ := h
 obtain ⟨u, w', rfl, r1, r2⟩ := jM r
 cases r1
 cases r2
 obtain ⟨its, rv1, p1, _⟩ := I.tuple hx
 obtain ⟨its2, rv2, p2, _⟩ := I.tuple hy
 have lt1 : c < s.heap.objs.size := by obtain ⟨o, e, _⟩ := p1; exact Heap.lt_size e
 have lt2 : d < s.heap.objs.size := by obtain ⟨o, e, _⟩ := p2; exact Heap.lt_size e
 refine HT.sC (show s.heap.IsTuple c its.toArray from p1) (show s.heap.IsTuple d its2.toArray from p2) fun h' Z hk => ?_
 refine wpAny_pyIter_zip Z.z ?_
 refine ⟨s.heap.objs.size + 4, [s.heap.objs.size + 4, s.heap.objs.size + 2, s.heap.objs.size + 3, s.heap.objs.size, s.heap.objs.size + 1], _, Itz X.K c d, H, rfl, I.kept (t' := s.toks) hk, vk c d _ _ _ _ _ (zipApart_new lt1 lt2), ?_, fun b hb => ?_, q⟩
 · obtain ⟨z1, z2, z3, z4, z5⟩ := Z
   exact ⟨z1, z2, z3, z4, z5⟩
 · have : s.heap.objs.size ≤ b := by
    simp only [List.mem_cons, List.not_mem_nil, or_false] at hb
    rcases hb with rfl | rfl | rfl | rfl | rfl <;> omega
   exact I.fpOk this (I.hok.fresh this)
end
end L2
namespace L2
open PySem PySem.Spec PyProof.Rows
theorem rJ : bootBuiltins "int" = some (.type "int") := by decide +kernel
section
variable {X : Cx} {a b : Expr} {t : TA} {p pos ep px py : Pos} {elts : List Expr} {ek : Nat} {x y : Str} {iter : Expr} {wi : TI} {tS : TS}
theorem zx (i j : Nat) (hN : X.N.Nodup) {body : List Stmt} (hi : QI X (.Tuple [.Name x px, .Name y py] ek ep) iter wi) (hb : QSs X body tS) (hp : PassesOwn (model X.prog X.w) X.A X.env X.xe) (hc : X.calm = true := by rfl)
  (hj : X.N[i]? = some x := by rfl) (hx : Loc X.env.scope x := by first | exact .inl rfl | exact .inr rfl) (hf : X.fn x = true ∨ X.env.scope.names.lookup x = some .local := by first | exact .inl rfl | exact .inr rfl)
  (hj2 : X.N[j]? = some y := by rfl) (hx2 : Loc X.env.scope y := by first | exact .inl rfl | exact .inr rfl) (hf2 : X.fn y = true ∨ X.env.scope.names.lookup y = some .local := by first | exact .inl rfl | exact .inr rfl)
  (hs : ∀ x, foldedSetIterable iter X.env x = pure x := by intro _; rfl) : QS X (.For (.Tuple [.Name x px, .Name y py] ek ep) iter body [] pos) (iA wi (mK X.K 2 (eT (aw i) (eT (aw j) mx))) tS) :=
 ⟨qO hp hc hi.out (so hc (gK (gg hN hj hx hf) (gK (gg hN hj2 hx2 hf2) oi))) hb.out hs⟩
end
end L2
namespace L2
open PySem PySem.Spec PyProof.Rows
def sm (C : Addr) (m : Str) (sp : Sp) (E : St → XK) (ta : TE) (t : TA) : TE := fun σ H Q => ta σ H fun x H1 => ∃ a dx fs, x = .ref a ∧ H1 a = some (.ins C dx fs) ∧ fs.lookup m = none ∧ t σ H1 fun vs H2 => sp (x :: vs) H2 Q (E σ)
def rp (C : Addr) (sp : Sp) (E : St → XK) (t : TA) : TE := fun σ H Q => t σ H fun vs H1 => ∀ x dx, H1 x = none → H1 dx = none → dx ≠ x →
 sp (.ref x :: vs) (upd (upd H1 dx (.own x)) x (.ins C dx [])) (fun v H2 => v = .non ∧ Q (.ref x) H2) (E σ)
section
variable {X : Cx} {CX : CXT} {k : Nat} {f C : Addr} {fd : FuncData} {ps : List Str} {sp : Sp} {E : St → XK} {x m fl : Str} {p pos apos pos' : Pos} {e o value : Expr} {es : List Expr} {ta tv to : TE} {t : TA}
theorem lX (he : QE X e ta) (hb : attributeBase e fl X.env (eval e X.env) = eval e X.env := by rfl) : QE X (.Attribute e fl pos) (jZ X.K ta fl) := ⟨xX he.out hb⟩
theorem ve (ho : QE X o to) (hv : QE X value tv) (hs : swapsWith value (some (.Attribute o fl pos')) pos.line X.env = pure false := by rfl) : QS X (.Assign [.Attribute o fl pos'] value pos) (uA X.K to tv fl) := ⟨xZ ho.out hv.out hs⟩
theorem xq {pl : Sem Bool} (he : QE X o ta) (c : Cls X.K C) (hm : tI X.K C m f) (F : aU X.prog X.w X.K X.mg X.base CX k f fd ps sp) (hr : ba k X.A) (hb : bZ X.K fd ps []) (hx : eI CX X E) (ha : QA X (e :: es) t)
  (hs : aW (e :: es) = true := by rfl)
  (ht : eval (.Call (.Attribute o m apos) (e :: es) [] pos) X.env = (do
   let ov ← eval o X.env
   standAt apos.atName
   let (f, first) ← holding [ov] (getMethod ov m pl)
   callWith pos f first (backTo pos (starEach (e :: es) X.env)) (backToKw pos (keywordEach [] X.env))) := by rfl) :
  QE X (.Call (.Attribute o m apos) (e :: es) [] pos) (sm C m sp E ta t) := ⟨fun pins s σ H Q I h => by
 have h' : (bv e && aW es) = true := hs
 refine W.methodCall_KW (pl := pl) (thn (he.out pins s σ H _ I h) fun u s1 ⟨x, H1, I1, rx, a, dx, fs, ex, ea, l, q⟩ => ?_) ht
 subst ex
 obtain rfl : u = Value.ref a := rx
 refine qA I1 ea c hm l ?_
 refine W.callWith_K (first := [.ref a]) (h₀ := X.base) I.ok.mod.kin hm.kp (thn (ha.out pos pins s1 σ H1 _ I1 q) fun us s2 ⟨vs, H2, I2, r, q2⟩ => ⟨I2.kIn, ?_⟩)
  (aV (Bool.and_eq_true_iff.mp h').1 es X.env) (bo (Bool.and_eq_true_iff.mp h').2)
 exact ki (us := .ref a :: us) (vs := .ref a :: vs) F hr hb hx I2 (.cons rfl r) q2⟩
theorem rZ {pins : List (Addr × Obj)} {σ : St} {H : Hp} {s : Shared} {Q : VK} {us : List Value} {vs : List V} (M : Mk X.K C f) (F : aU X.prog X.w X.K X.mg X.base CX k f fd ps sp) (hr : ba (k + 1) X.A) (hb : bZ X.K fd ps [])
    (hx : eI CX X E) (I : Inv X pins σ H s) (r : aA vs us)
    (h : ∀ x dx, H x = none → H dx = none → dx ≠ x → sp (.ref x :: vs) (upd (upd H dx (.own x)) x (.ins C dx [])) (fun v H2 => v = .non ∧ Q (.ref x) H2) (E σ)) :
    wpAny (model X.prog X.w) X.A (call (.ref C) us) (EP X pins σ Q) X.xe s := by
  have hq := h (s.heap.objs.size + 1) s.heap.objs.size (I.hok.fresh (Nat.le_succ _)) (I.hok.fresh (Nat.le_refl _)) (Nat.ne_of_lt (Nat.lt_succ_self _))
  have I2 := Inv.made (C := C) I
  have r2 : aA (V.ref (s.heap.objs.size + 1) :: vs) (Value.ref (s.heap.objs.size + 1) :: us) := .cons rfl r
  have hl : (Value.ref (s.heap.objs.size + 1) :: us).length = ps.length := by
    have e := r2.length
    rw [F.len _ _ _ _ hq] at e
    exact e.symm
  have hb' := hb _ (Value.ref (s.heap.objs.size + 1) :: us) I2.kIn (by rw [List.append_nil]; exact hl)
  rw [List.append_nil] at hb'
  refine wpAny_call (vm (f := f) I.kIn M.makes M.init (beq_iff_eq.mp M.fn) (codeAny_mono (F.run _ X.stack _ _ ⟨Value.ref (s.heap.objs.size + 1) :: us, []⟩ (Value.ref (s.heap.objs.size + 1) :: us) _ _ (E σ) (hr.make C us [])
    (I2.env0.make C us []) hb' r2 hq) fun r s' hq' => ?_))
  cases r with
  | error e => exact hx pins σ _ _ e s' I2 hq'
  | ok fl =>
    cases fl with
    | ret u =>
      obtain ⟨v, H', I3, rv, ev, q3⟩ := I2.after hq'
      subst ev
      exact ⟨rv, ⟨V.ref (s.heap.objs.size + 1), H', I3, rfl, q3⟩⟩
    | next => exact False.elim hq'
    | brk => exact False.elim hq'
    | cont => exact False.elim hq'
theorem uh (M : Mk X.K C f) (F : aU X.prog X.w X.K X.mg X.base CX k f fd ps sp) (hr : ba (k + 1) X.A) (hm : X.mg x = some (.ref C)) (hb : bZ X.K fd ps []) (hx : eI CX X E)
  (hg : Gl X x := by rfl) (hdb : (x == ("__debug__" : Str)) = false := by decide) : QE X (.Call (.Name x p) [] [] pos) (rp C sp E ag) := ⟨fun pins s σ H Q I h => by
 refine wpAny_Call_Name_kw (fX I hg hm ?_ hdb)
 exact W.callWith_K0 I.kIn M.kp (rZ (us := []) M F hr hb hx I .nil h)⟩
end
end L2
namespace L2
open PySem PySem.Spec PyProof.Rows
mutual
inductive cY (K : W.Frag) (H : Hp) : V → PyData → Prop
 | non : cY K H .non .none
 | bl (b) : cY K H (.bl b) (.bool b)
 | int (i) : cY K H (.int i) (.int i)
 | str (z) : cY K H (.str z) (.str z)
 | lst {a xs ds} : SqL K H a xs → DatVs K H xs ds → cY K H (.ref a) (.list ds)
 | tup {a xs ds} : SqT K H a xs → DatVs K H xs ds → cY K H (.ref a) (.tuple ds)
inductive DatVs (K : W.Frag) (H : Hp) : List V → List PyData → Prop
 | nil : DatVs K H [] []
 | cons {x xs d ds} : cY K H x d → DatVs K H xs ds → DatVs K H (x :: xs) (d :: ds)
end
section
variable {X : Cx}
mutual
theorem cz {pins : List (Addr × Obj)} {σ : St} {H : Hp} {s : Shared} (I : Inv X pins σ H s) : ∀ {x : V} {d : PyData}, cY X.K H x d → ∀ {v : Value}, aC x v → ∃ as, Reads s.heap v d as
  | _, _, .non, _, r => by cases r; exact ⟨_, .none⟩
  | _, _, .bl b, _, r => by cases r; exact ⟨_, .bool b⟩
  | _, _, .int i, _, r => by obtain ⟨t, rfl⟩ := r; exact ⟨_, .int i t⟩
  | _, _, .str z, _, r => by obtain ⟨t, rfl⟩ := r; exact ⟨_, .str z t⟩
  | _, _, .lst h hs, _, r => by
    cases r
    obtain ⟨its, r1, ⟨o, n, h1, h2, _, h3⟩, _⟩ := I.list h
    obtain ⟨as, ra⟩ := datVs_reads I hs r1
    exact ⟨_, .list h1 h2 h3 (by simpa using ra)⟩
  | _, _, .tup h hs, _, r => by
    cases r
    obtain ⟨its, r1, ⟨o, h1, h2, n, h3⟩, _⟩ := I.tuple h
    obtain ⟨as, ra⟩ := datVs_reads I hs r1
    exact ⟨_, .tuple h1 h2 h3 (by simpa using ra)⟩
theorem datVs_reads {pins : List (Addr × Obj)} {σ : St} {H : Hp} {s : Shared} (I : Inv X pins σ H s) : ∀ {xs : List V} {ds : List PyData}, DatVs X.K H xs ds → ∀ {vs : List Value}, aA xs vs → ∃ as, ReadsAll s.heap vs ds as
  | _, _, .nil, _, r => by cases r; exact ⟨_, .nil⟩
  | _, _, .cons h hs, _, r => by
    cases r with
    | cons r1 r2 =>
      obtain ⟨as, a⟩ := cz I h r1
      obtain ⟨bs, b⟩ := datVs_reads I hs r2
      exact ⟨_, .cons a b⟩
end
def pv (K : W.Frag) : R2 := fun x y H Q => ∃ d e, cY K H x d ∧ cY K H y e ∧ d.canLay0 = true ∧ e.canLay0 = true ∧ d.depth ≤ 150 ∧ Q (.bl (d.eqv e)) H
def ul (K : W.Frag) : R2 := fun x y H Q => ∃ d e, cY K H x d ∧ cY K H y e ∧ d.canLay0 = true ∧ e.canLay0 = true ∧ d.depth ≤ 150 ∧ Q (.bl (!d.eqv e)) H
theorem yX (hu : X.A.units + 150 < cLine) : OpR X (compareOp .Eq) (pv X.K) := by
 intro pins s σ H x y v u Q I rx ry h
 obtain ⟨d, e, hd, he, cd, ce, dp, q⟩ := h
 obtain ⟨as, ra⟩ := cz I hd rx
 obtain ⟨bs, rb⟩ := cz I he ry
 exact PySem.SeqAt.compareEq_reads ra rb cd ce (by have := Nat.min_le_left d.depth e.depth; omega) ⟨.bl _, H, I, rfl, q⟩
theorem zp (hu : X.A.units + 150 < cLine) : OpR X (compareOp .NotEq) (ul X.K) := by
 intro pins s σ H x y v u Q I rx ry h
 obtain ⟨d, e, hd, he, cd, ce, dp, q⟩ := h
 obtain ⟨as, ra⟩ := cz I hd rx
 obtain ⟨bs, rb⟩ := cz I he ry
 exact PySem.SeqAt.compareNe_reads ra rb cd ce (by have := Nat.min_le_left d.depth e.depth; omega) ⟨.bl _, H, I, rfl, q⟩
theorem ba.units150 {k : Nat} {A : Around} (r : ba k A) : A.units + 150 < cLine := by have := r.un; omega
def cU (K : W.Frag) : R2 := fun x y H Q => match x, y with
 | .ref a, y => ul K (.ref a) y H Q
 | x, .ref b => ul K x (.ref b) H Q
 | x, y => mNe x y H Q
theorem fA (hu : X.A.units + 150 < cLine) : OpR X (compareOp .NotEq) (cU X.K) := ((zp hu).or oNe).imp fun x y H Q q => by
 unfold cU at q
 split at q
 · exact .inl q
 · exact .inl q
 · exact .inr q
def qi : V → List V → Hp → VK → Prop := fun x vs H Q => match x, vs with | .int i, [] => Q (.int (Builtin.Int.intBits i)) H | _, _ => False
theorem xG : MtR X "int.bit_length" qi := by
 intro pins s σ H x xs v us Q I rx rs q
 unfold qi at q
 split at q
 · obtain ⟨t, rfl⟩ := rx
   cases rs
   exact call_int_bit_length ⟨.int _, H, I.tok _, ⟨_, rfl⟩, q⟩
 · exact q.elim
variable {o : Expr} {to : TE} {name : Str} {apos cpos : Pos} {T id : String} {rm : V → List V → Hp → VK → Prop}
theorem vU (pa : PlainAttrs T) (slot : Slot T name id) (hty : typeOf (.builtin id) = pure (.type "method_descriptor")) (hm : MtR X id rm) (ho : QE X o to)
 (hbase : attributeBase o name X.env (eval o X.env) = eval o X.env := by rfl) (hline : (apos.endLine == cpos.line) = true := by rfl) : QE X (.Call (.Attribute o name apos) [] [] cpos) (qz X.K T rm to) := ⟨zX pa slot hty hm ho.out hbase hline⟩
end
end L2
namespace L2
open PySem PySem.Spec PyProof.Rows
theorem rL : (("" : String) : Str) = Str.empty := by decide
theorem vI : ∀ xs : List Str, Str.join "" xs = xs.foldr (· ++ ·) Str.empty
  | [] => rfl
  | [x] => (Str.append_empty x).symm
  | x :: y :: r => by
    show x ++ (("" : String) : Str) ++ Str.join "" (y :: r) = x ++ (y :: r).foldr (· ++ ·) Str.empty
    rw [vI (y :: r), rL, Str.append_empty]
theorem kc (xs : List Str) : Txt.join "" xs = xs.foldr (· ++ ·) Str.empty := (eq_of_beq (join_plain_closes "" xs)).trans (vI xs)
theorem mv : ∀ xs : List Str, (xs.foldr (· ++ ·) Str.empty).length = (xs.map (·.length)).sum
  | [] => by decide
  | x :: r => by
    show (x ++ r.foldr (· ++ ·) Str.empty).length = _
    rw [strLen_append, mv r, List.map_cons, List.sum_cons]
theorem aD {n : Nat} (h : n ≤ 1000000) : n ≤ sizeLine := by rw [sizeLine_eq]; omega
theorem vK (k : Nat) : ((2 ^ k : Nat) : Int) = (2 : Int) ^ k := by simp
theorem rA {α : Type} {xs : List α} {i : Int} (h0 : 0 ≤ i) (h1 : i < xs.length) : ∃ c, atI xs i = some c := by
 unfold atI ixN
 rw [if_pos h0, if_pos h1]
 have : i.toNat < xs.length := by omega
 exact ⟨xs[i.toNat], by show xs[i.toNat]? = _; rw [List.getElem?_eq_getElem this]⟩
theorem jk : ∀ (xs : List Str), (∀ x ∈ xs, x.length = 1) → (xs.map (·.length)).sum = xs.length
  | [], _ => rfl
  | x :: r, h => by
    rw [List.map_cons, List.sum_cons, List.length_cons, jk r fun y hy => h y (List.mem_cons_of_mem _ hy), h x List.mem_cons_self]; omega
theorem sR {p : Prop} [Decidable p] {a b : Prop} (h1 : p → a) (h2 : ¬ p → b) : if decide p = true then a else b := by
 by_cases h : p
 · rw [if_pos (decide_eq_true h)]; exact h1 h
 · rw [if_neg (by rw [decide_eq_false h]; decide)]; exact h2 h
theorem sX (xs : List Str) (h : ∀ x ∈ xs, x.length = 1) : (Txt.join "" xs).length = xs.length := by rw [kc, mv, jk xs h]
end L2
namespace L2
open PySem PySem.Spec PyProof.Rows
section
variable {X : Cx}
theorem ba.units1 {k : Nat} {A : Around} (r : ba k A) : A.units + 1 < cLine := by have := r.un; omega
def xY : R2 := fun x y H Q => ∃ a v, x = .ref a ∧ cy H a y (some v) ∧ Q v H
theorem wV (hu : X.A.units + 1 < cLine) : IxR X xY := by
 intro value slice pins s σ H x y v u Q I rx ry h hs
 obtain ⟨a, w0, rfl, g, q⟩ := h
 obtain rfl : v = Value.ref a := rx
 have hT := nV I g
 have h2 : wpAny (model X.prog X.w) X.A (getItem (.ref a) u) (EP X pins σ Q) X.xe s := qQ hu I g ry fun w' s3 I3 rw' => ⟨w0, H, I3, rw', q⟩
 unfold subscriptTail
 refine wpAny_bind ?_
 rw [getitemInPython_of_ne hT.not_modules]
 refine wpAny_bind (wpAny_specialOf hT PySem.F.slot_dict_getitem.lookup ?_)
 have fin : wpAny (model X.prog X.w) X.A (subscripted slice false (.ref a) u) (fun r s₃ => wpAny (model X.prog X.w) X.A (letTemporaryGo value (.ref a) r >>= fun _ => pure r) (EP X pins σ Q) X.xe s₃) X.xe s := by
  rw [hs]
  exact wpAny_operating (wpAny_mono h2 (fun r s₃ h₃ => wpAny_bind (wpAny_letTemporaryGo (wpAny_pure h₃))) fun _ _ x => x)
 first
  | exact wpAny_pure (wpAny_bind fin)
  | exact wpAny_bind (wpAny_pure (wpAny_bind fin))
  | exact wpAny_bind fin
def aS (K : W.Frag) : R2 := fun x y H Q => rIx K x y H Q ∨ xY x y H Q
theorem aM (hu : X.A.units + 1 < cLine) : IxR X (aS X.K) := Ak.or (wV hu)
def wu : V → V → V → Hp → (Hp → Prop) → Prop := fun o i v H Q => ∃ a H', o = .ref a ∧ kC H a i v H' ∧ Q H'
theorem va (hu : X.A.units + 1 < cLine) : pw X wu := by
 intro pins s σ H o i v ov iv u Q I ro ri rv h
 obtain ⟨a, H', rfl, g, q⟩ := h
 obtain rfl : ov = Value.ref a := ro
 exact sr hu I g ri rv fun s4 I4 => ⟨H', I4, q⟩
def md : V → V → V → Hp → (Hp → Prop) → Prop := fun o i v H Q => vF o i v H Q ∨ wu o i v H Q
theorem xv (hu : X.A.units + 1 < cLine) : pw X md := by
 intro pins s σ H o i v ov iv u Q I ro ri rv h
 rcases h with h | h
 · exact tY pins s σ H o i v ov iv u Q I ro ri rv h
 · exact va hu pins s σ H o i v ov iv u Q I ro ri rv h
variable {o e : Expr} {to te : TE} {p pos : Pos}
theorem mU {ti : TE} {i : Expr} (hu : X.A.units + 1 < cLine) (ho : QE X o to) (hi : QE X i ti) (he : QE X e te) (hs : swapsWithSole [.Subscript o i p] e pos.line X.env = pure false := by rfl) (hw : swappedStores [.Subscript o i p] e X.env = pure none := by rfl) (ha : ∀ v, assign (.Subscript o i p) X.env v = (do let ov ← holding [v] (eval o X.env); let iv ← holding [v, ov] (eval i X.env); standAt p; holding [v, ov, iv] (setItem ov iv v); release [v, ov, iv] []) := by intro _; rfl) : QS X (.Assign [.Subscript o i p] e pos) (aF te (pD to ti md)) := ⟨rB he.out (yc ho.out hi.out (xv hu) ha) hs hw⟩
def oZ : R2 := fun y x H Q => ∃ a o, x = .ref a ∧ cy H a y o ∧ Q (.bl (!o.isSome)) H
theorem qX (hu : X.A.units + 1 < cLine) : OpR X (compareOp .NotIn) oZ := by
 intro pins s σ H x y v u Q I rx ry h
 obtain ⟨a, ov, rfl, g, q⟩ := h
 obtain rfl : u = Value.ref a := ry
 exact wN hu I g rx fun s3 I3 => ⟨.bl (!ov.isSome), H, I3, rfl, q⟩
def pd (K : W.Frag) : R2 := fun y x H Q => ∃ d ds, cY K H y d ∧ (cY K H x (.list ds) ∨ cY K H x (.tuple ds)) ∧ PyData.canLayAll0 ds = true ∧ d.canLay0 = true ∧ d.depth ≤ 140 ∧ Q (.bl (!ds.any fun e => e.eqv d)) H
theorem sI (hu : X.A.units + 150 < cLine) : OpR X (compareOp .NotIn) (pd X.K) := by
 intro pins s σ H x y v u Q I rx ry h
 obtain ⟨d, ds, hd, hx, c1, c2, dp, q⟩ := h
 obtain ⟨as, ra⟩ := cz I hd rx
 have hm : X.A.units + 1 + min (PyData.depthAll ds) d.depth < cLine := by have := Nat.min_le_right (PyData.depthAll ds) d.depth; omega
 rcases hx with hx | hx
 · obtain ⟨bs, rb⟩ := cz I hx ry
   exact PySem.SeqAt.notIn_list_reads rb ra c1 c2 hm ⟨.bl _, H, I, rfl, q⟩
 · obtain ⟨bs, rb⟩ := cz I hx ry
   exact PySem.SeqAt.notIn_tuple_reads rb ra c1 c2 hm ⟨.bl _, H, I, rfl, q⟩
def fc (K : W.Frag) : R2 := fun y x H Q => oZ y x H Q ∨ pd K y x H Q
theorem iI (hu : X.A.units + 150 < cLine) : OpR X (compareOp .NotIn) (fc X.K) := (qX (by omega)).or (sI hu)
def hV : TE := fun σ H Q => sG σ H Q ∨ se σ H Q
theorem iX : QE X (.Dict [] [] pos) hV := ⟨fun pins s σ H Q I h => h.elim (uX pins s σ H Q I) (tO pins s σ H Q I)⟩
theorem rT : bF X (.builtin "len") (fun xs H Q => ∃ p kvs, xs = [.ref p] ∧ H p = some (.dT kvs) ∧ Q (.int kvs.length) H) := by
 intro pins s σ H xs us Q I r h
 obtain ⟨a, kvs, rfl, e, q⟩ := h
 obtain ⟨u, rfl, r1⟩ := eX r
 cases r1
 obtain ⟨z, hd, ps, rel, dd⟩ := qL I.hok e
 have hl : ps.length = kvs.length := (Paired.length rel).symm
 have hT : s.TypeIs (.ref a) "dict" := dd.typeIs
 obtain ⟨o, es, ep, ho, hc, hdat, he, his, hn⟩ := dd
 have hsz : es.size = kvs.length := by rw [← hl]; have := congrArg List.length he; simpa using this
 have M : MeetsIn X.prog X.w (Builtin.«dict.__len__» ⟨[.ref a], []⟩) (fun _ R s => s.heap.get? a = some o ∧ R (.ok (.ret (.int kvs.length s.toks))) { s with toks := s.toks + 1 }) :=
  .of_wp fun A R s ⟨ho, h⟩ => by
   show wpAny _ _ (dictSize a >>= _) _ _ s
   unfold dictSize
   refine wpAny_bind (wpAny_bind (wpAny_dictEntries ho hdat (wpAny_pure ?_)))
   show wpAny _ _ (Builtin.Dict.pendingCount a >>= _) _ _ s
   refine wpAny_bind (wpAny_pendingCount_other hd ?_)
   refine wpAny_ret_mkInt ?_
   rw [Nat.add_zero, hsz]; exact h
 refine Calls.call_function_entry kind_len plain_len entry_len (args_len1 _) ?_
 unfold Builtin.«len»
 refine wpAny_bind (m := oneArg "len" _) (wpAny_pure ?_)
 refine wpAny_bind (m := callSpecial? (.ref a) (Str.ofString "__len__")) (wpAny_callSpecial?_slot (name := Str.ofString "__len__") hT F.slot_dict_len
  (call_meetsIn F.slot_dict_len hT F.entry_dict_len (F.args_dict_len_1 _) M ⟨ho, ?_⟩))
 show wpAny _ _ _ _ _ { s with toks := s.toks + 1 }
 refine wpAny_bind (wpAny_holding (wpAny_pure ?_))
 refine wpAny_bind (wpAny_letGo ?_)
 have zz : kvs.length ≤ sizeLine := z
 rw [sizeLine_eq] at zz
 show wpAny _ _ (if ((kvs.length : Nat) : Int) < 0 then _ else _) _ _ _
 rw [if_neg (by omega)]
 show wpAny _ _ (if ((kvs.length : Nat) : Int) ≥ 2 ^ 63 then _ else _) _ _ _
 rw [if_neg (by omega)]
 exact wpAny_bind (wpAny_mkInt (wpAny_pure ⟨_, rfl, ⟨.int kvs.length, H, I.tok _, ⟨_, rfl⟩, q⟩⟩))
def bA (K : W.Frag) : List V → Hp → VK → Prop := fun xs H Q => zg K xs H Q ∨ ∃ p kvs, xs = [.ref p] ∧ H p = some (.dT kvs) ∧ Q (.int kvs.length) H
theorem bO : bF X (.builtin "len") (bA X.K) := Ei.or rT
def zl (H : Hp) (a : Addr) (y d : V) (r : V) (H' : Hp) : Prop := (cy H a y (some r) ∧ H' = H) ∨ (cy H a y none ∧ kC H a y d H' ∧ r = d)
theorem dU {A : Around} {E : Value → Shared → Prop} {s : Shared} {P : Program} {w : World} {K : Type} [DecidableEq K] {knd : HeapKind P w K} {d a : Addr} {xs : List (K × Addr × Value)} {k : K} {v : Value} {Q : Value → Shared → Prop} (hu : knd.room A) (hkey : knd.is s.heap k a) (hm : s.heap.DictOfH knd d xs)
   (hthere : ∀ p, atKey xs k = some p → Q p.2 { s with toks := s.toks + knd.draws k })
   (hQ : atKey xs k = none → ∀ h', h'.DictOfH knd d (storedH xs k a v) → Heap.SameBut d s.heap h' → Q v { s with heap := h', toks := s.toks + knd.draws k })
   (hsz : xs.length ≤ sizeLine) :
   wpAny (model P w) A (dictSetDefault d (.ref a) v) Q E s := by
 obtain ⟨o, es, ep, ho, hc, hd, he, his, hn⟩ := hm
 unfold dictSetDefault
 try with_reducible refine wpAny_holding ?_
 refine wpAny_bind (knd.pyHash hu hkey ?_)
 refine wpAny_bind (wpAny_dictFind_heap (s := { s with toks := s.toks + knd.draws k }) hu hkey ho hd he his hn ?_ ?_)
 · intro hno
   have hnot : k ∉ xs.map (·.1) := not_mem_keys_of_get hno
   refine wpAny_bind (wpAny_rule (wpAny_bind (wpAny_updateDictKeys (hz := by have e := size_of_entries he; omega) (s := { s with toks := s.toks + knd.draws k }) ho hd (wpAny_pure (hQ (atKey_none_of_get hno) _ ⟨_, _, ep + 1, Heap.get?_update_self _ ho (Obj.isFreed_of_dict (Obj.data_mapDictKeys hd _)),
     hc.mapDictKeys _, Obj.data_mapDictKeys hd _, ?_, ?_, ?_⟩ (Heap.SameBut.update ..))))))
   · rw [storedH_new (atKey_none_of_get hno)]
     simp [he, entryOfKey]
   · rw [storedH_new (atKey_none_of_get hno)]
     intro x hx
     rcases List.mem_append.mp hx with hx | hx
     · exact knd.keeps (his x hx) ho hd (Heap.SameBut.update ..)
     · simp only [List.mem_singleton] at hx
       subst hx
       exact knd.keeps hkey ho hd (Heap.SameBut.update ..)
   · rw [storedH_new (atKey_none_of_get hno)]
     rw [List.map_append, List.nodup_append]
     refine ⟨hn, by simp, ?_⟩
     intro x hx y hy
     simp only [List.map_cons, List.map_nil, List.mem_singleton] at hy
     subst hy
     exact fun e => hnot (e ▸ hx)
 · intro j p hj
   refine wpAny_bind (wpAny_dictEntries (s := { s with toks := s.toks + knd.draws k }) ho hd ?_)
   rw [entry_at he j, hj]
   exact wpAny_bind (wpAny_rule (wpAny_pure (hthere p (atKey_of_get hn hj))))
end
end L2
namespace L2
open PySem PySem.Spec PyProof.Rows
theorem cN {h : Heap} {a : Addr} {its : Array Value} (p : PlainL h a its) : h.IsList a its := let ⟨o, n, e, c, _, d⟩ := p; ⟨o, e, c, n, d⟩
structure yM (h : Heap) (z TI TO i1 i2 t1 t2 : Addr) (k : Nat) : Prop where
 z : IsZip h z TI TO .none
 ti : IsPair h TI (.ref i1) (.ref i2)
 to : ∃ a b, IsPair h TO a b
 j1 : h.IsListIter i1 t1 k
 j2 : h.IsListIter i2 t2 k
def jq (K : W.Frag) (a b : Addr) : It where
 go := fun i H => ∃ xs ys x y, SqL K H a xs ∧ SqL K H b ys ∧ xs[i]? = some x ∧ ys[i]? = some y
 yld := fun i H v H' => ∃ p, v = .ref p ∧ H p = none ∧ ∀ xs ys, SqL K H a xs → SqL K H b ys → ∃ x y, xs[i]? = some x ∧ ys[i]? = some y ∧ H' = upd H p (.tup [x, y])
 stop := fun i H => ∃ xs ys, SqL K H a xs ∧ SqL K H b ys ∧ (xs.length ≤ i ∨ ys.length ≤ i)
theorem rq {P : Program} {w : World} {K : W.Frag} {elts : List Expr} {ek : Nat} {ep : Pos} (a b z TI TO i1 i2 : Addr) (D : ZipApart z TI TO i1 i2 a b) :
  fM P w K (.Tuple elts ek ep) (jq K a b) [z, TI, TO, i1, i2] z (fun i h => yM h z TI TO i1 i2 a b i) where
 mem := by simp
 obj := fun i h st c hc => by
  obtain ⟨hz, hTI, ⟨x, y, hTO⟩, ⟨o1, e1, c1, d1⟩, ⟨o2, e2, c2, d2⟩⟩ := st
  simp only [List.mem_cons, List.not_mem_nil, or_false] at hc
  rcases hc with rfl | rfl | rfl | rfl | rfl
  · exact ⟨_, hz, fun v q => by cases q⟩
  · exact ⟨_, hTI, fun v q => by cases q⟩
  · exact ⟨_, hTO, fun v q => by cases q⟩
  · exact ⟨o1, e1, fun v q => by rw [d1] at q; cases q⟩
  · exact ⟨o2, e2, fun v q => by rw [d2] at q; cases q⟩
 keep := fun i h h' st k => by
  obtain ⟨hz, hTI, ⟨x, y, hTO⟩, h1, h2⟩ := st
  exact ⟨k z (by simp) _ hz, k TI (by simp) _ hTI, ⟨x, y, k TO (by simp) _ hTO⟩, h1.at fun o e => k i1 (by simp) o e, h2.at fun o e => k i2 (by simp) o e⟩
 item := by
  intro X hP hw hK hc i pins s σ H E I hf st hg
  subst hP hw hK
  obtain ⟨xs, ys, x, y, hx, hy, ex, ey⟩ := hg
  obtain ⟨its, r1, p1, _⟩ := I.list hx
  obtain ⟨its2, r2, p2, _⟩ := I.list hy
  obtain ⟨u, gu, ru⟩ := r1.get ex
  obtain ⟨u2, gu2, ru2⟩ := r2.get ey
  obtain ⟨z1, z2, z3, z4, z5⟩ := st
  obtain ⟨za, zb, z3'⟩ := z3
  refine wpAny_pyNext_zip_item (xs := its.toArray) (ys := its2.toArray) (x := u) (y := u2) D z1 z2 z3' z4 z5 (cN p1) (cN p2) (by simpa using gu) (by simpa using gu2) fun h1 y1 y3' y4 y5 hT hsz hk => ?_
  have y2 : IsPair h1 TI (.ref i1) (.ref i2) := hk _ _ D.TIz D.TITO D.TIi1 D.TIi2 z2
  have y3 : ∃ a b, IsPair h1 TO a b := ⟨_, _, y3'⟩
  have z3 : ∃ a b, IsPair s.heap TO a b := ⟨za, zb, z3'⟩
  refine ⟨_, rfl, wpAny_letOwnedTupleGo_zip y1 fun h2 hz2 hs2 => ?_⟩
  have Tn : ∀ c ∈ [z, TI, TO, i1, i2], c ≠ s.heap.objs.size := fun c hc e => by
    obtain ⟨o, eo⟩ : ∃ o, s.heap.get? c = some o := by
      simp only [List.mem_cons, List.not_mem_nil, or_false] at hc
      rcases hc with rfl | rfl | rfl | rfl | rfl
      · exact ⟨_, z1⟩
      · exact ⟨_, z2⟩
      · obtain ⟨_, _, q⟩ := z3; exact ⟨_, q⟩
      · obtain ⟨_, q, _⟩ := z4; exact ⟨_, q⟩
      · obtain ⟨_, q, _⟩ := z5; exact ⟨_, q⟩
    have := Heap.lt_size eo
    rw [e] at this; exact Nat.lt_irrefl _ this
  have k2 : ∀ c o, c ∉ [z, TI, TO, i1, i2] → s.heap.get? c = some o → h2.get? c = some o := fun c o hc e => by
    simp only [List.mem_cons, List.not_mem_nil, or_false, not_or] at hc
    exact hs2.extBut _ _ hc.1 (hk c o hc.1 hc.2.2.1 hc.2.2.2.1 hc.2.2.2.2 e)
  have I1 : Inv X pins σ H { s with heap := h2, toks := s.toks } := I.turnedL k2 hf
  have hTz : s.heap.objs.size ≠ z := fun e => Tn z (by simp) e.symm
  have hT2 : IsPair h2 s.heap.objs.size u u2 := hs2.extBut _ _ hTz hT
  have hfr : H s.heap.objs.size = none := I.hok.fresh (Nat.le_refl _)
  have I2 : Inv X pins σ (upd H s.heap.objs.size (.tup [x, y])) { s with heap := h2, toks := s.toks } :=
    Inv.track2 I I1 (Nat.le_refl _) hfr ⟨by show 2 ≤ sizeLine; decide, [u, u2], .cons ru (.cons ru2 .nil), ⟨_, hT2, rfl, _, rfl⟩⟩
  refine ⟨.ref s.heap.objs.size, _, I2, rfl, ⟨_, rfl, hfr, fun xs' ys' hx' hy' => ⟨x, y, by rw [I.list_inj hx' hx]; exact ex, by rw [I.list_inj hy' hy]; exact ey, rfl⟩⟩, ?_, fun c hc => ?_⟩
  · exact ⟨hz2, hs2.extBut _ _ D.TIz y2, (let ⟨m, n, q⟩ := y3; ⟨m, n, hs2.extBut _ _ D.TOz q⟩), y4.at fun o e => hs2.extBut _ _ D.i1z e, y5.at fun o e => hs2.extBut _ _ D.i2z e⟩
  · rw [aj (Tn c hc)]; exact (hf c hc).1
 done := by
  intro X hP hw hK hc i pins s σ H E I hf st hg
  subst hP hw hK
  obtain ⟨xs, ys, hx, hy, hl⟩ := hg
  obtain ⟨its, r1, p1, _⟩ := I.list hx
  obtain ⟨its2, r2, p2, _⟩ := I.list hy
  have l1 := r1.length
  have l2 := r2.length
  obtain ⟨z1, z2, z3, z4, z5⟩ := st
  obtain ⟨za, zb, z3'⟩ := z3
  refine wpAny_pyNext_zip_end (xs := its.toArray) (ys := its2.toArray) (I.ok.hd hc) D z1 z2 z3' z4 z5 (cN p1) (cN p2) ?_ fun h1 hk => ⟨rfl, I.turnedL (t' := s.toks) (fun c o hc e => ?_) hf⟩
  · rcases hl with q | q
    · exact .inl (by simp; omega)
    · exact .inr (by simp; omega)
  · simp only [List.mem_cons, List.not_mem_nil, or_false, not_or] at hc
    exact hk c o hc.1 hc.2.2.1 hc.2.2.2.1 hc.2.2.2.2 e
 self := fun _ _ _ _ _ st h => wpAny_pyIter_zip st.z h
section
variable {X : Cx} {a b : Expr} {t : TA} {p pos ep : Pos} {elts : List Expr} {ek : Nat}
theorem rK : ∀ (pins : List (Addr × Obj)) (s : Shared) (σ : St) (H : Hp) (us : List Value) (vs : List V) (R : It → Hp → Prop), Inv X pins σ H s → aA vs us → (∃ c d xs ys, vs = [.ref c, .ref d] ∧ SqL X.K H c xs ∧ SqL X.K H d ys ∧ R (jq X.K c d) H) →
   wpAny (model X.prog X.w) X.A (call (.type "zip") us) (fun v s1 => wpAny (model X.prog X.w) X.A (pyIter v) (PIE X pins σ (.Tuple elts ek ep) R) X.xe s1) X.xe s := by
 intro pins s σ H us vs R I r h
 obtain ⟨c, d, xs, ys, rfl, hx, hy, q⟩ := h
 obtain ⟨u, w', rfl, r1, r2⟩ := jM r
 cases r1
 cases r2
 obtain ⟨its, rv1, p1, _⟩ := I.list hx
 obtain ⟨its2, rv2, p2, _⟩ := I.list hy
 have lt1 : c < s.heap.objs.size := by obtain ⟨o, e, _⟩ := (cN p1); exact Heap.lt_size e
 have lt2 : d < s.heap.objs.size := by obtain ⟨o, e, _⟩ := (cN p2); exact Heap.lt_size e
 refine call_zip_2 (show s.heap.IsList c its.toArray from (cN p1)) (show s.heap.IsList d its2.toArray from (cN p2)) fun h' y1 y2 y3 y4 y5 _ hk => ?_
 refine wpAny_pyIter_zip y1 ?_
 refine ⟨s.heap.objs.size + 4, [s.heap.objs.size + 4, s.heap.objs.size + 2, s.heap.objs.size + 3, s.heap.objs.size, s.heap.objs.size + 1], _, jq X.K c d, H, rfl, I.kept (t' := s.toks) hk, rq c d _ _ _ _ _ (zipApart_new lt1 lt2), ?_, fun b hb => ?_, q⟩
 · exact ⟨y1, y2, ⟨_, _, y3⟩, y4, y5⟩
 · have : s.heap.objs.size ≤ b := by
    simp only [List.mem_cons, List.not_mem_nil, or_false] at hb
    rcases hb with rfl | rfl | rfl | rfl | rfl <;> omega
   exact I.fpOk this (I.hok.fresh this)
end
theorem sZ {K : W.Frag} {a b : Addr} {xs ys : List V} {g : TG} {tb : TS} {D : dE} {σ : St} {H : Hp} (Pv : Nat → St → Hp → Prop) (h0 : Pv 0 σ H) (hl : ∀ i σ H, i ≤ xs.length → Pv i σ H → SqL K H a xs ∧ SqL K H b ys) (hlen : xs.length = ys.length)
   (hs : ∀ i x y σ H p, xs[i]? = some x → ys[i]? = some y → Pv i σ H → H p = none → g (.ref p) σ (upd H p (.tup [x, y])) fun σ2 H2 => tb { D with nx := Pv (i + 1), ct := Pv (i + 1), bk := D.nx } σ2 H2) (hd : ∀ σ H, Pv xs.length σ H → D.nx σ H) :
   ∃ W : Nat → Nat → St → Hp → Prop, (∃ m, W 0 m σ H) ∧ ∀ i m σ H, W i m σ H →
    ((jq K a b).stop i H ∧ D.nx σ H) ∨ ((jq K a b).go i H ∧ ∃ N : St → Hp → Prop, (∀ σ' H', N σ' H' → ∃ m', m' < m ∧ W (i + 1) m' σ' H') ∧ ∀ x H', (jq K a b).yld i H x H' → g x σ H' fun σ2 H2 => tb { D with nx := N, ct := N, bk := D.nx } σ2 H2) := by
 refine ⟨fun i m σ H => m = xs.length - i ∧ i ≤ xs.length ∧ Pv i σ H, ⟨xs.length, by simp, Nat.zero_le _, h0⟩, ?_⟩
 rintro i m σ H ⟨rfl, hi, p⟩
 obtain ⟨q1, q2⟩ := hl i σ H hi p
 by_cases hlt : i < xs.length
 · have e1 : xs[i]? = some xs[i] := List.getElem?_eq_getElem hlt
   have e2 : ys[i]? = some (ys[i]'(by omega)) := List.getElem?_eq_getElem (by omega)
   refine .inr ⟨⟨xs, ys, _, _, q1, q2, e1, e2⟩, Pv (i + 1), fun σ' H' p' => ⟨xs.length - (i + 1), by omega, rfl, hlt, p'⟩, fun v H' yl => ?_⟩
   obtain ⟨pp, rfl, hn, hy⟩ := yl
   obtain ⟨x, y, ex, ey, rfl⟩ := hy xs ys q1 q2
   exact hs i x y σ H pp ex ey p hn
 · have : i = xs.length := by omega
   subst this
   exact .inl ⟨⟨xs, ys, q1, q2, .inl (Nat.le_refl _)⟩, hd σ H p⟩
end L2
namespace L2
open PySem PySem.Spec PyProof.Rows
set_option genInjectivity false in
set_option genSizeOf false in
structure cw where
 qual : Str
 body : FuncBody
 scope : Scope
 ps : List Str
 ys : List Str
def jQ (t : cw) (cs : List Addr) (c : Addr) (fd : FuncData) : Prop :=
 fd.qualname = t.qual ∧ fd.body = t.body ∧ fd.scope = t.scope ∧ fd.globals = mainGlobals ∧ fd.closure = t.ys.zip cs ∧ fd.code = .ref c ∧ fd.builtins = builtinsNs ∧
  (∀ us : List Value, us.length = t.ps.length → bindArgs fd ⟨us, []⟩ = pure (t.ps.zip us)) ∧ cs.Nodup ∧ cs.length = t.ys.length
def cx (f : Addr) (t : cw) (cs : List Addr) (c : Addr) : HO := .ext fun h => ∃ od fd sl, h.get? f = some ⟨.type "function", od, .func fd, sl⟩ ∧ jQ t cs c fd
def bV (c : Addr) (qual : Str) : HO := .ext fun h => ∃ o vs tk, h.get? c = some o ∧ o.data = .fields vs ∧ vs[1]? = some (.str qual tk)
def br (c : Addr) (v : V) : HO := .ext fun h => ∃ u o, aC v u ∧ h.get? c = some o ∧ o.data = .cell (some u)
abbrev bS (H : Hp) : List Addr → List V → Prop := Paired fun c v => H c = some (br c v)
structure cV (H : Hp) (f : Addr) (t : cw) (cs : List Addr) (cvs : List V) : Prop where
 ex : ∃ c, H f = some (cx f t cs c) ∧ H c = some (bV c t.qual)
 cells : bS H cs cvs
theorem bS.mem {H : Hp} {cs : List Addr} {cvs : List V} (h : bS H cs cvs) : ∀ c ∈ cs, ∃ v, H c = some (br c v) := by
  induction h with
  | nil => intro c hc; cases hc
  | cons r t ih =>
    intro c hc
    rcases List.mem_cons.mp hc with rfl | hc
    · exact ⟨_, r⟩
    · exact ih c hc
theorem bS.get {H : Hp} {cs : List Addr} {cvs : List V} (h : bS H cs cvs) : ∀ {i : Nat} {v : V}, cvs[i]? = some v → ∃ c, cs[i]? = some c ∧ H c = some (br c v) := by
  induction h with
  | nil => intro i v e; cases e
  | @cons c w cs ws r t ih =>
    intro i v e
    cases i with
    | zero => cases e; exact ⟨c, rfl, r⟩
    | succ i => exact ih e
def cg (cs : List Addr) (H : Hp) : Hp := fun b => if b ∈ cs then none else H b
def bL (cs : List Addr) (H H' : Hp) : Hp := fun b => if b ∈ cs then H b else H' b
theorem fu {cs : List Addr} {H : Hp} {b : Addr} (h : b ∈ cs) : cg cs H b = none := if_pos h
theorem cq {cs : List Addr} {H : Hp} {b : Addr} (h : b ∉ cs) : cg cs H b = H b := if_neg h
theorem gE {cs : List Addr} {H H' : Hp} {b : Addr} (h : b ∈ cs) : bL cs H H' b = H b := if_pos h
theorem bG {cs : List Addr} {H H' : Hp} {b : Addr} (h : b ∉ cs) : bL cs H H' b = H' b := if_neg h
theorem sq {cs : List Addr} {H H' : Hp} {d : Addr} {o : HO} (h : d ∉ cs) : bL cs H (upd H' d o) = upd (bL cs H H') d o := by
 funext b
 by_cases hb : b ∈ cs
 · have : b ≠ d := fun e => h (e ▸ hb)
   rw [gE hb, aj this, gE hb]
 · rw [bG hb]
   by_cases e : b = d
   · subst e; rw [am, am]
   · rw [aj e, aj e, bG hb]
theorem bS.notin {H : Hp} {cs : List Addr} {cvs : List V} (h : bS H cs cvs) {b : Addr} {o : HO} (e : H b = some o) (hn : ∀ φ, o ≠ .ext φ) : b ∉ cs := fun hb => by
 obtain ⟨v, ev⟩ := h.mem b hb
 rw [e] at ev
 exact hn _ (Option.some.inj ev)
theorem bS.hide {H : Hp} {cs : List Addr} {cvs : List V} (h : bS H cs cvs) {b : Addr} {o : HO} (e : H b = some o) (hn : ∀ φ, o ≠ .ext φ) : cg cs H b = some o := by
 rw [cq (h.notin e hn)]; exact e
theorem au.hide {H H' : Hp} (cs : List Addr) (s : au (cg cs H) H') : au H (bL cs H H') := fun b o e => by
 by_cases hb : b ∈ cs
 · rw [gE hb]; exact e
 · rw [bG hb]; exact s _ _ (by rw [cq hb]; exact e)
section
variable {P : Program} {w : World} {fs : List Addr} {H H' : Hp} {h h' : Heap} {cs : List Addr} {cvs : List V}
theorem wD (hc : bS H cs cvs) (ok : HOk P w H h) : HOk P w (cg cs H) h := fun b o e => by
 by_cases hb : b ∈ cs
 · rw [fu hb] at e; cases e
 · rw [cq hb] at e
   exact (ok b o e).stay (fun c u _ q => q) (fun c q => hc.hide q fun φ z => nomatch z) fun c xs q => hc.hide q fun φ z => nomatch z
theorem pe (hc : bS H cs cvs) (hfs : ∀ b ∈ fs, H b = none) (ok : HOk P w H h) (u : Un fs [] (cg cs H) H' h h') (ok' : HOk P w H' h') : Un fs [] H (bL cs H H') h h' ∧ HOk P w (bL cs H H') h' := by
 have obj : ∀ c ∈ cs, ∃ v o, H c = some (br c v) ∧ h.get? c = some o ∧ h'.get? c = some o ∧ H' c = none := fun c hm => by
   obtain ⟨v, ev⟩ := hc.mem c hm
   obtain ⟨_, ⟨o, eo⟩, _⟩ := (show aO P w H h c (br c v) from ok c _ ev)
   refine ⟨v, o, ev, eo, u.keep c o eo (fu hm) (fun z => ?_) (by simp), u.free c o eo (fu hm) (by simp)⟩
   rw [hfs c z] at ev; cases ev
 have nin : ∀ b, H b = none → b ∉ cs := fun b e hb => by
   obtain ⟨v, ev⟩ := hc.mem b hb
   rw [e] at ev; cases ev
 have nin' : ∀ b o, H' b = some o → b ∉ cs := fun b o e hb => by
   obtain ⟨_, _, _, _, _, z⟩ := obj b hb
   rw [e] at z; cases z
 refine ⟨⟨fun b o e n hb hx => u.keep b o e (by rw [cq (nin b n)]; exact n) hb hx, fun b o e n hb hx => u.slot b o e (by rw [cq (nin b n)]; exact n) hb hx,
   fun b o e n hx => by rw [bG (nin b n)]; exact u.free b o e (by rw [cq (nin b n)]; exact n) hx, u.there, fun b xs e => ?_, fun b o v e => ?_, fun b ps e => ?_⟩, fun b o e => ?_⟩
 · have hb := hc.notin e fun φ z => nomatch z
   rw [bG hb]; exact u.tups b xs (by rw [cq hb]; exact e)
 · have hb := hc.notin e fun φ z => nomatch z
   rw [bG hb]; exact u.frzs b o v (by rw [cq hb]; exact e)
 · have hb := hc.notin e fun φ z => nomatch z
   rw [bG hb]; exact u.tbls b ps (by rw [cq hb]; exact e)
 · by_cases hb : b ∈ cs
   · rw [gE hb] at e
     obtain ⟨v, o', ev, e1, e2, _⟩ := obj b hb
     rw [e] at ev; cases ev
     obtain ⟨φ1, _, φ3⟩ := (show aO P w H h b (br b v) from ok b _ e)
     exact ⟨φ3 h h' φ1 fun q hq => by rw [e1] at hq; cases hq; exact e2, ⟨o', e2⟩, φ3⟩
   · rw [bG hb] at e
     exact (ok' b o e).stay (fun c u _ q => q) (fun c q => by rw [bG (nin' c _ q)]; exact q) fun c xs q => by rw [bG (nin' c _ q)]; exact q
theorem CR.back {outer : List Env} {s s' : Shared} {Q : VK} {E : XK} {r : Result} (hc : bS H cs cvs) (hfs : ∀ b ∈ frs outer, H b = none) (ok : HOk P w H s.heap)
    (h : CR (CX1 P w) outer P w (cg cs H) s (fun v H' => Q v (bL cs H H')) (fun c a H' => E c a (bL cs H H')) r s') : CR (CX1 P w) outer P w H s Q E r s' := by
  cases r with
  | error e =>
    obtain ⟨a, C, d, H', rfl, F, q⟩ := h
    obtain ⟨u, k⟩ := pe hc hfs ok F.un F.hok
    have na : a ∉ cs := fun hb => by
      obtain ⟨v, ev⟩ := hc.mem a hb
      obtain ⟨_, ⟨o, eo⟩, _⟩ := (show aO P w H s.heap a (br a v) from ok a _ ev)
      rw [F.new] at eo; cases eo
    obtain ⟨oe, vs, a0, T, oT, ts, t1, t2, td, t3, t4, t5, t6, t7, t8, t9, t10, t11⟩ := F.tr
    have nT : T ∉ cs := fun hb => by
      obtain ⟨v, ev⟩ := hc.mem T hb
      obtain ⟨_, ⟨o, eo⟩, _⟩ := (show aO P w H s.heap T (br T v) from ok T _ ev)
      rw [t10] at eo; cases eo
    exact ⟨a, C, d, _, rfl, ⟨F.os, F.bare, u, k, F.new, by rw [bG na]; exact F.free, ⟨oe, vs, a0, T, oT, ts, t1, t2, td, t3, t4, t5, t6, t7, t8, t9, t10, by rw [bG nT]; exact t11⟩⟩, q⟩
  | ok fl =>
    cases fl with
    | ret u =>
      obtain ⟨v, H', os, bare, un, hok, rv, q⟩ := h
      obtain ⟨u', k⟩ := pe hc hfs ok un hok
      exact ⟨v, _, os, bare, u', k, rv, q⟩
    | next => exact False.elim h
    | brk => exact False.elim h
    | cont => exact False.elim h
end
structure eF (P : Program) (w : World) (K : W.Frag) (mg : Str → Option Value) (base : Heap) (k : Nat) (t : cw) (sp : Sp) : Prop where
 run : ∀ (A : Around) (outer : List Env) (s : Shared) (H : Hp) (f : Addr) (cs : List Addr) (us : List Value) (vs cvs : List V) (Q : VK) (E : XK), ba k A → gs P w K mg base A outer s H → cV H f t cs cvs → aA vs us → vs.length = t.ps.length →
  sp (vs ++ cvs) (cg cs H) (fun v H' => Q v (bL cs H H')) (fun c a H' => E c a (bL cs H H')) → codeAny (model P w) A (.call (.ref f) ⟨us, []⟩) (CR (CX1 P w) outer P w H s Q E) s
def cZ (N : List Str) (vs cvs : List V) : St := vs.map some ++ (List.replicate (N.length - vs.length - cvs.length) none ++ cvs.map some)
def fB (P : Program) (w : World) (K : W.Frag) (mg : Str → Option Value) (base : Heap) (N : List Str) (qual : Str) (scope : Scope) (f c : Addr) (cl : List (Str × Addr)) (A : Around) (outer : List Env) (s : Shared) (H : Hp) (E : XK) : Cx where
 prog := P
 w := w
 K := K
 mg := mg
 base := base
 A := A.deeper (W.envX qual scope s.heap.objs.size f (.ref c) cl)
 N := N
 s₀ := s
 H₀ := H
 env := W.envX qual scope s.heap.objs.size f (.ref c) cl
 outer := outer
 stack := W.envX qual scope s.heap.objs.size f (.ref c) cl :: outer
 ex := []
 calm := true
 fn := fun _ => false
 pn := []
 xe := fun e s' => wpAny (model P w) (A.deeper (W.envX qual scope s.heap.objs.size f (.ref c) cl)) (leaving (W.envX qual scope s.heap.objs.size f (.ref c) cl) e) (fun _ s'' => CX1 P w outer H s E e s'') (fun e' s'' => CX1 P w outer H s E e' s'') s'
structure dF (N ps ys : List Str) (sc : Scope) : Prop where
 kind : sc.kind = .function
 co : sc.isCoroutine = false
 gen : sc.isGenerator = false
 nd : N.Nodup
 pre : N.take ps.length = ps
 suf : N.drop (N.length - ys.length) = ys
 le : ps.length + ys.length ≤ N.length
 par : ∀ x ∈ ps, sc.names.lookup x = some .local
 nocell : ∀ x ∈ sc.names, x.2 ≠ .cell
 fr : ∀ x ∈ ys, sc.names.lookup x = some .free
 frs : ∀ y ∈ sc.names, y.2 = .free → y.1 ∈ ys
theorem jF {ys : List Str} {cs : List Addr} (hl : cs.length = ys.length) (nd : ys.Nodup) : ∀ {i : Nat} {y : Str} {c : Addr}, ys[i]? = some y → cs[i]? = some c → (ys.zip cs).lookup y = some c := by
  induction ys generalizing cs with
  | nil => intro i y c e; cases e
  | cons a r ih =>
    intro i y c e1 e2
    cases cs with
    | nil => cases e2
    | cons b cs =>
      cases i with
      | zero => cases e1; cases e2; show (List.lookup _ ((_, _) :: _)) = _; rw [List.lookup_cons]; simp
      | succ i =>
        have hne : y ≠ a := fun e => (List.nodup_cons.mp nd).1 (e ▸ List.mem_of_getElem? (show r[i]? = some y from e1))
        show (List.lookup y ((a, b) :: r.zip cs)) = _
        rw [List.lookup_cons, show (y == a) = false from by simpa using hne]
        exact ih (by simpa using hl) (List.nodup_cons.mp nd).2 (show r[i]? = some y from e1) (show cs[i]? = some c from e2)
theorem eQ {ys : List Str} {cs : List Addr} : ∀ {y : Str} {c : Addr}, (ys.zip cs).lookup y = some c → ∃ i : Nat, ys[i]? = some y ∧ cs[i]? = some c := by
  induction ys generalizing cs with
  | nil => intro y c e; cases e
  | cons a r ih =>
    intro y c e
    cases cs with
    | nil => cases e
    | cons b cs =>
      have e : (List.lookup y ((a, b) :: r.zip cs)) = some c := e
      rw [List.lookup_cons] at e
      by_cases hy : (y == a) = true
      · rw [hy] at e; cases e; exact ⟨0, by simpa using (eq_of_beq hy).symm, rfl⟩
      · rw [show (y == a) = false from by simpa using hy] at e
        obtain ⟨i, h1, h2⟩ := ih e
        exact ⟨i + 1, h1, h2⟩
theorem kE {ps : List Str} {us : List Value} (nd : ps.Nodup) : ∀ {i : Nat} {x : Str} {u : Value}, ps[i]? = some x → us[i]? = some u → (ps.zip us).reverse.lookup x = some u := by
  induction ps generalizing us with
  | nil => intro i x u e; cases e
  | cons a r ih =>
    intro i x u e1 e2
    cases us with
    | nil => cases e2
    | cons b us =>
      show (List.lookup x ((a, b) :: r.zip us).reverse) = _
      rw [List.reverse_cons, List.lookup_append]
      cases i with
      | zero =>
        cases e1; cases e2
        have : (r.zip us).reverse.lookup a = none := by
          rw [List.lookup_eq_none_iff]
          intro p hp
          have := (List.of_mem_zip (List.mem_reverse.mp hp)).1
          simp only [beq_eq_false_iff_ne, ne_eq, bne_iff_ne]
          intro e
          exact (List.nodup_cons.mp nd).1 (by rw [← e] at this; exact this)
        rw [this]; simp
      | succ i =>
        rw [ih (List.nodup_cons.mp nd).2 (show r[i]? = some x from e1) (show us[i]? = some u from e2)]; rfl
end L2
namespace L2
open PySem PySem.Spec PyProof.Rows
section
variable {P : Program} {w : World} {K : W.Frag} {mg : Str → Option Value} {base : Heap} {N ps ys : List Str} {qual : Str} {scope : Scope} {f c : Addr} {A : Around} {outer : List Env} {s : Shared} {H : Hp} {E : XK} {us : List Value} {vs cvs : List V} {cs : List Addr} {h1 : Heap} {tk : Nat}
theorem oP (S : dF N ps ys scope) (hd : A.handled = none) (e0 : gs P w K mg base A outer s H) (ca : bS H cs cvs) (hcs : cs.Nodup) (hcl : cs.length = ys.length) (hl : vs.length = ps.length) (r : aA vs us)
   (hns : h1.Ns s.heap.objs.size (fun x => (ps.zip us).reverse.lookup x)) (hk : ∀ b o, s.heap.get? b = some o → h1.get? b = some o) :
   Inv (fB P w K mg base N qual scope f c (ys.zip cs) A outer s (cg cs H) E) [] (cZ N vs cvs) (cg cs H) { s with heap := h1, toks := tk } := by
 have ndY : ys.Nodup := by rw [← S.suf]; exact S.nd.sublist (List.drop_sublist _ _)
 have ndP : ps.Nodup := by rw [← S.pre]; exact S.nd.sublist (List.take_sublist _ _)
 have lcv : cvs.length = ys.length := by rw [← hcl]; exact (Paired.length ca).symm
 have cellOf : ∀ c ∈ cs, ∃ v, h1.IsCell c v := fun c hm => by
   obtain ⟨v, ev⟩ := ca.mem c hm
   obtain ⟨⟨u, o, _, eo, hd⟩, _, _⟩ := (show aO P w H s.heap c (br c v) from e0.hok c _ ev)
   exact ⟨_, o, hk _ _ eo, hd⟩
 have memC : ∀ x c, (ys.zip cs).lookup x = some c → c ∈ cs := fun x c e => by
   obtain ⟨i, _, e2⟩ := eQ e
   exact List.mem_of_getElem? e2
 have noA : ∀ b : Addr, b ∉ (fB P w K mg base N qual scope f c (ys.zip cs) A outer s (cg cs H) E).ex := fun b z => absurd (show b ∈ ([] : List Addr) from z) (by simp)
 have hid : ∀ b, H b = none → cg cs H b = none := fun b e => by
   by_cases hb : b ∈ cs
   · exact fu hb
   · rw [cq hb]; exact e
 refine ⟨⟨e0.mod, S.kind, rfl, rfl, Nat.le_refl _, fun y z c h1 h2 => ?_, fun y hy => ?_, fun y c hf _ => ?_, fun _ => hd, Around.frames_deeper e0.frames, .inr ⟨rfl, rfl⟩, fun b z => absurd z (noA b), fun b o e => ⟨(e0.bs b o e).1, hid b (e0.bs b o e).2⟩, e0.bsz, fun b _ _ => noA b, fun b z => absurd z (noA b), e0.funs, fun b hb => hid b (e0.frf b hb)⟩,
   rfl, e0.bare, Un.kept hk, ⟨_, hns, fun i y v q1 q2 q3 => ?_⟩, fun y c h => cellOf c (memC y c h), hid _ (e0.hok.fresh (Nat.le_refl _)), fun y c h => fu (memC y c h), fun p hp => absurd (show p ∈ ([] : List (Addr × Obj)) from hp) (by simp), (wD ca e0.hok).kept hk, ?_⟩
 · obtain ⟨i, e1, e2⟩ := eQ (show (ys.zip cs).lookup y = some c from h1)
   obtain ⟨j, e3, e4⟩ := eQ (show (ys.zip cs).lookup z = some c from h2)
   have : i = j := by
     obtain ⟨a1, b1⟩ := List.getElem?_eq_some_iff.mp e2
     obtain ⟨a2, b2⟩ := List.getElem?_eq_some_iff.mp e4
     exact (List.getElem_inj hcs).mp (b1.trans b2.symm)
   subst this
   rw [e1] at e3; exact Option.some.inj e3
 · have hy : scope.names.lookup y = some .cell ∨ scope.names.lookup y = some .free := hy
   rcases hy with hy | hy
   · exact absurd rfl (S.nocell _ (PySem.mem_of_lookup hy))
   · obtain ⟨i, hi, e⟩ := List.mem_iff_getElem.mp (S.frs _ (PySem.mem_of_lookup hy) rfl)
     have hi2 : i < cs.length := by omega
     exact ⟨cs[i], jF hcl ndY (List.getElem?_eq_some_iff.mpr ⟨hi, e⟩) (List.getElem?_eq_getElem hi2)⟩
 · exact absurd (show false = true from hf) Bool.false_ne_true
 · unfold cZ at q2
   by_cases hi : i < vs.length
   · rw [List.getElem?_append_left (by simpa using hi), List.getElem?_map] at q2
     have ha : vs[i]? = some v := by
       cases e : vs[i]? with
       | none => rw [e] at q2; cases q2
       | some a => rw [e] at q2; cases q2; rfl
     obtain ⟨u, hu, rv⟩ := r.get ha
     have hp : ps[i]? = some y := by
       rw [← S.pre, List.getElem?_take_of_lt (by omega)]; exact q1
     exact ⟨u, rv, .inl ⟨S.par y (List.mem_of_getElem? hp), kE ndP hp hu⟩⟩
   · rw [List.getElem?_append_right (by simpa using hi), List.length_map] at q2
     by_cases hj : i - vs.length < N.length - vs.length - cvs.length
     · rw [List.getElem?_append_left (by simpa using hj), List.getElem?_replicate] at q2
       split at q2 <;> cases q2
     · rw [List.getElem?_append_right (by simpa using hj), List.length_replicate, List.getElem?_map] at q2
       have ha : cvs[i - vs.length - (N.length - vs.length - cvs.length)]? = some v := by
        cases e : cvs[i - vs.length - (N.length - vs.length - cvs.length)]? with
        | none => rw [e] at q2; cases q2
        | some a => rw [e] at q2; cases q2; rfl
       have hle := S.le
       have hiN : i < N.length := (List.getElem?_eq_some_iff.mp q1).1
       have hx : i - vs.length - (N.length - vs.length - cvs.length) = i - (N.length - ys.length) := by omega
       rw [hx] at ha
       have hy : ys[i - (N.length - ys.length)]? = some y := by
        have e1 : N.drop (N.length - ys.length) = ys := S.suf
        have e2 : (N.drop (N.length - ys.length))[i - (N.length - ys.length)]? = some y := by
         rw [List.getElem?_drop]
         rw [show N.length - ys.length + (i - (N.length - ys.length)) = i by omega]; exact q1
        rw [e1] at e2; exact e2
       obtain ⟨c, ec, hc⟩ := ca.get ha
       obtain ⟨⟨u, o, ru, eo, hdo⟩, _, _⟩ := (show aO P w H s.heap c (br c v) from e0.hok c _ hc)
       exact ⟨u, ru, .inr ⟨.inr (S.fr y (List.mem_of_getElem? hy)), c, jF hcl ndY hy ec, o, hk _ _ eo, hdo⟩⟩
 · unfold cZ
   show _ = N.length
   have := S.le
   rw [List.length_append, List.length_append, List.length_map, List.length_map, List.length_replicate]
   omega
end
section
variable {P : Program} {w : World} {K : W.Frag} {mg : Str → Option Value} {base : Heap} {k : Nat} {t : cw} {N : List Str} {sp : Sp}
theorem rV {body : List Stmt} (hb : t.body = .stmts body) (S : dF N t.ps t.ys t.scope)
    (hbody : ∀ (f c : Addr) (cl : List (Str × Addr)) (A : Around) (outer : List Env) (s : Shared) (H : Hp) (vs cvs : List V) (Q : VK) (E : XK), ba k (A.deeper (W.envX t.qual t.scope s.heap.objs.size f (.ref c) cl)) → vs.length = t.ps.length → cvs.length = t.ys.length → sp (vs ++ cvs) H Q E →
      ∃ td, PSs (fB P w K mg base N t.qual t.scope f c cl A outer s H E) body td ∧ td { nx := fun _ H' => Q .non H', rt := Q } (cZ N vs cvs) H) : eF P w K mg base (k + 1) t sp := by
  refine ⟨fun A outer s H f cs us vs cvs Q E hr e0 ca r hl hsp => ?_⟩
  obtain ⟨c, hf, hcc⟩ := ca.ex
  have KX : K.In s.heap := e0.mod.kin.keeps fun b o e => (e0.bs b o e).1
  have lim : s.heap.NoLimit := e0.mod.nolimit.keeps fun b o e => (e0.bs b o e).1
  obtain ⟨⟨od, fd, sl, ho, h1, h2, h3, h4, h5, h6, h7, h8, h9, h10⟩, _, _⟩ := (show aO P w H s.heap f (cx f t cs c) from e0.hok f _ hf)
  obtain ⟨⟨o, vs', tk, hco, hdo, hv⟩, _, _⟩ := (show aO P w H s.heap c (bV c t.qual) from e0.hok c _ hcc)
  have hcd : s.heap.CodeRec fd.code fd.qualname := ⟨c, o, vs', tk, h6, hco, hdo, by rw [h1]; exact hv⟩
  refine codeAny_mono (codeAny_call_function (R := CR (CX1 P w) outer P w (cg cs H) s (fun v H' => Q v (bL cs H H')) (fun c a H' => E c a (bL cs H H'))) hr.depth ho rfl (by rw [h3]; exact S.co) (by rw [h3]; exact S.gen) (h2.trans hb) hcd ?_) fun r s' h => CR.back ca.cells e0.frf e0.hok h
  rw [h8 us (by rw [← r.length]; exact hl), h3, h4, h5, h1, h6, h7]
  refine wpAny_pure (wpAny_newFunctionEnv S.nocell (fun y hy => S.par y.1 (List.of_mem_zip hy).1) (fun h' hns hsb => ⟨lim.fresh _ hsb, ?_⟩) S.kind)
  have hk : ∀ b o, s.heap.get? b = some o → h'.get? b = some o := fun b o e => hsb.extBut b o (Nat.ne_of_lt (Heap.lt_size e)) (Heap.get?_push_of_some _ e)
  have lcv : cvs.length = t.ys.length := by rw [← h10]; exact (Paired.length ca.cells).symm
  obtain ⟨td, ht, hq⟩ := hbody f c (t.ys.zip cs) A outer s (cg cs H) vs cvs _ _ (hr.deeper _) hl lcv hsp
  have I := oP (tk := s.toks + (t.ps.zip us).length) (qual := t.qual) (f := f) (c := c) (E := fun c a H' => E c a (bL cs H H')) S hr.hd e0 ca.cells h9 h10 hl r hns hk
  show codeAny _ _ (.func body (W.envX t.qual t.scope s.heap.objs.size f (.ref c) (t.ys.zip cs))) _ _
  refine codeAny_func ?_
  refine wpAny_mono (ht [] _ (cZ N vs cvs) _ _ I hq) (fun fl s' hs => ?_) fun e s' hs => hs
  cases fl with
  | ret u =>
    obtain ⟨v, σ', H', J, rv, q⟩ := hs
    exact ⟨v, H', J.os, J.bare, J.base, J.hok, rv, q⟩
  | next =>
    obtain ⟨σ', H', J, q⟩ := hs
    exact ⟨V.non, H', J.os, J.bare, J.base, J.hok, rfl, q⟩
  | brk =>
    obtain ⟨_, _, _, q⟩ := hs
    exact False.elim q
  | cont =>
    obtain ⟨_, _, _, q⟩ := hs
    exact False.elim q
theorem oA {body : Expr} (hb : t.body = .expr body) (S : dF N t.ps t.ys t.scope)
  (hbody : ∀ (f c : Addr) (cl : List (Str × Addr)) (A : Around) (outer : List Env) (s : Shared) (H : Hp) (vs cvs : List V) (Q : VK) (E : XK), ba k (A.deeper (W.envX t.qual t.scope s.heap.objs.size f (.ref c) cl)) → vs.length = t.ps.length → cvs.length = t.ys.length → sp (vs ++ cvs) H Q E →
   ∃ te, PE (fB P w K mg base N t.qual t.scope f c cl A outer s H E) body te ∧ te (cZ N vs cvs) H Q) : eF P w K mg base (k + 1) t sp := by
 refine ⟨fun A outer s H f cs us vs cvs Q E hr e0 ca r hl hsp => ?_⟩
 obtain ⟨c, hf, hcc⟩ := ca.ex
 have KX : K.In s.heap := e0.mod.kin.keeps fun b o e => (e0.bs b o e).1
 have lim : s.heap.NoLimit := e0.mod.nolimit.keeps fun b o e => (e0.bs b o e).1
 obtain ⟨⟨od, fd, sl, ho, h1, h2, h3, h4, h5, h6, h7, h8, h9, h10⟩, _, _⟩ := (show aO P w H s.heap f (cx f t cs c) from e0.hok f _ hf)
 obtain ⟨⟨o, vs', tk, hco, hdo, hv⟩, _, _⟩ := (show aO P w H s.heap c (bV c t.qual) from e0.hok c _ hcc)
 have hcd : s.heap.CodeRec fd.code fd.qualname := ⟨c, o, vs', tk, h6, hco, hdo, by rw [h1]; exact hv⟩
 refine codeAny_mono (W.kla_callFunE (R := CR (CX1 P w) outer P w (cg cs H) s (fun v H' => Q v (bL cs H H')) (fun c a H' => E c a (bL cs H H'))) hr.depth ho rfl (by rw [h3]; exact S.co) (by rw [h3]; exact S.gen) (h2.trans hb) hcd ?_) fun r s' h => CR.back ca.cells e0.frf e0.hok h
 rw [h8 us (by rw [← r.length]; exact hl), h3, h4, h5, h1, h6, h7]
 refine wpAny_pure (wpAny_newFunctionEnv S.nocell (fun y hy => S.par y.1 (List.of_mem_zip hy).1) (fun h' hns hsb => ⟨lim.fresh _ hsb, ?_⟩) S.kind)
 have hk : ∀ b o, s.heap.get? b = some o → h'.get? b = some o := fun b o e => hsb.extBut b o (Nat.ne_of_lt (Heap.lt_size e)) (Heap.get?_push_of_some _ e)
 have lcv : cvs.length = t.ys.length := by rw [← h10]; exact (Paired.length ca.cells).symm
 obtain ⟨te, ht, hq⟩ := hbody f c (t.ys.zip cs) A outer s (cg cs H) vs cvs _ _ (hr.deeper _) hl lcv hsp
 have I := oP (tk := s.toks + (t.ps.zip us).length) (qual := t.qual) (f := f) (c := c) (E := fun c a H' => E c a (bL cs H H')) S hr.hd e0 ca.cells h9 h10 hl r hns hk
 show codeAny _ _ (.expr body (W.envX t.qual t.scope s.heap.objs.size f (.ref c) (t.ys.zip cs))) _ _
 refine W.kla_codeExpr ?_
 refine wpAny_mono (ht [] _ (cZ N vs cvs) _ _ I hq) (fun v s' hs => ?_) fun e s' hs => hs
 obtain ⟨x, H', J, rv, q⟩ := hs
 exact ⟨x, H', J.os, J.bare, J.base, J.hok, rv, q⟩
end
end L2
namespace L2
open PySem PySem.Spec PyProof.Rows
def BM (mg : Str → Option Value) (h : Heap) : Prop := ∃ bm ob, mg "__builtins__" = some (.ref bm) ∧ bm ≠ builtinsNs ∧ h.get? bm = some ob ∧ ob.cls = .type "module" ∧ ob.dict = some builtinsNs ∧ ob.data = .plain
section
variable {X : Cx} {pins : List (Addr × Obj)} {σ : St} {H : Hp} {s : Shared} {P c : Addr} {ps : Array Value} {t : cw} {cs : List Addr} {h' : Heap} {tk : Nat} {fd : FuncData}
theorem nA {more : Array Value} (I : Inv X pins σ H s) (hP : H P = some (.tbl ps)) (hx : Heap.ExtBut P s.heap h') (hge : s.heap.objs.size ≤ c) (hlt : c < h'.objs.size) (hrec : h'.CodeRec (.ref c) t.qual)
   (htb : h'.get? P = some (W.tabObj (ps ++ more))) (hfd : jQ t cs c fd) :
   Inv X pins σ (upd (upd (upd H P (.tbl (ps ++ more))) c (bV c t.qual)) h'.objs.size (cx h'.objs.size t cs c)) { s with heap := h'.push { cls := .type "function", data := .func fd }, toks := tk } := by
 have hcn : H c = none := I.hok.fresh hge
 have hfn : H h'.objs.size = none := I.hok.fresh (Nat.le_of_lt (Nat.lt_of_le_of_lt hge hlt))
 have ncP : c ≠ P := (aq hP hcn).symm
 have nfP : h'.objs.size ≠ P := (aq hP hfn).symm
 have ncf : c ≠ h'.objs.size := Nat.ne_of_lt hlt
 have old : ∀ b o, s.heap.get? b = some o → b ≠ c ∧ b ≠ h'.objs.size := fun b o e => ⟨Nat.ne_of_lt (Nat.lt_of_lt_of_le (Heap.lt_size e) hge), Nat.ne_of_lt (Nat.lt_of_lt_of_le (Heap.lt_size e) (Nat.le_of_lt (Nat.lt_of_le_of_lt hge hlt)))⟩
 have keepP : ∀ b o, b ≠ P → s.heap.get? b = some o → (h'.push { cls := .type "function", data := .func fd }).get? b = some o := fun b o hb e => Heap.get?_push_of_some _ (hx b o hb e)
 have neP : ∀ b, H b = none → b ≠ P := fun b e z => by rw [z, hP] at e; cases e
 have obj : ∀ b o, H b = some o → ∃ u, s.heap.get? b = some u := fun b o e => jn (I.hok b o e)
 have same : ∀ b o, H b = some o → b ≠ P → (upd (upd (upd H P (.tbl (ps ++ more))) c (bV c t.qual)) h'.objs.size (cx h'.objs.size t cs c)) b = some o := fun b o e hb => by
   rw [aj (aq e hfn), aj (aq e hcn), aj hb]; exact e
 refine I.un ⟨fun b o e n hb hx' => keepP b o (neP b n) e, fun b o e n hb hx' => ⟨o.slots, keepP b o (neP b n) e⟩, fun b o e n hx' => ?_, fun b o e hx' => ?_, fun b xs e => same b _ e (bN e hP (fun z => nomatch z)), fun b o u e => same b _ e (bN e hP (fun z => nomatch z)), fun b qs e => ?_⟩ fun b o e => ?_
 · rw [aj (old b o e).2, aj (old b o e).1, aj (neP b n)]; exact n
 · by_cases hb : b = P
   · subst hb; exact ⟨_, Heap.get?_push_of_some _ htb⟩
   · exact ⟨o, keepP b o hb e⟩
 · by_cases hb : b = P
   · subst hb
     rw [hP] at e; cases e
     exact ⟨more, by rw [aj nfP.symm, aj ncP.symm, am]⟩
   · exact ⟨#[], by rw [same b _ e hb]; simp⟩
 · by_cases hf : b = h'.objs.size
   · subst hf
     rw [am] at e; cases e
     refine ⟨⟨_, fd, _, Heap.get?_push_size _ rfl, hfd⟩, ⟨_, Heap.get?_push_size _ rfl⟩, ?_⟩
     rintro h1 h2 ⟨od, fd', sl, e1, e2⟩ k
     exact ⟨od, fd', sl, k _ e1, e2⟩
   · rw [aj hf] at e
     by_cases hc : b = c
     · subst hc
       rw [am] at e; cases e
       obtain ⟨c2, oc, vs, tq, e0, e1, e2, e3⟩ := hrec
       cases e0
       refine ⟨⟨oc, vs, tq, Heap.get?_push_of_some _ e1, e2, e3⟩, ⟨_, Heap.get?_push_of_some _ e1⟩, ?_⟩
       rintro h1 h2 ⟨o, vs, tk, a1, a2, a3⟩ k
       exact ⟨o, vs, tk, k _ a1, a2, a3⟩
     · rw [aj hc] at e
       by_cases hp : b = P
       · subst hp
         rw [am] at e; cases e
         exact Heap.get?_push_of_some _ htb
       · rw [aj hp] at e
         refine (I.hok b o e).stay (fun a u ha q => keepP a u ?_ q) (fun a q => same a _ q (bN q hP (fun z => nomatch z))) fun a xs q => same a _ q (bN q hP (fun z => nomatch z))
         rcases ha with rfl | ha
         · exact hp
         · exact bN ha hP (fun z => nomatch z)
theorem nC (I : Inv X pins σ H s) (hk : ∀ b o, s.heap.get? b = some o → h'.get? b = some o) (hsz : s.heap.objs.size ≤ h'.objs.size) (hfd : jQ t cs c fd) :
  Inv X pins σ (upd H h'.objs.size (cx h'.objs.size t cs c)) { s with heap := h'.push { cls := .type "function", data := .func fd }, toks := tk } := by
 refine I.laid (a := h'.objs.size) (o := cx h'.objs.size t cs c) (fun b u e => Heap.get?_push_of_some _ (hk b u e)) hsz ⟨⟨_, fd, _, Heap.get?_push_size _ rfl, hfd⟩, ⟨_, Heap.get?_push_size _ rfl⟩, ?_⟩
 rintro h1 h2 ⟨od, fd', sl, e1, e2⟩ k
 exact ⟨od, fd', sl, k _ e1, e2⟩
end
def jY (P : Addr) (pos : Pos) (t : cw) (cs : List Addr) : TE := fun _ H Q => ∃ ps, H P = some (.tbl ps) ∧ TriplesOk ps.toList ∧
  ((codeAmong pos ps.toList = none ∧ ∀ c f, H c = none → H f = none → c ≠ f → Q (.ref f) (upd (upd (upd H P (.tbl (ps ++ #[rawInt pos.line, rawInt pos.col, .ref c]))) c (bV c t.qual)) f (cx f t cs c))) ∨
   ∃ c, codeAmong pos ps.toList = some (.ref c) ∧ ∀ f, H f = none → Q (.ref f) (upd H f (cx f t cs c)))
section
variable {X : Cx} {c0 P : Addr} {params : Arguments} {scope : Scope} {pos : Pos} {t : cw} {cs : List Addr}
theorem oN {pins : List (Addr × Obj)} {σ : St} {H : Hp} {s : Shared} {ps : Array Value} (I : Inv X pins σ H s) (hP : H P = some (.tbl ps)) (B : BM X.mg X.base) :
   s.heap.get? P = some (W.tabObj ps) ∧ s.heap.Ns mainGlobals X.mg ∧ mainGlobals ≠ P ∧ s.heap.BuiltinsAt X.mg P := by
 have hPo : s.heap.get? P = some (W.tabObj ps) := I.hok P _ hP
 have hg : s.heap.Ns mainGlobals X.mg := I.mod.glob.keeps I.bk
 have hgP : mainGlobals ≠ P := fun q => by
   obtain ⟨o, es, ep, e, hd, _⟩ := hg
   rw [q, hPo] at e; cases e; cases hd
 obtain ⟨bm, ob, b1, b2, b3, b4, b5, b6⟩ := B
 have b3' := I.bk _ _ b3
 refine ⟨hPo, hg, hgP, bm, ob, b1, b2, fun q => ?_, fun q => ?_, b3', b4, b5, b6⟩
 · obtain ⟨o, es, ep, e, hd, _⟩ := hg
   rw [q, e] at b3'; cases b3'; rw [hd] at b6; cases b6
 · rw [q, hPo] at b3'; cases b3'; cases b4
theorem vM {body : Expr} (B : BM X.mg X.base) (C : W.CodeHd X.base c0 P) (hcode : X.env.code = .ref c0) (hcl : closureFor scope X.env = pure (t.ys.zip cs)) (nd : cs.Nodup) (hl : cs.length = t.ys.length)
   (hq : X.env.qual ++ "<lambda>" = t.qual) (hb : t.body = .expr body) (hs : t.scope = scope)
   (hbind : ∀ (cl : List (Str × Addr)) (pm cdv ct : Value) (us : List Value), us.length = t.ps.length → bindArgs (W.kla_fn "<lambda>" t.qual params body scope cl pm cdv ct) ⟨us, []⟩ = pure (t.ps.zip us))
   (hdef : defaultsOf params X.env = ([], []) := by rfl) : QE X (.Lambda params body scope pos) (jY P pos t cs) := ⟨fun pins s σ H Q I h => by
 obtain ⟨ps, hP, ht, h⟩ := h
 obtain ⟨hPo, hg, hgP, hB⟩ := oN I hP B
 have hfd : ∀ (pm ct : Value) (c : Addr), jQ t cs c (W.kla_fn "<lambda>" t.qual params body scope (t.ys.zip cs) pm (.ref c) ct) := fun pm ct c => ⟨rfl, hb.symm, hs.symm, rfl, rfl, rfl, rfl, hbind _ _ _ _, nd, hl⟩
 refine W.kla_eval hdef ?_
 rw [hq]
 rcases h with ⟨hn, q⟩ | ⟨c, hf, q⟩
 · refine W.kla_makeFunction hcl I.ok.glob hg hcode (C.keeps I.bk) hPo ht hn hgP hB fun c ctv h' tk hx hge hlt hrec htb => ?_
   exact ⟨.ref h'.objs.size, _, nA I hP hx hge hlt hrec htb (hfd _ _ _), rfl, q c h'.objs.size (I.hok.fresh hge) (I.hok.fresh (Nat.le_of_lt (Nat.lt_of_le_of_lt hge hlt))) (Nat.ne_of_lt hlt)⟩
 · refine W.kla_makeFunctionHit hcl I.ok.glob hg hcode (C.keeps I.bk) hPo ht hf hB fun ctv h' tk hk hsz => ?_
   exact ⟨.ref h'.objs.size, _, nC I hk hsz (hfd _ _ _), rfl, q h'.objs.size (I.hok.fresh hsz)⟩⟩
theorem wb (i : Nat) {name : Str} {body : List Stmt} (hN : X.N.Nodup) (B : BM X.mg X.base) (C : W.CodeHd X.base c0 P) (hcode : X.env.code = .ref c0) (hcl : closureFor scope X.env = pure (t.ys.zip cs)) (nd : cs.Nodup) (hl : cs.length = t.ys.length)
   (hq : qualnameIn X.env name name = t.qual) (hb : t.body = .stmts body) (hs : t.scope = scope)
   (hbind : ∀ (cl : List (Str × Addr)) (doc pm cdv ct : Value) (us : List Value), us.length = t.ps.length → bindArgs (W.fnX name t.qual params body scope cl .none .none doc pm none cdv ct) ⟨us, []⟩ = pure (t.ps.zip us))
   (hi : X.N[i]? = some name := by rfl) (hx : Loc X.env.scope name := by first | exact .inl rfl | exact .inr rfl) (hf : X.fn name = true ∨ X.env.scope.names.lookup name = some .local := by first | exact .inl rfl | exact .inr rfl)
   (hd0 : params.defaults = [] := by rfl) (hk0 : params.kw_defaults = [] := by rfl) (ha : annTrees params none X.env = [] := by rfl) :
   QS X (.FunctionDef name params body [] none [] scope none name pos) (aF (jY P pos t cs) (aw i)) := ⟨fun pins s σ H D I h => by
 obtain ⟨ps, hP, ht, h⟩ := h
 obtain ⟨hPo, hg, hgP, hB⟩ := oN I hP B
 have hfd : ∀ (doc pm ct : Value) (c : Addr), jQ t cs c (W.fnX name t.qual params body scope (t.ys.zip cs) .none .none doc pm none (.ref c) ct) := fun doc pm ct c => ⟨rfl, hb.symm, hs.symm, rfl, rfl, rfl, rfl, hbind _ _ _ _ _, nd, hl⟩
 refine W.nestDef_K hd0 hk0 ha ?_
 rw [hq]
 rcases h with ⟨hn, q⟩ | ⟨c, hff, q⟩
 · refine W.makeFunction_K hcl I.ok.glob hg hcode (C.keeps I.bk) hPo ht hn hgP hB fun c ctv doc h' tk hx' hge hlt hrec htb => ?_
   have I2 := nA (tk := tk) (cs := cs) I hP hx' hge hlt hrec htb (hfd doc ((X.mg "__name__").getD .none) ctv c)
   exact dY I2 hN hi hx (v := .ref h'.objs.size) rfl (fun s' I3 => ⟨_, _, I3, q c h'.objs.size (I.hok.fresh hge) (I.hok.fresh (Nat.le_of_lt (Nat.lt_of_le_of_lt hge hlt))) (Nat.ne_of_lt hlt)⟩) hf
 · refine W.makeFunction_hit hcl I.ok.glob hg hcode (C.keeps I.bk) hPo ht hff hB fun ctv doc h' tk hk hsz => ?_
   have I2 := nC (tk := tk) (cs := cs) I hk hsz (hfd doc ((X.mg "__name__").getD .none) ctv c)
   exact dY I2 hN hi hx (v := .ref h'.objs.size) rfl (fun s' I3 => ⟨_, _, I3, q h'.objs.size (I.hok.fresh hsz)⟩) hf⟩
end
section
variable {X : Cx} {k : Nat} {E : St → XK} {x : Str} {p pos : Pos} {e : Expr} {es : List Expr} {ta : TE}
abbrev jD := List (cw × Sp)
def qu (ks : jD) (f : Addr) (vs : List V) (H : Hp) (Q : VK) (E : XK) : Prop := ∃ ts ∈ ks, ∃ cs cvs, cV H f ts.1 cs cvs ∧ vs.length = ts.1.ps.length ∧ ts.2 (vs ++ cvs) (cg cs H) (fun v H' => Q v (bL cs H H')) (fun c a H' => E c a (bL cs H H'))
def dB (ks : jD) (E : St → XK) (ta : TE) (t : TA) : TE := fun σ H Q => ta σ H fun x H1 => ∃ f, x = .ref f ∧ (∃ ts ∈ ks, ∃ cs cvs, cV H1 f ts.1 cs cvs) ∧ t σ H1 fun vs H2 => qu ks f vs H2 Q (E σ)
theorem rO {P : Program} {w : World} {H : Hp} {h : Heap} {f : Addr} {t : cw} {cs : List Addr} {cvs : List V} (ok : HOk P w H h) (c : cV H f t cs cvs) : W.FnAt f h := by
 obtain ⟨c', hf, _⟩ := c.ex
 obtain ⟨⟨od, fd, sl, ho, _⟩, _, _⟩ := (show aO P w H h f (cx f t cs c') from ok f _ hf)
 exact ⟨_, _, _, _, ho⟩
def oR (P : Program) (w : World) (K : W.Frag) (mg : Str → Option Value) (base : Heap) (k : Nat) (ks : jD) : Prop := ∀ ts ∈ ks, eF P w K mg base k ts.1 ts.2
theorem dv {ks : jD} {t : TA} (hk : oR X.prog X.w X.K X.mg X.base k ks) (hr : ba k X.A) (hx : eI (CX1 X.prog X.w) X E) (hg : QE X (.Name x p) ta) (ha : QA X (e :: es) t) (hs : aW (e :: es) = true := by rfl) :
    QE X (.Call (.Name x p) (e :: es) [] pos) (dB ks E ta t) := ⟨fun pins s σ H Q I h => by
  have h' : (bv e && aW es) = true := hs
  refine wpAny_Call_Name_kw (thn (hg.out pins s σ H _ I h) fun u s1 ⟨y, H1, I1, ry, f, ey, ⟨ts, hts, cs, cvs, ca⟩, q⟩ => ?_)
  subst ey
  obtain rfl : u = Value.ref f := ry
  refine W.callWith_F (rO I1.hok ca) (thn (ha.out pos pins s1 σ H1 _ I1 q) fun us s2 ⟨vs, H2, I2, rv, ts2, hm2, cs2, cvs2, ca2, hl, hsp⟩ => ⟨rO I2.hok ca2, ?_⟩)
    (aV (Bool.and_eq_true_iff.mp h').1 es X.env) (bo (Bool.and_eq_true_iff.mp h').2)
  refine wpAny_call (codeAny_mono ((hk ts2 hm2).run X.A X.stack s2 H2 f cs2 us vs cvs2 Q (E σ) hr I2.env0 ca2 rv hl hsp) fun r s' hq => ?_)
  cases r with
  | error e => exact hx pins σ H2 s2 e s' I2 hq
  | ok fl =>
    cases fl with
    | ret u => exact I2.after hq
    | next => exact False.elim hq
    | brk => exact False.elim hq
    | cont => exact False.elim hq⟩
end
end L2
namespace L2
open PySem PySem.Spec PyProof.Rows
structure jB where
 nx : St → Hp → Prop
 rt : St → VK
abbrev TSM := jB → St → Hp → Prop
def SPM (X : Cx) (pins : List (Addr × Obj)) (D : jB) (f : Flow) (s' : Shared) : Prop :=
 match f with
 | .next => ∃ σ' H', Inv X pins σ' H' s' ∧ D.nx σ' H'
 | .ret u => ∃ v σ' H', Inv X pins σ' H' s' ∧ aC v u ∧ D.rt σ' v H'
 | _ => False
structure QM (X : Cx) (st : Stmt) (t : TSM) : Prop where
 out : ∀ (pins : List (Addr × Obj)) (s : Shared) (σ : St) (H : Hp) (D : jB), Inv X pins σ H s → t D σ H → wpAny (model X.prog X.w) X.A (exec st X.env) (SPM X pins D) X.xe s
structure QMs (X : Cx) (st : List Stmt) (t : TSM) : Prop where
 out : ∀ (pins : List (Addr × Obj)) (s : Shared) (σ : St) (H : Hp) (D : jB), Inv X pins σ H s → t D σ H → wpAny (model X.prog X.w) X.A (execs st X.env) (SPM X pins D) X.xe s
def qx (t u : TSM) : TSM := fun D σ H => t { D with nx := fun σ' H' => u D σ' H' } σ H
def ms (t : TS) : TSM := fun D σ H => t { nx := D.nx, rt := fun _ _ => False } σ H
def mG (te : TE) : TSM := fun D σ H => te σ H (D.rt σ)
section
variable {X : Cx} {st : Stmt} {sts l m : List Stmt} {t u : TSM} {tS : TS} {e c : Expr} {te : TE} {tc : TT} {pos : Pos}
theorem mY (h : QS X st tS) : QM X st (ms tS) := ⟨fun pins s σ H D I hq => thn (h.out pins s σ H _ I hq) fun f s1 q => by
 cases f with
 | next => exact q
 | ret v => obtain ⟨_, _, _, _, _, z⟩ := q; exact z.elim
 | brk => obtain ⟨_, _, _, z⟩ := q; exact z.elim
 | cont => obtain ⟨_, _, _, z⟩ := q; exact z.elim⟩
theorem ml (h : QE X e te) : QM X (.Return (some e) pos) (mG te) := ⟨fun pins s σ H D I hq =>
 wpAny_Return_some (thn (h.out pins s σ H _ I hq) fun v s1 ⟨x, H1, I1, r1, q1⟩ => ⟨x, σ, H1, I1, r1, q1⟩)⟩
theorem mO (h1 : QM X st t) (h2 : QMs X sts u) : QMs X (st :: sts) (qx t u) := ⟨fun pins s σ H D I h => by
  refine wpAny_execs_cons (thn (h1.out pins s σ H _ I h) fun f s1 q => ?_)
  cases f with
  | next =>
    obtain ⟨σ', H', I', q⟩ := q
    exact h2.out pins s1 σ' H' D I' q
  | ret v => exact q
  | brk => exact q
  | cont => exact q⟩
theorem mi (h1 : QM X st t) : QMs X [st] t := ⟨fun pins s σ H D I h => by
 refine wpAny_execs_cons (thn (h1.out pins s σ H D I h) fun f s1 q => ?_)
 cases f with
 | next => exact wpAny_execs_nil q
 | ret v => exact q
 | brk => exact q
 | cont => exact q⟩
end
def ck : List (Nat × Addr) → St → Hp → Hp
  | [], _, H => H
  | (i, c) :: r, σ, H => match σ[i]? with
    | some (some v) => ck r σ (upd H c (br c v))
    | _ => ck r σ H
theorem jj {P : Program} {w : World} {fs : List Addr} {H : Hp} {h h' : Heap} {σ : St} : ∀ (cs : List (Nat × Addr)) (H' : Hp), (cs.map (·.2)).Nodup → (∀ p ∈ cs, H' p.2 = none ∧ h.objs.size ≤ p.2 ∧ ∀ v, σ[p.1]? = some (some v) → ∃ u o, aC v u ∧ h'.get? p.2 = some o ∧ o.data = .cell (some u)) →
    Un fs [] H H' h h' → HOk P w H' h' → Un fs [] H (ck cs σ H') h h' ∧ HOk P w (ck cs σ H') h'
  | [], H', _, _, u, ok => ⟨u, ok⟩
  | (i, c) :: r, H', nd, hc, u, ok => by
    unfold ck
    have ndr := (List.nodup_cons.mp nd).2
    have hcr : ∀ p ∈ r, H' p.2 = none ∧ h.objs.size ≤ p.2 ∧ ∀ v, σ[p.1]? = some (some v) → ∃ u o, aC v u ∧ h'.get? p.2 = some o ∧ o.data = .cell (some u) := fun p hp => hc p (List.mem_cons_of_mem _ hp)
    split
    · rename_i v hv
      obtain ⟨hn, hge, hcell⟩ := hc (i, c) List.mem_cons_self
      have hn : H' c = none := hn
      have hge : h.objs.size ≤ c := hge
      obtain ⟨uv, o, ru, eo, hd⟩ := hcell v hv
      have eo : h'.get? c = some o := eo
      refine jj r (upd H' c (br c v)) ndr (fun p hp => ⟨?_, (hcr p hp).2⟩) ⟨u.keep, u.slot, fun b ob e n hx => ?_, u.there, fun b xs e => ?_, fun b ob z e => ?_, fun b ps e => ?_⟩ fun b ob e => ?_
      · have : p.2 ≠ c := fun z => (List.nodup_cons.mp nd).1 (by rw [← z]; exact List.mem_map.mpr ⟨p, hp, rfl⟩)
        rw [aj this]; exact (hcr p hp).1
      · rw [aj (Nat.ne_of_lt (Nat.lt_of_lt_of_le (Heap.lt_size e) hge))]; exact u.free b ob e n hx
      · have z := u.tups b xs e; rw [aj (aq z hn)]; exact z
      · have z := u.frzs b ob _ e; rw [aj (aq z hn)]; exact z
      · obtain ⟨more, z⟩ := u.tbls b ps e; exact ⟨more, by rw [aj (aq z hn)]; exact z⟩
      · by_cases hb : b = c
        · subst hb
          rw [am] at e; cases e
          refine ⟨⟨uv, o, ru, eo, hd⟩, ⟨o, eo⟩, ?_⟩
          rintro h1 h2 ⟨u', o', r', e', d'⟩ k
          exact ⟨u', o', r', k _ e', d'⟩
        · rw [aj hb] at e
          exact (ok b ob e).stay (fun a q _ z => z) (fun a q => by rw [aj (aq q hn)]; exact q) fun a xs q => by rw [aj (aq q hn)]; exact q
    · exact jj r H' ndr hcr u ok
theorem Fun.okM {P : Program} {w : World} {K : W.Frag} {mg : Str → Option Value} {base : Heap} {x qual : Str} {st : Stmt} {f c0 : Addr} {fd : FuncData} {N ps : List Str} {k : Nat} {sp : Sp} {caps : Nat → List (Nat × Addr)} (F : Fun K x qual st f fd) (hcd : fd.code = .ref c0) (S : az N ps (ai st)) (len : ∀ vs H Q E, sp vs H Q E → vs.length = ps.length)
    (hcaps : ∀ (L : Nat) (p : Nat × Addr), p ∈ caps L → ∃ y, N[p.1]? = some y ∧ (ai st).names.lookup y = some .cell ∧ (cellsFrom (L + 1) (ai st).names []).lookup y = some p.2) (hnd : ∀ L, ((caps L).map (·.2)).Nodup)
    (hbody : ∀ (A : Around) (outer : List Env) (s : Shared) (H : Hp) (vs : List V) (Q : VK) (E : XK), ba k (A.deeper (envOfC qual (ai st) s.heap.objs.size f (.ref c0))) → sp vs H Q E →
      ∃ t, QMs (cI (CX1 P w) P w K mg base N qual (ai st) f (.ref c0) A outer s H E) (aL st) t ∧ t { nx := fun σ H' => (∀ p ∈ caps s.heap.objs.size, H' p.2 = none) → Q .non (ck (caps s.heap.objs.size) σ H'), rt := fun σ v H' => (∀ p ∈ caps s.heap.objs.size, H' p.2 = none) → Q v (ck (caps s.heap.objs.size) σ H') } (start N vs) H) : aU P w K mg base (CX1 P w) (k + 1) f fd ps sp := by
  obtain ⟨oc, od, kV, doc, pm, an, cdv, ct, osl, rfl, lk, hcd'⟩ := F.ex
  obtain rfl : cdv = .ref c0 := hcd
  refine ⟨len, fun A outer s H args us vs Q E hr e0 hb r hsp => ?_⟩
  have hl := len _ _ _ _ hsp
  have KX : K.In s.heap := e0.mod.kin.keeps fun b o e => (e0.bs b o e).1
  have lim : s.heap.NoLimit := e0.mod.nolimit.keeps fun b o e => (e0.bs b o e).1
  have hkind : ∀ y ∈ ps.zip us, (ai st).names.lookup y.1 = some .local ∨ ((ai st).names.lookup y.1 = some .cell ∧ ((cellsFrom (s.heap.objs.size + 1) (ai st).names []).lookup y.1).isSome = true) := fun ⟨n, v⟩ hy => by
    rcases S.par n (List.of_mem_zip hy).1 with q | q
    · exact .inl q
    · exact .inr ⟨q, W.cellsFrom_some _ _ _ (.inl q)⟩
  refine codeAny_call_function hr.depth (KX _ _ lk) rfl S.co S.gen rfl (W.codeRec_of KX hcd') (hb _ _ _ _ ?_)
  refine wpAny_newFunctionEnv_cells S.kind hkind fun env he s1 x => ?_
  subst he
  refine ⟨lim.keeps x.toInCall.keep, codeAny_func ?_⟩
  obtain ⟨t, ht, hq⟩ := hbody A outer s H vs Q E (hr.deeper _) hsp
  have I : Inv (cI (CX1 P w) P w K mg base N qual (ai st) f (.ref c0) A outer s H E) [] (start N vs) H s1 := kO S hr.hd e0 hl r x
  refine wpAny_mono (ht.out [] s1 (start N vs) H _ I hq) (fun fl s' hs => ?_) fun e s' hs => hs
  have fin : ∀ {σ' : St} {H' : Hp} {v : V} {u : Value}, Inv (cI (CX1 P w) P w K mg base N qual (ai st) f (.ref c0) A outer s H E) [] σ' H' s' → aC v u → ((∀ p ∈ caps s.heap.objs.size, H' p.2 = none) → Q v (ck (caps s.heap.objs.size) σ' H')) → CE outer P w H s Q u s' :=
    fun {σ' H' v u} J rv q => by
      have free : ∀ p ∈ caps s.heap.objs.size, H' p.2 = none := fun p hp => by
        obtain ⟨y, _, _, hc⟩ := hcaps _ p hp
        exact J.freeC y p.2 hc
      have hcond : ∀ p ∈ caps s.heap.objs.size, H' p.2 = none ∧ s.heap.objs.size ≤ p.2 ∧ ∀ v, σ'[p.1]? = some (some v) → ∃ u o, aC v u ∧ s'.heap.get? p.2 = some o ∧ o.data = .cell (some u) := fun p hp => by
        obtain ⟨y, hy, hk, hc⟩ := hcaps _ p hp
        refine ⟨free p hp, J.ok.cab y p.2 rfl hc, fun v hv => ?_⟩
        obtain ⟨m, _, hloc⟩ := J.loc
        obtain ⟨u', r', lk'⟩ := hloc p.1 y v hy hv (.inr (.inl hk))
        rcases lk' with ⟨z, _⟩ | ⟨_, c, ec, o, eo, hd⟩
        · have z : (ai st).names.lookup y = some .local := z
          rw [hk] at z; cases z
        · have ec : (cellsFrom (s.heap.objs.size + 1) (ai st).names []).lookup y = some c := ec
          rw [hc] at ec; cases ec
          exact ⟨u', o, r', eo, hd⟩
      obtain ⟨un, ok⟩ := jj (P := P) (w := w) (σ := σ') (caps s.heap.objs.size) H' (hnd _) hcond J.base J.hok
      exact ⟨v, _, J.os, J.bare, un, ok, rv, q free⟩
  cases fl with
  | ret u =>
    obtain ⟨v, σ', H', J, rv, q⟩ := hs
    exact fin J rv q
  | next =>
    obtain ⟨σ', H', J, q⟩ := hs
    exact fin (v := V.non) (u := Value.none) J rfl q
  | brk => exact False.elim hs
  | cont => exact False.elim hs
end L2
namespace L2
open PySem PySem.Spec PyProof.Rows
theorem sh {P : Program} {w : World} {K : W.Frag} {mg mb : Str → Option Value} {CX : CXT} {k : Nat} {fa a : Addr} {fd : FuncData} {x : Str} {sp : Sp} {s₁ : Shared} {vs : List Value} {ns : List Int} {tabs : List (Addr × Addr)}
    (KX : K.In s₁.heap) (hns : s₁.heap.Ns mainGlobals mg) (hb : s₁.heap.Ns builtinsNs mb) (hbb : ∀ x : Str, x ≠ "__name__" → mb x = bootBuiltins x) (hlim : s₁.heap.NoLimit) (hg : s₁.gens = #[]) (hB : BM mg s₁.heap)
    (hT : ∀ q ∈ tabs, W.CodeHd s₁.heap q.1 q.2 ∧ s₁.heap.get? q.2 = some (W.tabObj #[])) (hKT : W.noTabs K = true)
    (ha : s₁.heap.get? a = some { cls := .type "list", data := .seq vs.toArray }) (hi : IntsAre vs ns) (hl : ns.length ≤ sizeLine) (hr : ba k callerA)
    (F : ∀ base : Heap, K.In base → base.Ns mainGlobals mg → BM mg base → (∀ q ∈ tabs, W.CodeHd base q.1 q.2) → aU P w K mg base CX k fa fd [x] sp) (hbind : ∀ (s : Shared) (u : Value), BindsTo s fd ⟨[u], []⟩ [(x, u)])
    (hsp : ∀ H : Hp, (∀ q ∈ tabs, H q.2 = some (.tbl #[])) → SqL K H a (ns.map V.int) → sp [.ref a] H (fun v _ => v = .bl true) fun _ _ _ => False)
    (hCX : ∀ H e s', CX [] H s₁ (fun _ _ _ => False) e s' → False) :
    codeAny (model P w) callerA (.call (.ref fa) ⟨[.ref a], []⟩) (fun r s' => r = .ok (.ret (.bool true)) ∧ OldK s₁.heap s'.heap ∧ s'.os = s₁.os ∧ AllBare s'.gens) s₁ := by
  have rv := kX hi
  have lenV := hi.length
  have tabK : ∀ q ∈ tabs, K.lookup q.2 = none := fun q hq => by
    cases e : K.lookup q.2 with
    | none => rfl
    | some o =>
      have e2 := KX _ _ e
      rw [(hT q hq).2] at e2; cases e2
      have := List.all_eq_true.mp hKT _ (W.mem_of_lookupK e)
      exact absurd (show false = true from this) Bool.false_ne_true
  have tabA : ∀ q ∈ tabs, q.2 ≠ a := fun q hq e => by
    have e2 := (hT q hq).2
    rw [e, ha] at e2; cases e2
  have core : ∀ H : Hp, (∀ q ∈ tabs, H q.2 = some (.tbl #[])) → SqL K H a (ns.map V.int) → HOk P w H s₁.heap → (∀ b, H b ≠ none → (b = a ∧ ∃ o xs, H b = some (.frz o (.lst xs))) ∨ ∃ q ∈ tabs, q.2 = b) → (∀ b, H b ≠ none → K.lookup b = none) →
      codeAny (model P w) callerA (.call (.ref fa) ⟨[.ref a], []⟩) (fun r s' => r = .ok (.ret (.bool true)) ∧ OldK s₁.heap s'.heap ∧ s'.os = s₁.os ∧ AllBare s'.gens) s₁ := by
    intro H hO hS hok hA hK
    have base_of : ∀ {b : Addr} {o : Obj}, s₁.heap.get? b = some o → H b = none → (fw s₁.heap H).get? b = some o := fun e n => tG e n
    have noA : ∀ {b : Addr} {o : Obj}, s₁.heap.get? b = some o → o.cls ≠ .none → o.cls ≠ .type "list" → H b = none := fun {b o} e c1 c2 => by
      cases q : H b with
      | none => rfl
      | some u =>
        rcases hA b (by rw [q]; simp) with ⟨rfl, _⟩ | ⟨p, hp, rfl⟩
        · rw [ha] at e; cases e; exact absurd rfl c2
        · rw [(hT p hp).2] at e; cases e; exact absurd rfl c1
    have noD : ∀ {b : Addr} {o : Obj} {es : Array DictEntry} {ep : Nat}, s₁.heap.get? b = some o → o.data = .dict es ep → H b = none := fun {b o es ep} e d => by
      cases q : H b with
      | none => rfl
      | some u =>
        rcases hA b (by rw [q]; simp) with ⟨rfl, _⟩ | ⟨p, hp, rfl⟩
        · rw [ha] at e; cases e; cases d
        · rw [(hT p hp).2] at e; cases e; cases d
    have nsK : ∀ {b : Addr} {m : Str → Option Value}, s₁.heap.Ns b m → (fw s₁.heap H).Ns b m := fun {b m} ⟨o, es, ep, e, d, r⟩ => ⟨o, es, ep, base_of e (noD e d), d, r⟩
    have hKb : K.In (fw s₁.heap H) := fun b o e => base_of (KX b o e) (by
      cases q : H b with
      | none => rfl
      | some u => rw [hK b (by rw [q]; simp)] at e; cases e)
    have hBb : BM mg (fw s₁.heap H) := by
      obtain ⟨bm, ob, b1, b2, b3, b4, b5, b6⟩ := hB
      exact ⟨bm, ob, b1, b2, base_of b3 (noA b3 (by rw [b4]; intro z; cases z) (by rw [b4]; intro z; exact absurd (Value.type.inj z) (by decide))), b4, b5, b6⟩
    have hCb : ∀ q ∈ tabs, W.CodeHd (fw s₁.heap H) q.1 q.2 := fun q hq => by
      obtain ⟨o, vs, file, tf, flags, tg, inF, text, tt, e1, e2, r⟩ := (hT q hq).1
      exact ⟨o, vs, file, tf, flags, tg, inF, text, tt, base_of e1 (noA e1 (by rw [e2]; intro z; cases z) (by rw [e2]; intro z; exact absurd (Value.type.inj z) (by decide))), e2, r⟩
    have hM : Mod K mg (fw s₁.heap H) := ⟨hKb, nsK hns, ⟨mb, nsK hb, hbb⟩, let ⟨mc, h1, h2⟩ := hlim; ⟨mc, nsK h1, h2⟩⟩
    have e0 : gs P w K mg (fw s₁.heap H) callerA [] s₁ H := ⟨rfl, hM, fun b o e => wX e, Nat.le_of_eq (su _ _), trivial, fun b hb => absurd (show b ∈ ([] : List Addr) from hb) (by simp), hok, .of_eq hg⟩
    refine codeAny_mono ((F _ hKb (nsK hns) hBb hCb).run callerA [] s₁ H ⟨[.ref a], []⟩ [.ref a] [.ref a] _ _ hr e0 (hbind s₁ (.ref a)) (.cons rfl .nil) (hsp H hO hS)) fun r s' h => ?_
    cases r with
    | error e => exact (hCX H e s' h).elim
    | ok fl =>
      cases fl with
      | next => exact False.elim h
      | brk => exact False.elim h
      | cont => exact False.elim h
      | ret u =>
        obtain ⟨v, H', os, bare, un, hok', r', q⟩ := h
        have q' : v = .bl true := q
        subst q'
        obtain rfl : u = Value.bool true := r'
        have all : ∀ b o, s₁.heap.get? b = some o → s'.heap.get? b = some o ∨ ∃ q ∈ tabs, q.2 = b ∧ ∃ more, s'.heap.get? b = some (W.tabObj more) := fun b o e => by
          cases q : H b with
          | none => exact .inl (un.keep b o e q (by intro z; exact absurd (show b ∈ ([] : List Addr) from z) (by simp)) (by simp))
          | some u =>
            rcases hA b (by rw [q]; simp) with ⟨rfl, ob, xs, z⟩ | ⟨p, hp, rfl⟩
            · have z2 := un.frzs b ob _ z
              obtain ⟨e1, _⟩ := hok b _ z
              obtain ⟨e2, _⟩ := hok' b _ z2
              rw [e] at e1; cases e1
              exact .inl e2
            · obtain ⟨more, z2⟩ := un.tbls p.2 _ (hO p hp)
              exact .inr ⟨p, hp, rfl, _, hok' p.2 _ z2⟩
        refine ⟨rfl, ⟨fun b o e => ?_, fun b o e => ?_⟩, os, bare⟩
        · rcases all b o e with z | ⟨p, hp, rfl, more, z⟩
          · exact .inl z
          · have e2 := (hT p hp).2
            rw [e] at e2; cases e2
            exact .inr (.inl ⟨((hT p hp).1.tab (hT p hp).2).isCodeTable, rfl, #[], more, rfl, by rw [Array.empty_append]; exact z⟩)
        · rcases all b o e with z | ⟨p, hp, rfl, more, z⟩
          · exact ⟨_, z⟩
          · exact ⟨_, z⟩
  cases hk : K.lookup a with
  | some o =>
    have e := KX a o hk
    rw [ha] at e
    cases e
    refine core (fun b => if b ∈ tabs.map (·.2) then some (.tbl #[]) else none) (fun q hq => if_pos (List.mem_map.mpr ⟨q, hq, rfl⟩)) (.inr ⟨_, vs.toArray, _, hk, rfl, rfl, rfl, by rw [List.size_toArray, lenV]; exact hl, by simpa using rv⟩) (fun b u z => ?_) (fun b z => ?_) fun b z => ?_
    · by_cases hb : b ∈ tabs.map (·.2)
      · have z' := (if_pos hb).symm.trans z
        cases z'
        obtain ⟨q, hq, rfl⟩ := List.mem_map.mp hb
        exact (hT q hq).2
      · have z' := (if_neg hb).symm.trans z
        cases z'
    · by_cases hb : b ∈ tabs.map (·.2)
      · obtain ⟨q, hq, e⟩ := List.mem_map.mp hb
        exact .inr ⟨q, hq, e⟩
      · exact absurd (if_neg hb) z
    · by_cases hb : b ∈ tabs.map (·.2)
      · obtain ⟨q, hq, rfl⟩ := List.mem_map.mp hb
        exact tabK q hq
      · exact absurd (if_neg hb) z
  | none =>
    refine core (fun b => if b = a then some (.frz { cls := .type "list", data := .seq vs.toArray } (.lst (ns.map V.int))) else if b ∈ tabs.map (·.2) then some (.tbl #[]) else none)
      (fun q hq => by show (if q.2 = a then _ else _) = _; rw [if_neg (tabA q hq), if_pos (List.mem_map.mpr ⟨q, hq, rfl⟩)]) (.inl (.inr ⟨{ cls := .type "list", data := .seq vs.toArray }, if_pos rfl⟩)) (fun b u z => ?_) (fun b z => ?_) fun b z => ?_
    · by_cases hb : b = a
      · have z' := (if_pos hb).symm.trans z
        cases z'
        subst hb
        exact ⟨ha, by rw [List.length_map]; exact hl, vs, _, rv, ha⟩
      · have z' : (if b ∈ tabs.map (·.2) then some (HO.tbl #[]) else none) = some u := (if_neg hb).symm.trans z
        by_cases hb2 : b ∈ tabs.map (·.2)
        · rw [if_pos hb2] at z'; cases z'
          obtain ⟨q, hq, rfl⟩ := List.mem_map.mp hb2
          exact (hT q hq).2
        · rw [if_neg hb2] at z'; cases z'
    · by_cases hb : b = a
      · exact .inl ⟨hb, _, _, if_pos hb⟩
      · by_cases hb2 : b ∈ tabs.map (·.2)
        · obtain ⟨q, hq, e⟩ := List.mem_map.mp hb2
          exact .inr ⟨q, hq, e⟩
        · exact absurd ((if_neg hb).trans (if_neg hb2)) z
    · by_cases hb : b = a
      · rw [hb]; exact hk
      · by_cases hb2 : b ∈ tabs.map (·.2)
        · obtain ⟨q, hq, rfl⟩ := List.mem_map.mp hb2
          exact tabK q hq
        · exact absurd ((if_neg hb).trans (if_neg hb2)) z
theorem uk {l : W.OpenLaw} {n k : Nat} {q : Program} {loose : List Str} {XP : (Str → Option Value) → Heap → Prop} {YP : World → Heap → Prop} {d : DefRec} {K : Params → W.Frag} {CX : World → CXT} {x : Str} {names : List Str}
  (hn : l.most = some n) (hn2 : n ≤ sizeLine) (hdf : d.params.defaults = []) (hr : ba k callerA)
  (hY : ∀ (w : World) (h : Heap), YP w h → (K w.params).In h)
  (hq : ∀ y ∈ names, ((PyProof.Rows.recsOf q).find? fun e => e.name == y).isSome = true)
  (F : ∀ (w : World) (mg : Str → Option Value) (fa : Addr) (h : Heap), (K w.params).In h → h.Ns mainGlobals mg → mg d.name = some (.ref fa) →
   ∃ (fd : FuncData) (tabs : List (Addr × Addr)) (sp : Sp), (∀ (s : Shared) (u : Value), BindsTo s fd ⟨[u], []⟩ [(x, u)]) ∧ W.noTabs (K w.params) = true ∧ (∀ t ∈ tabs, ∃ y ∈ names, W.tabIn (K w.params) y = some t) ∧
    (∀ base : Heap, (K w.params).In base → base.Ns mainGlobals mg → BM mg base → (∀ t ∈ tabs, W.CodeHd base t.1 t.2) → aU l.prog w (K w.params) mg base (CX w) k fa fd [x] sp) ∧
    ∀ (H : Hp) (a : Addr) (ns : List Int), ns.length ≤ n → (∀ t ∈ tabs, H t.2 = some (.tbl #[])) → SqL (K w.params) H a (ns.map V.int) → sp [.ref a] H (fun v _ => v = .bl true) fun _ _ _ => False)
  (hCX : ∀ (w : World) (H : Hp) (s : Shared) (e : Value) (s' : Shared), CX w [] H s (fun _ _ _ => False) e s' → False) :
  W.WalkO q loose XP YP l.row.toRowW d [] (fun f vs => PySem.call f vs) := by
 refine Att.attach_call hn hdf fun w s₀ s₁ mg mb fa o pm cd doc a vs ns G Y ho hd hcd hmg hobj hints hlen hg => ?_
 have KX := hY w _ Y
 obtain ⟨fd, tabs, sp, hb, hKT, htabs, hF, hsp⟩ := F w mg fa _ KX G.T.g hmg
 refine sh (tabs := tabs) KX G.T.g G.T.b G.T.builtins G.T.nolimit hg G.T.bmain (fun t ht => ?_) hKT hobj hints (Nat.le_trans hlen hn2) hr hF hb (fun H hO hS => hsp H a ns hlen hO hS) fun H e s' => hCX w H s₁ e s'
 obtain ⟨y, hy, e⟩ := htabs t ht
 obtain ⟨dd, hdd⟩ := Option.isSome_iff_exists.mp (hq y hy)
 exact W.tab_of G.T KX hdd e
end L2
namespace L2
open PySem PySem.Spec PyProof.Rows
section
variable {X : Cx}
theorem SPM.unwish {E : Value → Shared → Prop} {pins : List (Addr × Obj)} {D : jB} {f : Flow} {s' : Shared} (h : SPM (X.wish E) pins D f s') : SPM X pins D f s' := by
 cases f with
 | next => obtain ⟨σ', H', I, q⟩ := h; exact ⟨σ', H', I.unwish, q⟩
 | brk => exact h
 | cont => exact h
 | ret u => obtain ⟨v, σ', H', I, r, q⟩ := h; exact ⟨v, σ', H', I.unwish, r, q⟩
theorem QMs.nox {st : List Stmt} {t : TSM} (h : QMs X.nox st t) : QMs X st t := ⟨fun pins s σ H D I hw =>
 wpAny_mono (h.out pins s σ H D (I.wish _) hw) (fun _ _ q => SPM.unwish q) fun _ _ z => False.elim z⟩
theorem eF.mono {P : Program} {w : World} {K : W.Frag} {mg : Str → Option Value} {base : Heap} {j k : Nat} {t : cw} {sp : Sp} (F : eF P w K mg base j t sp) (h : j ≤ k) : eF P w K mg base k t sp :=
 ⟨fun A outer s H f cs us vs cvs Q E hr => F.run A outer s H f cs us vs cvs Q E (hr.mono h)⟩
def kg : V → List V → Hp → VK → Prop := fun x vs H Q => ∃ a y d r H', x = .ref a ∧ vs = [y, d] ∧ zl H a y d r H' ∧ Q r H'
theorem kJ (hu : X.A.units + 1 < cLine) : MtR X "dict.setdefault" kg := by
 intro pins s σ H x xs v us Q I rx rs h
 obtain ⟨a, y, d, r, H', rfl, rfl, g, q⟩ := h
 obtain rfl : v = Value.ref a := rx
 obtain ⟨uy, ud, rfl, ry, rd⟩ := jM rs
 rcases g with ⟨g, rfl⟩ | ⟨g, p, rfl⟩
 · rcases g with ⟨kvs, k, e, rfl, l⟩ | ⟨kvs, k, b, e, rfl, eb, l⟩
   · obtain ⟨z, hd, vs, rel, dd⟩ := gH I.hok e
     obtain ⟨w', hw, rw'⟩ := bJ.some_of (v := r) (o := valueAt vs k) (by rw [l]; exact rel.val k)
     exact call_meetsIn PySem.F.slot_dict_setdefault dd.typeIs PySem.F.entry_dict_setdefault (PySem.F.args_dict_setdefault_3 _ _ _) (kt_meets_setdefault (bu X.prog X.w) a (gL ry) hd ud)
       ⟨vs, dd, by rw [← rel.length]; exact z, (fun v' hv' => by rw [hw] at hv'; cases hv'; exact ⟨r, H', I.tok _, rw', q⟩), (fun hn => by rw [hw] at hn; cases hn)⟩
   · cases (show uy = Value.ref b from ry)
     obtain ⟨z, hd, xs, rel, dd⟩ := iO I.hok e
     obtain ⟨w', hw, rw'⟩ := bJ.some_of (v := r) (o := (atKey xs k).map (·.2)) (by rw [l]; exact rel.val k)
     obtain ⟨pp, hp, hp2⟩ := Option.map_eq_some_iff.mp hw
     refine wpAny_call_entry PySem.F.slot_dict_setdefault dd.typeIs PySem.F.entry_dict_setdefault ?_ (PySem.F.args_dict_setdefault_3 _ _ _)
     unfold Builtin.«dict.setdefault»
     refine wpAny_bind ?_
     unfold Builtin.Dict.keyAndDefault
     refine wpAny_bind (wpAny_notOrdered_dict dd.typeIs ?_)
     show wpAny _ _ (pure (a, Value.ref b, some ud)) _ _ s
     refine wpAny_pure ?_
     show wpAny _ _ (if (a == sysModules) = true then _ else (dictSetDefault a (.ref b) ud >>= _)) _ _ s
     rw [if_neg (by rw [hd]; exact Bool.false_ne_true)]
     refine wpAny_bind (dU (tupleKind_room_in1 hu) (fq I.hok eb) dd (fun p' hp' => ?_) (fun hn => ?_) (by rw [← Paired.length rel]; exact z))
     · rw [hp] at hp'; cases hp'
       exact wpAny_pure ⟨_, rfl, ⟨r, H', I.tok _, by rw [hp2]; exact rw', q⟩⟩
     · rw [hp] at hn; cases hn
 · rcases g with ⟨kvs, k, e, rfl, l⟩ | ⟨kvs, k, b, e, rfl, eb, l⟩
   · rcases p with ⟨kvs', k', e', ey, lz, rfl⟩ | ⟨kvs', k', b', e', ey, _⟩
     · have ek : k = k' := by cases k <;> cases k' <;> first | (cases ey; rfl) | cases ey
       subst ek
       obtain ⟨z, hd, vs, rel, dd⟩ := vJ I.hok e'
       have ee : kvs = kvs' := by
         rcases e with e | ⟨o, e⟩
         · rw [e'] at e; cases e; rfl
         · rw [e'] at e; cases e
       subst ee
       have hn : valueAt vs k = none := bJ.none_of (by rw [l]; exact rel.val k)
       refine call_meetsIn PySem.F.slot_dict_setdefault dd.typeIs PySem.F.entry_dict_setdefault (PySem.F.args_dict_setdefault_3 _ _ _) (kt_meets_setdefault (bu X.prog X.w) a (gL ry) hd ud)
         ⟨vs, dd, by rw [← rel.length]; exact z, (fun v' hv' => by rw [hn] at hv'; cases hv'), fun _ h' dd' hs => ?_⟩
       have he : ∃ q, h'.get? a = some q := let ⟨q, _, _, hq, _⟩ := dd'; ⟨q, hq⟩
       have hl : (bK kvs k r).length ≤ sizeLine := by have := dy kvs k r; omega
       exact ⟨r, _, iS I (by rw [e']; exact True.intro) hs he (rl hl hd (rel.put k rd) dd'), rd, q⟩
     · cases k <;> cases ey
   · rcases p with ⟨kvs', k', e', ey, _⟩ | ⟨kvs', k', b', e', ey, eb', lz, rfl⟩
     · cases k' <;> cases ey
     · cases ey
       have ek : k = k' := fO (HO.tup.inj (Option.some.inj (eb.symm.trans eb')))
       subst ek
       cases (show uy = Value.ref b from ry)
       obtain ⟨z, hd, xs, rel, dd⟩ := qL I.hok e'
       have ee : kvs = kvs' := by
         rcases e with e | ⟨o, e⟩
         · rw [e'] at e; cases e; rfl
         · rw [e'] at e; cases e
       subst ee
       have hn : atKey xs k = none := by
         have := bJ.none_of (o := (atKey xs k).map (·.2)) (by rw [l]; exact rel.val k)
         exact Option.map_eq_none_iff.mp this
       refine wpAny_call_entry PySem.F.slot_dict_setdefault dd.typeIs PySem.F.entry_dict_setdefault ?_ (PySem.F.args_dict_setdefault_3 _ _ _)
       unfold Builtin.«dict.setdefault»
       refine wpAny_bind ?_
       unfold Builtin.Dict.keyAndDefault
       refine wpAny_bind (wpAny_notOrdered_dict dd.typeIs ?_)
       show wpAny _ _ (pure (a, Value.ref b, some ud)) _ _ s
       refine wpAny_pure ?_
       show wpAny _ _ (if (a == sysModules) = true then _ else (dictSetDefault a (.ref b) ud >>= _)) _ _ s
       rw [if_neg (by rw [hd]; exact Bool.false_ne_true)]
       refine wpAny_bind (dU (tupleKind_room_in1 hu) (fq I.hok eb) dd (fun p' hp' => ?_) (fun _ h' dd' hs => ?_) (by rw [← Paired.length rel]; exact z))
       · rw [hn] at hp'; cases hp'
       · obtain ⟨q', es, ep, hq, h2, h3, h4, _, h5⟩ := dd'
         have hl : (bK kvs k r).length ≤ sizeLine := by have := dy kvs k r; omega
         refine wpAny_pure ⟨_, rfl, ⟨r, _, iS (ob := .dT (bK kvs k r)) I (by rw [e']; exact True.intro) hs ⟨q', hq⟩ ⟨hl, hd, _, (rel.put k eb rd).keeps fun c ys ec => ?_, q', es, ep, hq, h2, h3, h4, h5⟩, rd, q⟩⟩
         rw [aj (bN ec e' (fun z => nomatch z))]
         exact ec
def Its (z : Str) : It := ⟨fun i _ => i < z.length, fun i H x H' => H' = H ∧ ∃ c, z.cps[i]? = some c ∧ x = .str ⟨#[c]⟩, fun i _ => z.length ≤ i⟩
theorem uK {P : Program} {w : World} {K : W.Frag} {tg : Expr} (z : Str) (t : Tok) (it : Addr) : fM P w K tg (Its z) [it] it (fun i h => h.IsStrIter it "str_ascii_iterator" z t i) where
 mem := by simp
 obj := fun i h st b hb => by
  have e : b = it := by simpa using hb
  subst e
  obtain ⟨o, e, c, d⟩ := st
  exact ⟨o, e, fun v z => by rw [d] at z; cases z⟩
 keep := fun i h h' st k => let ⟨o, ho, r⟩ := st; ⟨o, k it (by simp) o ho, r⟩
 item := by
  intro X hP hw hK hc i pins s σ H E I hf st hg
  subst hP hw hK
  obtain ⟨f0, f1, f2, f3, f4, f5⟩ := hf it (by simp)
  have hi : i < z.cps.size := hg
  refine wpAny_pyNext_ascii_item st (c := z.cps[i]) (Array.getElem?_eq_getElem hi) fun h' st' sb => ?_
  have I1 : Inv X pins σ H { s with heap := h', toks := s.toks + 1 } := I.turned (t' := s.toks + 1) (fun b o hb e => (sb.2 b hb).trans e) f0 f1 f3 f4 f5
  obtain ⟨o, e, c, d⟩ := id st'
  exact ⟨_, rfl, iU (s := { s with heap := h', toks := s.toks + 1 }) e c d (by decide) ⟨.str ⟨#[z.cps[i]]⟩, H, I1, ⟨_, rfl⟩, ⟨rfl, _, Array.getElem?_eq_getElem hi, rfl⟩, st', fun b hb => (hf b hb).1⟩⟩
 done := by
  intro X hP hw hK hc i pins s σ H E I hf st hg
  subst hP hw hK
  obtain ⟨f0, f1, f2, f3, f4, f5⟩ := hf it (by simp)
  exact wpAny_pyNext_ascii_end (I.ok.hd hc) st (Array.getElem?_eq_none (show z.cps.size ≤ i from hg)) fun h' eb => ⟨rfl, I.turned (t' := s.toks) (fun b o hb e => eb b o hb e) f0 f1 f3 f4 f5⟩
 self := fun A i s Q E st h => by
  refine wpAny_pyIter_slot st.typeIs F.slot_str_ascii_iterator_iter (wpAny_call_entry F.slot_str_ascii_iterator_iter st.typeIs F.entry_str_ascii_iterator_iter ?_ (F.args_str_ascii_iterator_iter_1 _))
  show wpAny _ _ (ret (.ref it)) _ _ s
  exact wpAny_pure ⟨_, rfl, "str_ascii_iterator", _, st.typeIs, F.slot_str_ascii_iterator_next.lookup, h⟩
variable {a : Expr} {ta : TE} {tg : Expr}
def gJ (K : W.Frag) (tl : TE) : TI := fun σ H R => tl σ H fun x H1 => match x with
 | .str z => z.cps.all (· < 128) = true ∧ R (Its z) H1
 | x => ∃ a, x = .ref a ∧ (((∃ xs, SqL K H1 a xs) ∧ R (Itl K a) H1) ∨ ((∃ xs, SqT K H1 a xs) ∧ R (Itt K a) H1))
theorem fW (h : QE X a ta) : QI X tg a (gJ X.K ta) := ⟨fun pins s σ H R I hw => by
  refine thn (h.out pins s σ H _ I hw) fun v s1 ⟨x, H1, I1, r1, q1⟩ => ?_
  cases x with
  | str z =>
    obtain ⟨t, rfl⟩ := r1
    refine wpAny_pyIter_ascii q1.1 ?_
    refine ⟨s1.heap.objs.size, [s1.heap.objs.size], _, _, H1, rfl, I1.kept (t' := s1.toks) fun b o e => Heap.get?_push_of_some _ e, uK z t _, ⟨_, Heap.get?_push_size _ rfl, rfl, rfl⟩, fun b hb => ?_, q1.2⟩
    have e : b = s1.heap.objs.size := by simpa using hb
    subst e
    exact I1.fpOk (Nat.le_refl _) (I1.hok.fresh (Nat.le_refl _))
  | ref c =>
    obtain ⟨a, e, q⟩ := q1
    cases e
    cases r1
    rcases q with ⟨⟨xs, hq⟩, q⟩ | ⟨⟨xs, hq⟩, q⟩
    · obtain ⟨its, rv, p, hz⟩ := I1.list hq
      refine wpAny_pyIter_list (cN p) ?_
      refine ⟨s1.heap.objs.size, [s1.heap.objs.size], _, _, H1, rfl, I1.kept (t' := s1.toks) fun b o e => Heap.get?_push_of_some _ e, qP _ _, ⟨_, Heap.get?_push_size _ rfl, rfl, rfl⟩, fun b hb => ?_, q⟩
      have e : b = s1.heap.objs.size := by simpa using hb
      subst e
      exact I1.fpOk (Nat.le_refl _) (I1.hok.fresh (Nat.le_refl _))
    · obtain ⟨its, rv, p, hz⟩ := I1.tuple hq
      refine wpAny_pyIter_tuple (show s1.heap.IsTuple c its.toArray from p) ?_
      refine ⟨s1.heap.objs.size, [s1.heap.objs.size], _, _, H1, rfl, I1.kept (t' := s1.toks) fun b o e => Heap.get?_push_of_some _ e, qy _ _, ⟨_, Heap.get?_push_size _ rfl, rfl, rfl⟩, fun b hb => ?_, q⟩
      have e : b = s1.heap.objs.size := by simpa using hb
      subst e
      exact I1.fpOk (Nat.le_refl _) (I1.hok.fresh (Nat.le_refl _))
  | _ => obtain ⟨_, e, _⟩ := q1; cases e⟩
theorem xu : OpR X (binaryOp .Mult) (fun x y H Q => ∃ z n, x = .str z ∧ y = .int n ∧ (-1000 ≤ n ∧ n ≤ 1000 ∧ z.length ≤ 1000) ∧ Q (.str (Txt.mul z n)) H) := by
 intro pins s σ H x y v u Q I rx ry h
 obtain ⟨z, n, rfl, rfl, ⟨h1, h2, h3⟩, q⟩ := h
 obtain ⟨t, rfl⟩ := rx
 obtain ⟨t', rfl⟩ := ry
 refine SB.mul ⟨?_, fun hn _ => ?_, fun hn _ => ?_⟩ fun t' k => ⟨.str _, H, I.tok k, ⟨_, rfl⟩, q⟩
 · rw [decide_eq_false (by omega), decide_eq_false (by omega)]; rfl
 · intro hgt
   have h5 : (1000 : Int) ≤ (2 ^ 63 - 1) / n := Int.le_ediv_of_mul_le (by omega) (by omega)
   omega
 · have h6 : z.length * n.toNat ≤ 1000 * 1000 := Nat.mul_le_mul h3 (by omega)
   exact decide_eq_false (by rw [sizeLine_eq]; omega)
end
end L2
namespace L2
open PySem PySem.Spec PyProof.Rows
theorem yG {J : It} {n : Nat} {it : Nat → V} {Pk : Hp → Prop} {g : TG} {tb : TS} {D : dE} {σ : St} {H : Hp} (T : cG J n it Pk) (Pv : Nat → St → Hp → Prop) (h0 : Pv 0 σ H) (hl : ∀ i σ H, i ≤ n → Pv i σ H → Pk H)
   (hs : ∀ i σ H, i < n → Pv i σ H → g (it i) σ H fun σ2 H2 => tb { D with nx := Pv (i + 1), ct := Pv (i + 1), bk := D.nx } σ2 H2) (hd : ∀ σ H, Pv n σ H → D.nx σ H) :
   ∃ W : Nat → Nat → St → Hp → Prop, (∃ m, W 0 m σ H) ∧ ∀ i m σ H, W i m σ H →
    (J.stop i H ∧ D.nx σ H) ∨ (J.go i H ∧ ∃ N : St → Hp → Prop, (∀ σ' H', N σ' H' → ∃ m', m' < m ∧ W (i + 1) m' σ' H') ∧ ∀ x H', J.yld i H x H' → g x σ H' fun σ2 H2 => tb { D with nx := N, ct := N, bk := D.nx } σ2 H2) := by
 refine ⟨fun i m σ H => m = n - i ∧ i ≤ n ∧ Pv i σ H, ⟨n, by simp, Nat.zero_le _, h0⟩, ?_⟩
 rintro i m σ H ⟨rfl, hi, p⟩
 have q := hl i σ H hi p
 by_cases hlt : i < n
 · refine .inr ⟨T.go i H hlt q, Pv (i + 1), fun σ' H' p' => ⟨n - (i + 1), by omega, rfl, hlt, p'⟩, fun x H' y => ?_⟩
   obtain ⟨rfl, rfl⟩ := T.yld i H x H' hlt q y
   exact hs i σ _ hlt p
 · have e : i = n := by omega
   subst e
   exact .inl ⟨T.stop H q, hd σ H p⟩
theorem pV {α β : Type} (f : β → α → β) (b : β) (l : List α) (i : Nat) (x : α) (h : l[i]? = some x) : (l.take (i + 1)).foldl f b = f ((l.take i).foldl f b) x := by
 rw [List.take_succ, h]; simp
theorem gh {α β : Type} {f : α → β} {l : List α} {i : Nat} {x : β} (h : (l.map f)[i]? = some x) : ∃ a, l[i]? = some a ∧ x = f a := by
 rw [List.getElem?_map] at h
 cases e : l[i]? with
 | none => rw [e] at h; cases h
 | some a => rw [e] at h; cases h; exact ⟨a, rfl, rfl⟩
theorem cV.keep {H H' : Hp} {f : Addr} {t : cw} {cs : List Addr} {cvs : List V} (k : ∀ b φ, H b = some (.ext φ) → H' b = some (.ext φ)) (c : cV H f t cs cvs) : cV H' f t cs cvs := by
 obtain ⟨⟨a, h1, h2⟩, h3⟩ := c
 refine ⟨⟨a, k _ _ h1, k _ _ h2⟩, ?_⟩
 clear h1 h2
 induction h3 with
 | nil => exact .nil
 | cons r t ih => exact .cons (k _ _ r) ih
theorem kS (k : List Key) : (k.map kV).all hJ = true := by
 rw [List.all_map, List.all_eq_true]
 intro x _
 cases x <;> rfl
def aT : Key → PyData
 | .inl i => .int i
 | .inr z => .str z
theorem gC {K : W.Frag} {H : Hp} : ∀ k : List Key, DatVs K H (k.map kV) (k.map aT)
 | [] => .nil
 | .inl i :: r => .cons (.int i) (gC r)
 | .inr z :: r => .cons (.str z) (gC r)
theorem bQ {K : W.Frag} {H : Hp} {a : Addr} {k : List Key} (h : H a = some (.tup (k.map kV))) : cY K H (.ref a) (.tuple (k.map aT)) := .tup (SqT.of h) (gC k)
theorem cC : ∀ k l : List Key, PyData.eqvAll (k.map aT) (l.map aT) = decide (k = l)
  | [], [] => by rfl
  | [], _ :: _ => by rw [decide_eq_false (by simp)]; rfl
  | _ :: _, [] => by rw [decide_eq_false (by simp)]; rfl
  | a :: r, b :: s => by
    show ((aT a).eqv (aT b) && PyData.eqvAll (r.map aT) (s.map aT)) = _
    rw [cC r s]
    have e : (aT a).eqv (aT b) = decide (a = b) := by
      cases a <;> cases b
      · rename_i i j
        show decide (i = j) = decide (Sum.inl i = Sum.inl j)
        simp
      · show false = _; simp
      · show false = _; simp
      · rename_i i j
        show (i == j) = decide ((Sum.inr i : Key) = Sum.inr j)
        by_cases h : i = j <;> simp [h]
    rw [e]
    by_cases h1 : a = b <;> by_cases h2 : r = s <;> simp [h1, h2]
def fS : Key → Bool
 | .inl _ => true
 | .inr z => PyData.strOk z
theorem be : ∀ {k : List Key}, k.all fS = true → PyData.canLayAll0 (k.map aT) = true
  | [], _ => rfl
  | .inl i :: r, h => be (k := r) (by rw [List.all_cons] at h; exact h)
  | .inr z :: r, h => by
    rw [List.all_cons, Bool.and_eq_true] at h
    show (PyData.strOk z && PyData.canLayAll0 (r.map aT)) = true
    rw [show PyData.strOk z = true from h.1, be h.2]; rfl
theorem cJ : ∀ k : List Key, PyData.depthAll (k.map aT) = 0
 | [] => rfl
 | .inl i :: r => by show max 0 (PyData.depthAll (r.map aT)) = 0; rw [cJ r]; rfl
 | .inr i :: r => by show max 0 (PyData.depthAll (r.map aT)) = 0; rw [cJ r]; rfl
theorem tc1 {i : Nat} {σ : St} {x : V} {H : Hp} {R : List V → Hp → Prop} (e : σ[i]? = some (some x)) (h : R [x] H) : ad (ac i) ag σ H R := by
 unfold ad ag ac
 rw [e]; exact h
theorem mR (k : List Key) : (PyData.tuple (k.map aT)).depth ≤ 150 := by show PyData.depthAll (k.map aT) + 1 ≤ 150; rw [cJ]; decide
theorem iE {k l : List Key} (h : (!(PyData.tuple (k.map aT)).eqv (.tuple (l.map aT))) = true) : k ≠ l := fun e => by
 have h : (!PyData.eqvAll (k.map aT) (l.map aT)) = true := h
 rw [cC, decide_eq_true e] at h; cases h
theorem yU {k l : List Key} (h : (!(PyData.tuple (k.map aT)).eqv (.tuple (l.map aT))) = false) : k = l := by
 have h : (!PyData.eqvAll (k.map aT) (l.map aT)) = false := h
 rw [cC] at h
 simpa using h
def lb (K : W.Frag) (ns : List Str) : Bool := decide ((ns.map fun n => (W.tabIn K n).map (·.2)).Nodup)
theorem tJ {l : List Addr} (h : (l.map some).Nodup) : l.Nodup := List.Pairwise.of_map some (fun a b h e => h (congrArg some e)) h
end L2
namespace HT
open PySem PyProof.Rows
theorem fg : fillsNumberSlot (.type "tuple") "mul" = pure false :=
 PySem.fillsNumberSlot_seq (id := "tuple.__mul__") (r := some (.builtin "tuple.__rmul__")) F.slot_tuple_mul.lookup (by decide +kernel) F.slot_tuple_rmul.lookup (by decide +kernel)
theorem iy : seqRepeat? (.type "tuple") = pure (some (.builtin "tuple.__mul__")) := by
 unfold seqRepeat?
 rw [PySem.seqSlot_of (T := "tuple") (name := "__mul__") (id := "tuple.__mul__") F.slot_tuple_mul.lookup (by decide +kernel), PySem.seqSlot_of (T := "tuple") (name := "__rmul__") (id := "tuple.__rmul__") F.slot_tuple_rmul.lookup (by decide +kernel)]
 rfl
theorem fR (a : Int) (t : Tok) (l : Addr) (items : Array Value) (n : Nat) (dd : Option Addr) (sl : Array (Option Value)) :
  Meets (Builtin.«int.__rmul__» ⟨[.int a t, .ref l], []⟩) (fun _ R s => s.heap.get? l = some { cls := .type "tuple", dict := dd, data := .seq items n, slots := sl } ∧ R (.ok (.ret Value.notImplemented)) s) :=
 .of_wp fun prog w A R s h => by obtain ⟨hp, g, d, tk, os⟩ := s; obtain ⟨hl, h⟩ := h; wp_walk; exact ⟨_, rfl, h⟩
theorem pC (l : Addr) (items : Array Value) (n : Nat) (x : Int) (u : Tok) (dd : Option Addr) (sl : Array (Option Value)) (h0 : (decide (x < -(2 ^ 63)) || decide (x ≥ 2 ^ 63)) = false) (h1 : (items.isEmpty || x == 1) = true) :
  Meets (Builtin.«tuple.__mul__» ⟨[.ref l, .int x u], []⟩) (fun _ R s => s.heap.get? l = some { cls := .type "tuple", dict := dd, data := .seq items n, slots := sl } ∧ R (.ok (.ret (.ref l))) s) :=
 .of_wp fun prog w A R s h => by obtain ⟨hp, g, d, tk, os⟩ := s; obtain ⟨hl, h⟩ := h; have f1 := AutoSeq1.idx_int; have f2 := AutoSeq1.sub_tuple_tuple; wp_walk using wpAny_loadPart' hl; refine wpAny_ite_false (decide_eq_false (by rw [h0]; decide)) ?_; wp_walk using wpAny_loadPart' hl; exact ⟨_, rfl, h⟩
theorem pL (l : Addr) (items : Array Value) (n : Nat) (x : Int) (u : Tok) (dd : Option Addr) (sl : Array (Option Value)) (h0 : (decide (x < -(2 ^ 63)) || decide (x ≥ 2 ^ 63)) = false) (h1 : (items.isEmpty || x == 1) = false)
  (h2 : (decide (x ≤ 0) || items.isEmpty) = false) (h3 : ¬ ((items.size : Int) * x > (2 ^ 63 - 1) / 8)) (h4 : ¬ Builtin.Tuple.tupleTooMany (items.size * x) = true) (h5 : (List.foldl (fun x1 x2 => x1 ++ x2) #[] (List.replicate x.toNat items)).size ≤ sizeLine) :
  Meets (Builtin.«tuple.__mul__» ⟨[.ref l, .int x u], []⟩) (fun _ R s => s.heap.get? l = some { cls := .type "tuple", dict := dd, data := .seq items n, slots := sl } ∧ R (.ok (.ret (Value.ref s.heap.objs.size))) { s with heap := s.heap.push { cls := Value.type "tuple", data := Data.seq (List.foldl (fun x1 x2 => x1 ++ x2) #[] (List.replicate x.toNat items)) }, toks := s.toks }) :=
 .of_wp fun prog w A R s h => by obtain ⟨hp, g, d, tk, os⟩ := s; obtain ⟨hl, h⟩ := h; have f1 := AutoSeq1.idx_int; have f2 := AutoSeq1.sub_tuple_tuple; wp_walk using wpAny_loadPart' hl; refine wpAny_ite_false (decide_eq_false (by rw [h0]; decide)) ?_; wp_walk using wpAny_loadPart' hl; refine wpAny_ite_false (decide_eq_false h3) ?_; wp_walk using wpAny_loadPart' hl; exact ⟨_, rfl, h⟩
end HT
namespace L2
open PySem PySem.Spec PyProof.Rows
section
variable {X : Cx}
def vR : R2 := fun x y H Q => ∃ a k xs, x = .ref a ∧ y = .int k ∧ H a = some (.tup xs) ∧ xs ≠ [] ∧ 1 ≤ k ∧ k ≤ 1000 ∧ xs.length ≤ 1000 ∧ ∀ p H', au H H' → H' p = some (.tup (List.replicate k.toNat xs).flatten) → Q (.ref p) H'
theorem wS : OpR X (binaryOp .Mult) vR := by
 intro pins s σ H x y v u Q I rx ry h
 obtain ⟨a, k, xs, rfl, rfl, ha, hne, k1, k2, hl, q⟩ := h
 cases rx
 obtain ⟨t, rfl⟩ := ry
 obtain ⟨its, r, p1, hz⟩ := I.tuple (.inl (.inl ha))
 have hlen : its.length = xs.length := r.length.symm
 have hits : its ≠ [] := fun z => hne (r.nil_iff.mp z)
 obtain ⟨⟨cls, dd, data, sl⟩, ho, hc, n, hd⟩ := id p1
 simp only at hc hd
 subst hc hd
 have h0 : (decide (k < -(2 ^ 63)) || decide (k ≥ 2 ^ 63)) = false := by rw [decide_eq_false (by omega), decide_eq_false (by omega)]; rfl
 have hemp : its.toArray.isEmpty = false := by cases its with | nil => exact (hits rfl).elim | cons _ _ => rfl
 by_cases e : k = 1
 · subst e
   refine PySem.wpAny_binaryOp_repeat_ref (T := "tuple") (U := "int") (by decide) ⟨_, ho, rfl⟩ (fun s' => typeIs_int s' 1 t) HT.fg F.fills_int_mul F.slot_int_rmul HT.iy F.slot_int_index.lookup
     (call_meets F.slot_int_rmul (typeIs_int s 1 t) F.entry_int_rmul (F.args_int_rmul_2 _ _) (HT.fR 1 t a its.toArray n dd sl)
      ⟨ho, rfl, ⟨_, ho, rfl⟩, call_meets F.slot_tuple_mul ⟨_, ho, rfl⟩ F.entry_tuple_mul (F.args_tuple_mul_2 _ _) (HT.pC a its.toArray n 1 t dd sl h0 (by rw [hemp]; rfl)) ⟨ho, ?_⟩⟩)
   exact ⟨.ref a, H, I, rfl, q a H au.rfl' (by rw [ha]; simp)⟩
 · have hsz : its.length * k.toNat ≤ 1000000 := Nat.le_trans (Nat.mul_le_mul (by omega : its.length ≤ 1000) (by omega : k.toNat ≤ 1000)) (by decide)
   have hszI : ((its.toArray.size : Nat) : Int) * k ≤ 1000000 := by
     have e1 : ((its.length * k.toNat : Nat) : Int) = (its.length : Int) * k := by rw [Int.natCast_mul, Int.toNat_of_nonneg (by omega)]
     rw [List.size_toArray, ← e1]; omega
   have hnew : List.foldl (fun x1 x2 => x1 ++ x2) #[] (List.replicate k.toNat its.toArray) = (List.replicate k.toNat its).flatten.toArray := by
     have := kW its k.toNat []
     rw [List.nil_append] at this
     exact this
   refine PySem.wpAny_binaryOp_repeat_ref (T := "tuple") (U := "int") (by decide) ⟨_, ho, rfl⟩ (fun s' => typeIs_int s' k t) HT.fg F.fills_int_mul F.slot_int_rmul HT.iy F.slot_int_index.lookup
     (call_meets F.slot_int_rmul (typeIs_int s k t) F.entry_int_rmul (F.args_int_rmul_2 _ _) (HT.fR k t a its.toArray n dd sl)
      ⟨ho, rfl, ⟨_, ho, rfl⟩, call_meets F.slot_tuple_mul ⟨_, ho, rfl⟩ F.entry_tuple_mul (F.args_tuple_mul_2 _ _) (HT.pL a its.toArray n k t dd sl h0 (by rw [hemp]; simp [e]) (by rw [hemp, decide_eq_false (by omega)]; rfl) (by omega) ?_ ?_) ⟨ho, ?_⟩⟩)
   · unfold Builtin.Tuple.tupleTooMany
     rw [sizeLine_eq]
     simp only [gt_iff_lt, decide_eq_true_eq]
     omega
   · rw [hnew, List.size_toArray, oz, Nat.mul_comm]
     exact aD hsz
   · rw [hnew]
     refine ⟨.ref s.heap.objs.size, _, I.laid (t' := s.toks) (o := .tup (List.replicate k.toNat xs).flatten) (fun b ob q => Heap.get?_push_of_some _ q) (Nat.le_refl _) ?_, rfl, q _ _ (au.upd (I.hok.fresh (Nat.le_refl _))) am⟩
     exact ⟨by rw [oz, ← hlen, Nat.mul_comm]; exact aD hsz, _, r.rep k.toNat, IsTup.new _ _⟩
def eG : R2 := fun x y H Q => match x, y with
 | .str z, .int n => (-1000 ≤ n ∧ n ≤ 1000 ∧ z.length ≤ 1000) ∧ Q (.str (Txt.mul z n)) H
 | .ref a, .int n => vR (.ref a) (.int n) H Q
 | x, y => uU x y H Q
theorem iV : OpR X (binaryOp .Mult) eG := (xu.or (wS.or EB)).imp fun x y H Q q => by
 unfold eG at q
 split at q
 · exact .inl ⟨_, _, rfl, rfl, q.1, q.2⟩
 · exact .inr (.inl q)
 · exact .inr (.inr q)
end
end L2
namespace L2
open PySem PySem.Spec PyProof.Rows
end L2
namespace L2
open PySem PySem.Spec PyProof.Rows
section
variable {X : Cx}
theorem yN : OpR X (compareOp .Is) (fun x y H Q => ∃ b c, x = .bl b ∧ y = .bl c ∧ Q (.bl (decide (b = c))) H) := by
 intro pins s σ H x y v u Q I rx ry h
 obtain ⟨b, c, rfl, rfl, q⟩ := h
 cases rx
 cases ry
 refine wpAny_is_plain (by rfl) (aZ I q ?_)
 cases b <;> cases c <;> rfl
theorem re : OpR X (compareOp .IsNot) (fun x y H Q => ∃ b c, x = .bl b ∧ y = .bl c ∧ Q (.bl (!decide (b = c))) H) := by
 intro pins s σ H x y v u Q I rx ry h
 obtain ⟨b, c, rfl, rfl, q⟩ := h
 cases rx
 cases ry
 refine wpAny_isNot_plain (by rfl) (aZ I q ?_)
 cases b <;> cases c <;> rfl
def ut : R2 := fun x y H Q => match x, y with
 | .bl b, .bl c => Q (.bl (decide (b = c))) H
 | x, y => vj x y H Q
theorem DV : OpR X (compareOp .Is) ut := (yN.or oIs).imp fun x y H Q q => by
 unfold ut at q
 split at q
 · exact .inl ⟨_, _, rfl, rfl, q⟩
 · exact .inr q
def lU : R2 := fun x y H Q => match x, y with
 | .bl b, .bl c => Q (.bl (!decide (b = c))) H
 | x, y => pG x y H Q
theorem xa : OpR X (compareOp .IsNot) lU := (re.or yj).imp fun x y H Q q => by
 unfold lU at q
 split at q
 · exact .inl ⟨_, _, rfl, rfl, q⟩
 · exact .inr q
theorem zV {x y : Str} {px py ep pos : Pos} {ek : Nat} {e : Expr} {te : TE} (i j : Nat) (hN : X.N.Nodup) (hc : X.calm = true) (he : QE X e te) (hi : X.N[i]? = some x := by rfl) (hj : X.N[j]? = some y := by rfl)
  (hx : Loc X.env.scope x := by first | exact .inl rfl | exact .inr rfl) (hy : Loc X.env.scope y := by first | exact .inl rfl | exact .inr rfl)
  (fx : X.fn x = true ∨ X.env.scope.names.lookup x = some .local := by first | exact .inl rfl | exact .inr rfl) (fy : X.fn y = true ∨ X.env.scope.names.lookup y = some .local := by first | exact .inl rfl | exact .inr rfl)
  (hs : swapsWithSole [.Tuple [.Name x px, .Name y py] ek ep] e pos.line X.env = pure false := by rfl) (hw : swappedStores [.Tuple [.Name x px, .Name y py] ek ep] e X.env = pure none := by rfl) :
  QS X (.Assign [.Tuple [.Name x px, .Name y py] ek ep] e pos) (aF te (mK X.K 2 (eT (aw i) (eT (aw j) mx)))) :=
 ⟨rB he.out (so hc (gK (gg hN hi hx fx) (gK (gg hN hj hy fy) oi))) hs hw⟩
end
end L2
namespace HT
open PySem PyProof.Rows
theorem sub_tuple_dict : isSubtype (.type "tuple") (.type "dict") = pure false := by rw [isSubtype_type]; kernel_rfl
theorem kf : isSubtype (.type "dict") (.type "tuple") = pure false := by rw [isSubtype_type]; kernel_rfl
theorem pJ (l b : Addr) (o : Obj) (hc : o.cls = .type "dict") (o2 : Obj) (hc2 : o2.cls = .type "tuple") :
  Meets (Builtin.«dict.__eq__» ⟨[.ref l, .ref b], []⟩) (fun _ R s => s.heap.get? l = some o ∧ s.heap.get? b = some o2 ∧ R (.ok (.ret .notImplemented)) s) :=
 .of_wp fun prog w A R s h => by
  obtain ⟨hp, g, d, tk, os⟩ := s; obtain ⟨hl, hb, h⟩ := h; obtain ⟨cls, dd, data, sl⟩ := o; obtain ⟨cls2, dd2, data2, sl2⟩ := o2
  simp only at hc hc2; subst hc hc2
  have f1 := sub_tuple_dict; wp_walk using wpAny_loadPart' hl, wpAny_loadPart' hb; exact ⟨_, rfl, h⟩
theorem nP (l b : Addr) (o : Obj) (hc : o.cls = .type "tuple") (o2 : Obj) (hc2 : o2.cls = .type "dict") :
  Meets (Builtin.«tuple.__eq__» ⟨[.ref l, .ref b], []⟩) (fun _ R s => s.heap.get? l = some o ∧ s.heap.get? b = some o2 ∧ R (.ok (.ret .notImplemented)) s) :=
 .of_wp fun prog w A R s h => by
  obtain ⟨hp, g, d, tk, os⟩ := s; obtain ⟨hl, hb, h⟩ := h; obtain ⟨cls, dd, data, sl⟩ := o; obtain ⟨cls2, dd2, data2, sl2⟩ := o2
  simp only at hc hc2; subst hc hc2
  have f1 := kf; wp_walk using wpAny_loadPart' hl, wpAny_loadPart' hb; exact ⟨_, rfl, h⟩
end HT
namespace L2
open PySem PySem.Spec PyProof.Rows
section
variable {X : Cx}
def vL (K : W.Frag) : R2 := fun x y H Q => ∃ a b ys, x = .ref a ∧ y = .ref b ∧ ((∃ kvs, H a = some (.dK kvs)) ∨ ∃ kvs, H a = some (.dT kvs)) ∧ SqT K H b ys ∧ Q (.bl false) H
theorem xC (hu : X.A.units < cLine) : OpR X (compareOp .Eq) (vL X.K) := by
 intro pins s σ H x y v u Q I rx ry h
 obtain ⟨a, b, ys, rfl, rfl, ha, hb, q⟩ := h
 cases rx
 cases ry
 obtain ⟨its, _, p1, _⟩ := I.tuple hb
 obtain ⟨o2, ho2, hc2, _⟩ := id p1
 obtain ⟨o, ho, hc⟩ : ∃ o, s.heap.get? a = some o ∧ o.cls = .type "dict" := by
  rcases ha with ⟨kvs, e⟩ | ⟨kvs, e⟩
  · obtain ⟨_, _, _, _, o, _, _, h1, h2, _⟩ := (show aO X.prog X.w H s.heap a (.dK kvs) from I.hok a _ e)
    exact ⟨o, h1, h2.1⟩
  · obtain ⟨_, _, _, _, o, _, _, h1, h2, _⟩ := (show aO X.prog X.w H s.heap a (.dT kvs) from I.hok a _ e)
    exact ⟨o, h1, h2.1⟩
 have hne : a ≠ b := fun e => by
  subst e
  rw [ho] at ho2; cases ho2
  rw [hc] at hc2; exact absurd hc2 (by simp)
 show wpAny _ _ (richCompare .Eq (.ref a) (.ref b)) _ _ s
 exact SeqAt.rc_eq_decline_or (k := false) ⟨_, ho, hc⟩ ⟨_, ho2, hc2⟩ (by decide) F.sub_tuple_dict F.slot_dict_eq F.slot_tuple_eq_refl
  (fun _ hq => call_meets F.slot_dict_eq ⟨_, ho, hc⟩ F.entry_dict_eq (F.args_dict_eq_2 _ _) (HT.pJ a b o hc o2 hc2) ⟨ho, ho2, hq⟩)
  (fun _ hq => call_meets F.slot_tuple_eq_refl ⟨_, ho2, hc2⟩ F.entry_tuple_eq (F.args_tuple_eq_2 _ _) (HT.nP b a o2 hc2 o hc) ⟨ho2, ho, hq⟩)
  (fun _ hq => wpAny_isSame_ref_other hne ho ho2 (by rw [hc]; simp) hq) (.inr hu) ⟨.bl false, H, I, rfl, q⟩
def bn (K : W.Frag) : R2 := fun x y H Q => match x, y with
 | .ref a, .ref b => Au K (.ref a) (.ref b) H Q ∨ pv K (.ref a) (.ref b) H Q ∨ vL K (.ref a) (.ref b) H Q
 | .ref a, y => pv K (.ref a) y H Q
 | x, .ref b => pv K x (.ref b) H Q
 | x, y => mEq x y H Q
theorem bH (hu : X.A.units + 150 < cLine) : OpR X (compareOp .Eq) (bn X.K) := ((yg (by omega)).or ((yX hu).or ((xC (by omega)).or oEq))).imp fun x y H Q q => by
 unfold bn at q
 split at q
 · exact q.elim .inl fun z => z.elim (fun z => .inr (.inl z)) fun z => .inr (.inr (.inl z))
 · exact .inr (.inl q)
 · exact .inr (.inl q)
 · exact .inr (.inr (.inr q))
end
end L2
namespace HT
open PySem PyProof.Rows
theorem jr : typeLookup (.type "tuple") "__reversed__" = pure none := by rw [typeLookup_type, builtinLookup_eq_fast]; kernel_rfl
theorem gW : Manifest.owners.lookup (String.ofList ['d', 'e', 's', 'r', 'e', 'v', 'e', 'r'].reverse) = some Manifest.sig_reversed := by kernel_rfl
theorem cQ : Slot "reversed" "__next__" "reversed.__next__" :=
 .of (owner := "reversed") (n := "__next__") (by rw [typeLookup_type, builtinLookup_eq_fast]; kernel_rfl) (by decide +kernel) (by decide +kernel) (by decide +kernel)
  (by first | exact .inl (by decide +kernel) | exact .inr (by decide +kernel)) (by rw [isSubtype_type]; kernel_rfl)
theorem fT : entryFor table "reversed.__next__" = some Builtin.«reversed.__next__» := entryFor_of_tree (by kernel_rfl)
theorem gQ (a : Value) : argsOk "reversed.__next__" ⟨[a], []⟩ := by
 unfold argsOk; rw [signature?_of (id := "reversed.__next__") (n := ['_', '_', 't', 'x', 'e', 'n', '_', '_']) (o := ['d', 'e', 's', 'r', 'e', 'v', 'e', 'r']) (by kernel_rfl) gW]; kernel_rfl
theorem gP : Slot "reversed" "__iter__" "reversed.__iter__" :=
 .of (owner := "reversed") (n := "__iter__") (by rw [typeLookup_type, builtinLookup_eq_fast]; kernel_rfl) (by decide +kernel) (by decide +kernel) (by decide +kernel)
  (by first | exact .inl (by decide +kernel) | exact .inr (by decide +kernel)) (by rw [isSubtype_type]; kernel_rfl)
theorem lD (a : Value) : argsOk "reversed.__iter__" ⟨[a], []⟩ := by
 unfold argsOk; rw [signature?_of (id := "reversed.__iter__") (n := ['_', '_', 'r', 'e', 't', 'i', '_', '_']) (o := ['d', 'e', 's', 'r', 'e', 'v', 'e', 'r']) (by kernel_rfl) gW]; kernel_rfl
theorem ky : entryFor table "reversed.__iter__" = some Builtin.«dict_keyiterator.__iter__» :=
 entryFor_alias (id' := "dict_keyiterator.__iter__") (by kernel_rfl) (by first | rfl | decide +kernel | (unfold String.splitOn; simp +decide [String.splitOnAux])) (by decide +kernel) (by kernel_rfl)
theorem lE : Slot "reversed" "__init__" "object.__init__" :=
 .of (owner := "object") (n := "__init__") (by rw [typeLookup_type, builtinLookup_eq_fast]; kernel_rfl) (by decide +kernel) (by decide +kernel) (by decide +kernel)
  (by first | exact .inl (by decide +kernel) | exact .inr (by decide +kernel)) (by rw [isSubtype_type]; kernel_rfl)
theorem qj : TypeCalled "reversed" "reversed.__new__" "object.__init__" :=
 ⟨by decide +kernel, PySem.F.create_reversed, ⟨_, _, PySem.F.mro_reversed⟩, PySem.F.made_reversed, by decide +kernel, PySem.F.sub_reversed_self, lE⟩
theorem mw : isSubtype (.type "tuple") (.type "dict") = pure false := by rw [isSubtype_type]; kernel_rfl
def jg (t : Addr) (i : Int) : Obj := { cls := .type "reversed", data := .fields #[.ref t, rawInt i] }
theorem lF (t : Addr) (items : Array Value) : Meets (Builtin.«reversed.__new__» ⟨[.type "reversed", .ref t], []⟩) (fun _ R s => IsTup s.heap t items ∧ (items.size : Int) < 2 ^ 63 ∧
  R (.ok (.ret (.ref s.heap.objs.size))) { s with heap := s.heap.push (jg t ((items.size : Int) - 1)), toks := s.toks + 1 + 1 }) :=
 .of_wp fun prog w A R s h => by
  obtain ⟨ht, hz, h⟩ := h
  unfold Builtin.«reversed.__new__»
  refine wpAny_bind (wpAny_of_eq (newClass_reversed _) ?_)
  try dsimp only
  refine wpAny_bind (wpAny_of_eq (a := ()) (by first | rfl | kernel_rfl) ?_)
  refine wpAny_bind (wpAny_of_eq (a := ()) (by first | rfl | kernel_rfl) ?_)
  try dsimp only
  refine wpAny_bind (wpAny_specialOf ht.typeIs jr ?_)
  try dsimp only
  refine wpAny_bind (wpAny_bind (wpAny_isInstance (T := "tuple") (b := false) ht.typeIs mw ?_))
  rw [if_neg (by simp)]
  refine wpAny_bind (wpAny_specialOf (r := some (.builtin "tuple.__getitem__")) ht.typeIs slot_tuple_getitem.lookup ?_)
  show wpAny _ _ (if (["tuple.__getitem__", "str.__getitem__", "bytes.__getitem__", "bytearray.__getitem__", "memoryview.__getitem__", "numpy.ndarray.__getitem__", "sqlite3.Row.__getitem__"].contains "tuple.__getitem__") = true then _ else _) _ _ s
  rw [if_pos (by decide)]
  refine wpAny_pure ?_
  rw [if_neg (by simp)]
  refine wpAny_bind (len_tuple ht hz ?_)
  refine wpAny_bind (wpAny_of_eq (a := some ((items.size : Nat) : Int)) rfl ?_)
  show wpAny _ _ (newObj (.type "reversed") (.fields #[.ref t, rawInt ((items.size : Int) - 1)]) >>= _) _ _ _
  exact wpAny_bind (wpAny_newObj_type (wpAny_pure ⟨_, rfl, h⟩))
section
variable {prog : Program} {w : World} {A : Around} {E : Value → Shared → Prop} {s : Shared}
theorem dW {t : Addr} {items : Array Value} {Q : Value → Shared → Prop} (ht : IsTup s.heap t items) (hz : (items.size : Int) < 2 ^ 63)
  (h : Q (.ref s.heap.objs.size) { s with heap := s.heap.push (jg t ((items.size : Int) - 1)), toks := s.toks + 1 + 1 }) : wpAny (model prog w) A (call (.type "reversed") [.ref t]) Q E s :=
 callType_new qj (by decide) (PySem.F.typeCall_reversed_1 _) (PySem.F.newCall_reversed_1 _) (fun obj => PySem.F.args_object_init_2 obj _) PySem.F.entry_reversed_new (lF t items) ⟨ht, hz, ⟨_, Heap.get?_push_size _ rfl, rfl⟩, h⟩
def dR (h : Heap) (a t : Addr) (i : Int) : Prop := h.get? a = some (jg t i)
theorem dR.typeIs {a t : Addr} {i : Int} (x : dR s.heap a t i) : s.TypeIs (.ref a) "reversed" := ⟨_, x, rfl⟩
theorem gO {it t : Addr} {i : Nat} {items : Array Value} {x : Value} {Q : Option Value → Shared → Prop} (hit : dR s.heap it t (i : Int)) (ht : IsTup s.heap t items) (hz : (items.size : Int) < 2 ^ 63) (hx : items[i]? = some x)
   (hQ : ∀ h', dR h' it t ((i : Int) - 1) → Heap.SameBut it s.heap h' → Q (some x) { s with heap := h', toks := s.toks + 1 }) : wpAny (model prog w) A (pyNext (.ref it)) Q E s := by
 have hi : i < items.size := by
   rcases Nat.lt_or_ge i items.size with h | h
   · exact h
   · rw [Array.getElem?_eq_none h] at hx; cases hx
 unfold pyNext
 refine wpAny_bind (wpAny_attempt (wpAny_callSpecial?_slot (name := Str.ofString "__next__") hit.typeIs cQ
   (wpAny_call_entry cQ hit.typeIs fT ?_ (gQ _))))
 unfold Builtin.«reversed.__next__»
 refine wpAny_bind (wpAny_of_eq (a := (Value.ref it, [])) rfl ?_)
 try dsimp only
 refine wpAny_bind (wpAny_field hit rfl (x := .ref t) rfl ?_)
 refine wpAny_bind (wpAny_field hit rfl (x := rawInt (i : Int)) rfl ?_)
 show wpAny _ _ (if (i : Int) < 0 then _ else _) _ _ s
 rw [if_neg (by omega)]
 refine wpAny_bind (wpAny_specialOf (r := some (.builtin "tuple.__getitem__")) ht.typeIs slot_tuple_getitem.lookup ?_)
 rw [if_neg (by simp)]
 refine wpAny_bind (wpAny_mkInt ?_)
 refine wpAny_bind (wpAny_attempt (getItem_tuple (j := i) (x := x) ht (by omega) (by omega) ?_ hx ?_))
 · unfold seqIndex?
   simp
   omega
 · refine wpAny_bind (wpAny_field (s := { s with toks := s.toks + 1 }) hit rfl (x := rawInt (i : Int)) rfl ?_)
   refine wpAny_bind (wpAny_setField_rec hit (by simp) fun h' y sb => ?_)
   exact wpAny_pure ⟨x, rfl, wpAny_pure (hQ h' y sb)⟩
theorem gZ {it t : Addr} {Q : Option Value → Shared → Prop} (hh : A.handled = none) (hit : dR s.heap it t (-1))
  (hQ : ∀ h', Heap.ExtBut it s.heap h' → Q none { s with heap := h' }) : wpAny (model prog w) A (pyNext (.ref it)) Q E s := by
 unfold pyNext
 refine wpAny_bind (wpAny_attempt (wpAny_callSpecial?_slot (name := Str.ofString "__next__") hit.typeIs cQ
  (wpAny_call_entry cQ hit.typeIs fT ?_ (gQ _))))
 unfold Builtin.«reversed.__next__»
 refine wpAny_bind (wpAny_of_eq (a := (Value.ref it, [])) rfl ?_)
 try dsimp only
 refine wpAny_bind (wpAny_field hit rfl (x := .ref t) rfl ?_)
 refine wpAny_bind (wpAny_field hit rfl (x := rawInt (-1)) rfl ?_)
 show wpAny _ _ (if (-1 : Int) < 0 then _ else _) _ _ s
 rw [if_pos (by decide)]
 refine wpAny_bind (wpAny_rule ?_)
 refine wpAny_bind (wpAny_bind (wpAny_setField_rec hit (by simp) fun h1 y1 s1 => ?_))
 refine wpAny_setField_rec y1 (by simp) fun h2 y2 s2 => ?_
 first
 | show wpAny _ _ (newExc (.type "StopIteration") [] >>= _) _ _ _
 | (refine wpAny_bind ?_; show wpAny _ _ (newExc (.type "StopIteration") [] >>= _) _ _ _)
 refine wpAny_bind ?_
 simp only [newExc, newTuple]
 refine wpAny_bind (wpAny_newObj_type ?_ (by size_fits))
 refine wpAny_bind (m := firstArgMember _ _) (wpAny_of_eq (a := Value.none) (by first | rfl | (simp only [firstArgMember]; rfl)) ?_)
 refine wpAny_newObj_type ?_ (by size_fits)
 simp only [raiseNew]
 refine wpAny_bind (wpAny_handled ?_)
 first | rw [show A.in1.handled = none from hh] | rw [hh]
 refine wpAny_bind (wpAny_pure (wpAny_throw ?_))
 refine wpAny_bind (wpAny_isInstance (T := "StopIteration") (b := true) ⟨_, Heap.get?_push_size _ rfl, rfl⟩ isSubtype_stop ?_)
 have eb : Heap.ExtBut it s.heap h2 := fun c o hc e => s2.extBut _ _ hc (s1.extBut _ _ hc e)
 exact wpAny_pure (hQ _ ((eb.push _).push _))
theorem jw {it t : Addr} {i : Int} {Q : Value → Shared → Prop} (hit : dR s.heap it t i) (h : Q (.ref it) s) : wpAny (model prog w) A (pyIter (.ref it)) Q E s := by
 refine wpAny_pyIter_slot hit.typeIs gP (wpAny_call_entry gP hit.typeIs ky ?_ (lD _))
 show wpAny _ _ (ret (.ref it)) _ _ s
 exact wpAny_pure ⟨_, rfl, "reversed", _, hit.typeIs, cQ.lookup, h⟩
end
end HT
namespace L2
open PySem PySem.Spec PyProof.Rows
def Aj (K : W.Frag) (a : Addr) (xs : List V) : It :=
 ⟨fun i H => SqT K H a xs ∧ i < xs.length, fun i H x H' => H' = H ∧ xs.reverse[i]? = some x, fun i _ => xs.length ≤ i⟩
theorem tT {P : Program} {w : World} {K : W.Frag} {tg : Expr} (a it : Addr) (xs : List V) : fM P w K tg (Aj K a xs) [it] it (fun i h => i ≤ xs.length ∧ HT.dR h it a ((xs.length : Int) - 1 - i)) where
 mem := by simp
 obj := fun i h st b hb => by
  have e : b = it := by simpa using hb
  subst e
  exact ⟨_, st.2, fun v z => by cases z⟩
 keep := fun i h h' st k => ⟨st.1, k it (by simp) _ st.2⟩
 item := by
  intro X hP hw hK hc i pins s σ H E I hf st hg
  subst hP hw hK
  obtain ⟨hq, hi⟩ := hg
  obtain ⟨its, rv, p, hz⟩ := I.tuple hq
  obtain ⟨f0, f1, f2, f3, f4, f5⟩ := hf it (by simp)
  have hl := rv.length
  obtain ⟨x, hx⟩ : ∃ x, xs[xs.length - 1 - i]? = some x := ⟨_, List.getElem?_eq_getElem (by omega)⟩
  obtain ⟨u, hu, ru⟩ := rv.get hx
  have hrx : xs.reverse[i]? = some x := by rw [List.getElem?_reverse hi]; exact hx
  have e1 : (xs.length : Int) - 1 - i = ((xs.length - 1 - i : Nat) : Int) := by omega
  have st2 := st.2
  rw [e1] at st2
  refine HT.gO st2 (show IsTup s.heap a its.toArray from p) (by rw [List.size_toArray]; rw [sizeLine_eq] at hz; omega) (x := u) (by simpa using hu) fun h' st' sb => ?_
  have I1 : Inv X pins σ H { s with heap := h', toks := s.toks + 1 } := I.turned (t' := s.toks + 1) (fun b o hb e => (sb.2 b hb).trans e) f0 f1 f3 f4 f5
  have e2 : ((xs.length - 1 - i : Nat) : Int) - 1 = (xs.length : Int) - 1 - ((i + 1 : Nat) : Int) := by omega
  rw [e2] at st'
  exact ⟨u, rfl, iU (s := { s with heap := h', toks := s.toks + 1 }) st' rfl rfl (by decide) ⟨x, H, I1, ru, ⟨rfl, hrx⟩, ⟨hi, st'⟩, fun b hb => (hf b hb).1⟩⟩
 done := by
  intro X hP hw hK hc i pins s σ H E I hf st hg
  subst hP hw hK
  obtain ⟨f0, f1, f2, f3, f4, f5⟩ := hf it (by simp)
  have hi : xs.length ≤ i := hg
  have e1 : (xs.length : Int) - 1 - i = -1 := by have := st.1; omega
  have st2 := st.2
  rw [e1] at st2
  exact HT.gZ (I.ok.hd hc) st2 fun h' eb => ⟨rfl, I.turned (t' := s.toks) (fun b o hb e => eb b o hb e) f0 f1 f3 f4 f5⟩
 self := fun A i s Q E st h => HT.jw st.2 h
theorem jd : bootBuiltins "reversed" = some (.type "reversed") := by decide +kernel
section
variable {X : Cx} {a : Expr} {t : TA} {p pos : Pos} {tg : Expr}
theorem ug : OpR X (binaryOp .FloorDiv) (rI (fun _ j => 0 < j ∧ j < 1267650600228229401496703205376) fun i j => .int (i / j)) := opI fun i j _ _ _ _ _ hc q => by
 have h1 : (0 : Int) < j := hc.1
 have h2 : j < 1267650600228229401496703205376 := hc.2
 have h3 : j.natAbs.log2 < 100 := (Nat.log2_lt (by omega)).mpr (Nat.lt_of_lt_of_eq (m := 1267650600228229401496703205376) (by omega) (by decide))
 exact floordiv_int (by omega) (by rw [Int.fdiv_eq_ediv_of_nonneg i (by omega)]; exact q) (.inl (PyProof.noPylong_of_log2 (by omega)))
def bY : R2 := fun x y H Q => match x, y with | .int i, .int j => (0 < j ∧ j < 1267650600228229401496703205376) ∧ Q (.int (i / j)) H | _, _ => False
theorem cE : OpR X (binaryOp .FloorDiv) bY := ug.imp fun x y H Q q => by
 unfold bY at q
 split at q
 · exact ⟨_, _, rfl, rfl, q.1, q.2⟩
 · exact q.elim
end
end L2
namespace L2
open PySem PySem.Spec PyProof.Rows
section
variable {X : Cx}
end
section
variable {α : Type} {l : List α}
theorem pS (h : l.length = 0) : l = [] := List.length_eq_zero_iff.mp h
theorem dA (h : l.length = 1) : ∃ a0, l = [a0] := by
  cases l with
  | nil => simp at h
  | cons a l =>
    obtain rfl := pS (l := l) (by simpa using h)
    exact ⟨a, rfl⟩
theorem vV (h : l.length = 2) : ∃ a0 a1, l = [a0, a1] := by
  cases l with
  | nil => simp at h
  | cons a l =>
    obtain ⟨b0, rfl⟩ := dA (l := l) (by simpa using h)
    exact ⟨a, b0, rfl⟩
theorem pY (h : l.length = 3) : ∃ a0 a1 a2, l = [a0, a1, a2] := by
  cases l with
  | nil => simp at h
  | cons a l =>
    obtain ⟨b0, b1, rfl⟩ := vV (l := l) (by simpa using h)
    exact ⟨a, b0, b1, rfl⟩
theorem vX (h : l.length = 4) : ∃ a0 a1 a2 a3, l = [a0, a1, a2, a3] := by
  cases l with
  | nil => simp at h
  | cons a l =>
    obtain ⟨b0, b1, b2, rfl⟩ := pY (l := l) (by simpa using h)
    exact ⟨a, b0, b1, b2, rfl⟩
theorem Bp (h : l.length = 5) : ∃ a0 a1 a2 a3 a4, l = [a0, a1, a2, a3, a4] := by
  cases l with
  | nil => simp at h
  | cons a l =>
    obtain ⟨b0, b1, b2, b3, rfl⟩ := vX (l := l) (by simpa using h)
    exact ⟨a, b0, b1, b2, b3, rfl⟩
end
end L2
namespace L2
open PySem PySem.Spec PyProof.Rows
section
variable {X : Cx}
def wp : V → List V → Hp → VK → Prop := fun x vs H Q => ∃ a y d o, x = .ref a ∧ vs = [y, d] ∧ cy H a y o ∧ Q (o.getD d) H
theorem wG (hu : X.A.units + 1 < cLine) : MtR X "dict.get" wp := by
 intro pins s σ H x vs v us Q I rx rv h
 obtain ⟨a, y, d, o, rfl, rfl, g, q⟩ := h
 obtain rfl : v = Value.ref a := rx
 obtain ⟨uy, ud, rfl, ry, rd⟩ := rv.two
 exact yk hu I g ry rd fun w' s' I' r' => ⟨_, H, I', r', q⟩
end
end L2
namespace L2
open PySem PySem.Spec PyProof.Rows
end L2
namespace L2
open PySem PySem.Spec PyProof.Rows
section
variable {X : Cx} {pos ep px py pz : Pos} {ek : Nat} {x y z : Str} {iter : Expr} {wi : TI} {tS : TS}
end
end L2
namespace L2
open PySem PySem.Spec PyProof.Rows
theorem ba.le {A : Around} {m n : Nat} (h : ba m A) (d : n ≤ m := by first | decide | omega) : ba n A := h.mono d
theorem scF {N P : List Str} {sc : Scope} (h1 : sc.kind = .function := by rfl) (h2 : sc.isCoroutine = false := by rfl) (h3 : sc.isGenerator = false := by rfl) (h4 : N.Nodup := by decide +kernel) (h5 : N.take P.length = P := by rfl)
 (h6 : ∀ x ∈ P, sc.names.lookup x = some .local ∨ sc.names.lookup x = some .cell := by decide +kernel) (h7 : ∀ y ∈ sc.names, y.2 ≠ .free := by decide +kernel) : az N P sc := ⟨h1, h2, h3, h4, h5, h6, h7⟩
structure Fm (K : W.Frag) (mg : Str → Option Value) (x qual : Str) (st : Stmt) (a : Addr) (d : FuncData) (ps : List Str) : Prop where
 f : Fun K x qual st a d
 m : mg x = some (.ref a)
 b : bZ K d ps []
structure Fa (K : W.Frag) (x qual : Str) (st : Stmt) (a : Addr) (d : FuncData) : Prop where
 m : W.nsIn K mainGlobals x = some (some (.ref a))
 f : Fun K x qual st a d
section
variable {P : Program} {w : World} {K : W.Frag} {mg : Str → Option Value} {base h : Heap} {x qual : Str} {st : Stmt} {a : Addr} {d : FuncData} {ps : List Str}
theorem bc {oc : Value} {od an : Option Addr} {osl : Array (Option Value)} {kV doc pm cdv ct : Value} (m : W.nsIn K mainGlobals x = some (some (.ref a))) (l : K.lookup a = some ⟨oc, od, .func (W.fnOf x qual (bp st) (aL st) (ai st) .none kV doc pm an cdv ct), osl⟩)
 (c : W.codeIn K cdv qual = true) (k : W.keepIn K (.ref a) = true) : Fa K x qual st a (W.fnOf x qual (bp st) (aL st) (ai st) .none kV doc pm an cdv ct) := ⟨m, jz l c k⟩
theorem Fa.code (F : Fa K x qual st a d) (X : K.In h) (G : h.Ns mainGlobals mg) {z t : Addr} (ht : W.tabIn K x = some (z, t)) : d.code = .ref z := by
 obtain ⟨oc, od, kV, doc, pm, an, cdv, ct, osl, e, lk, hcd⟩ := F.f.ex
 exact W.law_code X G ht (W.mg_of X G F.m) (X _ _ lk) rfl
theorem Fun.bt {p : Str} (F : Fun K x qual st a d) (hb : ∀ (kV doc pm : Value) (an : Option Addr) (cdv ct v : Value), bindArgs (W.fnOf x qual (bp st) (aL st) (ai st) .none kV doc pm an cdv ct) ⟨[v], []⟩ = pure [(p, v)] := by intros; rfl) (s : Shared) (v : Value) : BindsTo s d ⟨[v], []⟩ [(p, v)] := by
 obtain ⟨oc, od, kV, doc, pm, an, cdv, ct, osl, rfl, lk, hcd⟩ := F.ex
 exact .of_eq (hb kV doc pm an cdv ct v)
theorem Fun.b0 (F : Fun K x qual st a d) (hb : ∀ (kV doc pm : Value) (an : Option Addr) (cdv ct : Value), bindArgs (W.fnOf x qual (bp st) (aL st) (ai st) .none kV doc pm an cdv ct) ⟨[], []⟩ = pure (List.zip [] []) := by intros; rfl) : bZ K d [] [] := F.binds fun kV doc pm an cdv ct us hl => by
 obtain rfl := L2.pS hl
 exact hb kV doc pm an cdv ct
theorem Fa.fm0 (F : Fa K x qual st a d) (X : K.In h) (G : h.Ns mainGlobals mg) (hb : ∀ (kV doc pm : Value) (an : Option Addr) (cdv ct : Value), bindArgs (W.fnOf x qual (bp st) (aL st) (ai st) .none kV doc pm an cdv ct) ⟨[], []⟩ = pure (List.zip [] []) := by intros; rfl) : Fm K mg x qual st a d [] := ⟨F.f, W.mg_of X G F.m, F.f.b0 hb⟩
theorem Fun.b1 {p0 : Str} (F : Fun K x qual st a d) (hb : ∀ (kV doc pm : Value) (an : Option Addr) (cdv ct u0 : Value), bindArgs (W.fnOf x qual (bp st) (aL st) (ai st) .none kV doc pm an cdv ct) ⟨[u0], []⟩ = pure (List.zip [p0] [u0]) := by intros; rfl) : bZ K d [p0] [] := F.binds fun kV doc pm an cdv ct us hl => by
 obtain ⟨u0, rfl⟩ := L2.dA hl
 exact hb kV doc pm an cdv ct u0
theorem Fa.fm1 {p0 : Str} (F : Fa K x qual st a d) (X : K.In h) (G : h.Ns mainGlobals mg) (hb : ∀ (kV doc pm : Value) (an : Option Addr) (cdv ct u0 : Value), bindArgs (W.fnOf x qual (bp st) (aL st) (ai st) .none kV doc pm an cdv ct) ⟨[u0], []⟩ = pure (List.zip [p0] [u0]) := by intros; rfl) : Fm K mg x qual st a d [p0] := ⟨F.f, W.mg_of X G F.m, F.f.b1 hb⟩
theorem Fun.b2 {p0 p1 : Str} (F : Fun K x qual st a d) (hb : ∀ (kV doc pm : Value) (an : Option Addr) (cdv ct u0 u1 : Value), bindArgs (W.fnOf x qual (bp st) (aL st) (ai st) .none kV doc pm an cdv ct) ⟨[u0, u1], []⟩ = pure (List.zip [p0, p1] [u0, u1]) := by intros; rfl) : bZ K d [p0, p1] [] := F.binds fun kV doc pm an cdv ct us hl => by
 obtain ⟨u0, u1, rfl⟩ := L2.vV hl
 exact hb kV doc pm an cdv ct u0 u1
theorem Fa.fm2 {p0 p1 : Str} (F : Fa K x qual st a d) (X : K.In h) (G : h.Ns mainGlobals mg) (hb : ∀ (kV doc pm : Value) (an : Option Addr) (cdv ct u0 u1 : Value), bindArgs (W.fnOf x qual (bp st) (aL st) (ai st) .none kV doc pm an cdv ct) ⟨[u0, u1], []⟩ = pure (List.zip [p0, p1] [u0, u1]) := by intros; rfl) : Fm K mg x qual st a d [p0, p1] := ⟨F.f, W.mg_of X G F.m, F.f.b2 hb⟩
theorem Fun.b3 {p0 p1 p2 : Str} (F : Fun K x qual st a d) (hb : ∀ (kV doc pm : Value) (an : Option Addr) (cdv ct u0 u1 u2 : Value), bindArgs (W.fnOf x qual (bp st) (aL st) (ai st) .none kV doc pm an cdv ct) ⟨[u0, u1, u2], []⟩ = pure (List.zip [p0, p1, p2] [u0, u1, u2]) := by intros; rfl) : bZ K d [p0, p1, p2] [] := F.binds fun kV doc pm an cdv ct us hl => by
 obtain ⟨u0, u1, u2, rfl⟩ := L2.pY hl
 exact hb kV doc pm an cdv ct u0 u1 u2
theorem Fa.fm3 {p0 p1 p2 : Str} (F : Fa K x qual st a d) (X : K.In h) (G : h.Ns mainGlobals mg) (hb : ∀ (kV doc pm : Value) (an : Option Addr) (cdv ct u0 u1 u2 : Value), bindArgs (W.fnOf x qual (bp st) (aL st) (ai st) .none kV doc pm an cdv ct) ⟨[u0, u1, u2], []⟩ = pure (List.zip [p0, p1, p2] [u0, u1, u2]) := by intros; rfl) : Fm K mg x qual st a d [p0, p1, p2] := ⟨F.f, W.mg_of X G F.m, F.f.b3 hb⟩
theorem Fun.b4 {p0 p1 p2 p3 : Str} (F : Fun K x qual st a d) (hb : ∀ (kV doc pm : Value) (an : Option Addr) (cdv ct u0 u1 u2 u3 : Value), bindArgs (W.fnOf x qual (bp st) (aL st) (ai st) .none kV doc pm an cdv ct) ⟨[u0, u1, u2, u3], []⟩ = pure (List.zip [p0, p1, p2, p3] [u0, u1, u2, u3]) := by intros; rfl) : bZ K d [p0, p1, p2, p3] [] := F.binds fun kV doc pm an cdv ct us hl => by
 obtain ⟨u0, u1, u2, u3, rfl⟩ := L2.vX hl
 exact hb kV doc pm an cdv ct u0 u1 u2 u3
theorem Fa.fm4 {p0 p1 p2 p3 : Str} (F : Fa K x qual st a d) (X : K.In h) (G : h.Ns mainGlobals mg) (hb : ∀ (kV doc pm : Value) (an : Option Addr) (cdv ct u0 u1 u2 u3 : Value), bindArgs (W.fnOf x qual (bp st) (aL st) (ai st) .none kV doc pm an cdv ct) ⟨[u0, u1, u2, u3], []⟩ = pure (List.zip [p0, p1, p2, p3] [u0, u1, u2, u3]) := by intros; rfl) : Fm K mg x qual st a d [p0, p1, p2, p3] := ⟨F.f, W.mg_of X G F.m, F.f.b4 hb⟩
theorem Fun.b5 {p0 p1 p2 p3 p4 : Str} (F : Fun K x qual st a d) (hb : ∀ (kV doc pm : Value) (an : Option Addr) (cdv ct u0 u1 u2 u3 u4 : Value), bindArgs (W.fnOf x qual (bp st) (aL st) (ai st) .none kV doc pm an cdv ct) ⟨[u0, u1, u2, u3, u4], []⟩ = pure (List.zip [p0, p1, p2, p3, p4] [u0, u1, u2, u3, u4]) := by intros; rfl) : bZ K d [p0, p1, p2, p3, p4] [] := F.binds fun kV doc pm an cdv ct us hl => by
 obtain ⟨u0, u1, u2, u3, u4, rfl⟩ := L2.Bp hl
 exact hb kV doc pm an cdv ct u0 u1 u2 u3 u4
theorem Fa.fm5 {p0 p1 p2 p3 p4 : Str} (F : Fa K x qual st a d) (X : K.In h) (G : h.Ns mainGlobals mg) (hb : ∀ (kV doc pm : Value) (an : Option Addr) (cdv ct u0 u1 u2 u3 u4 : Value), bindArgs (W.fnOf x qual (bp st) (aL st) (ai st) .none kV doc pm an cdv ct) ⟨[u0, u1, u2, u3, u4], []⟩ = pure (List.zip [p0, p1, p2, p3, p4] [u0, u1, u2, u3, u4]) := by intros; rfl) : Fm K mg x qual st a d [p0, p1, p2, p3, p4] := ⟨F.f, W.mg_of X G F.m, F.f.b5 hb⟩
theorem Fun.okS {CX : CXT} {N : List Str} {k : Nat} {sp : Sp} {t : TS} (F : Fun K x qual st a d) (S : az N ps (ai st)) (len : ∀ vs H Q E, sp vs H Q E → vs.length = ps.length)
  (hrd : ∀ (vs : List V) (H : Hp) (Q : VK) (E : XK), sp vs H Q E → t { nx := fun _ H' => Q .non H', rt := Q } (start N vs) H)
  (hq : ∀ (cdv : Value) (A : Around) (outer : List Env) (s : Shared) (H : Hp) (E : XK), ba k (A.deeper (envOfC qual (ai st) s.heap.objs.size a cdv)) → QSs (cI CX P w K mg base N qual (ai st) a cdv A outer s H E).nox (aL st) t) : aU P w K mg base CX (k + 1) a d ps sp :=
 F.okN S len fun cdv A outer s H vs Q E hr h => ⟨t, (hq cdv A outer s H E hr).out, hrd vs H Q E h⟩
end
section
variable {X : Cx} {x q : Str} {e : Expr} {es : List Expr} {t : TA} {p pos : Pos} {st : Stmt} {f : Addr} {fd : FuncData} {ps : List Str} {k : Nat} {sp : Sp}
theorem aN {P : Program} {w : World} (F : aU X.prog X.w X.K X.mg X.base (CX1 P w) k f fd ps sp) (hr : ba k X.A) (M : Fm X.K X.mg x q st f fd ps)
 (ha : QA X (e :: es) t) (hg : Gl X x := by rfl) (hdb : (x == ("__debug__" : Str)) = false := by decide) (hs : aW (e :: es) = true := by rfl) : QE X (.Call (.Name x p) (e :: es) [] pos) (ar sp (fun _ => E0) t) := oK F hr M.m M.f.kp M.b cM ha hg hdb hs
end
end L2
namespace L2
open PySem PySem.Spec PyProof.Rows
section
variable {X : Cx}
end
end L2
namespace L2
open PySem PySem.Spec PyProof.Rows
section
variable {K : W.Frag} {mg : Str → Option Value} {h : Heap} {x qual : Str} {st : Stmt} {a : Addr} {d : FuncData}
end
end L2
namespace L2
open PySem PySem.Spec PyProof.Rows
section
variable {X : Cx} {pins : List (Addr × Obj)} {σ : St} {H : Hp} {s : Shared} {A : Around} {E : Value → Shared → Prop} {a C dx : Addr} {fs : List (Str × V)} {v : V}
end
section
variable {X : Cx} {k : Nat} {C : Addr} {E : St → XK} {m : Str} {pos apos : Pos} {e o : Expr} {es : List Expr} {ta : TE} {t : TA}
end
end L2
namespace HT
open PySem PyProof.Rows
section
variable {prog : Program} {w : World} {A : Around} {s : Shared} {R : Result → Shared → Prop}
variable {I : Addr} {fp wr : List Addr} {G : Array GenState → Array GenState → Prop} {n : Nat} {P : Nat → Value → Prop} {St : Nat → Shared → Prop}
end
section
variable {prog : Program} {w : World} {A : Around} {E : Value → Shared → Prop} {s : Shared}
variable {I : Addr} {fp wr : List Addr} {G : Array GenState → Array GenState → Prop} {n : Nat} {P : Nat → Value → Prop} {St : Nat → Shared → Prop}
end
end HT
namespace L2
open PySem PySem.Spec PyProof.Rows
section
variable {X : Cx} {pins : List (Addr × Obj)} {σ : St} {H : Hp} {s : Shared}
end
section
variable {X : Cx} {a : Expr} {t : TA} {p1 p2 pos1 pos2 : Pos}
theorem xz : bootBuiltins "list" = some (.type "list") := by decide +kernel
end
end L2
namespace L2
open PySem PySem.Spec PyProof.Rows
section
variable {X : Cx} {tg : Expr}
end
section
variable {X : Cx} {a b : Expr} {t : TA} {p pos ep : Pos} {elts : List Expr} {ek : Nat}
def wn (K : W.Frag) (t : TA) : TI := fun σ H R => t σ H fun vs H1 => (∃ c d xs ys, vs = [.ref c, .ref d] ∧ SqT K H1 c xs ∧ SqT K H1 d ys ∧ R (Itz K c d) H1) ∨ (∃ c d xs ys, vs = [.ref c, .ref d] ∧ SqL K H1 c xs ∧ SqL K H1 d ys ∧ R (jq K c d) H1)
theorem yu (hm : X.mg "zip" = none) (ha : QA X [a, b] t) (hg : Gl X "zip" := by rfl) (hs : aW [a, b] = true := by rfl) : QI X (.Tuple elts ek ep) (.Call (.Name "zip" p) [a, b] [] pos) (wn X.K t) := ⟨fun pins s σ H R I h => by
 have h' : (bv a && aW [b]) = true := hs
 refine wpAny_Call_Name_kw (dw I hg hm rE ?_ (by decide) (by decide))
 exact PyProof.Rows.callWith_type1 (thn (ha.out pos pins s σ H _ I h) fun us s1 ⟨vs, H1, I1, r1, q1⟩ => q1.elim (tm pins s1 σ H1 us vs R I1 r1) (rK pins s1 σ H1 us vs R I1 r1))
  (aV (Bool.and_eq_true_iff.mp h').1 [b] X.env) (bo (Bool.and_eq_true_iff.mp h').2)⟩
end
end L2
namespace HT
open PySem PyProof.Rows
abbrev gn (f0 f1 : Value) (TI TO : Addr) : Obj := { cls := .type "zip", dict := none, data := .fields #[f0, f1, .bool false, .ref TI, .ref TO], slots := #[] }
structure ej (h : Heap) (z TI TO i1 i2 l t S : Addr) (k : Nat) : Prop where
 z : (k = 0 ∧ h.get? z = some (gn .none (.bool false) TI TO)) ∨ ∃ T f oT, h.get? z = some (gn (rawInt (T : Addr)) (.bool f) TI TO) ∧ h.get? T = some oT ∧ T ≠ z ∧ T ≠ TO ∧ T ≠ i1 ∧ T ≠ i2 ∧ T ≠ S
 ti : IsPair h TI (.ref i1) (.ref i2)
 to : ∃ a b, IsPair h TO a b
 j1 : h.IsListIter i1 l k
 j2 : h.IsTupleIter i2 t k
section
variable {prog : Program} {w : World} {A : Around} {E : Value → Shared → Prop} {s : Shared}
theorem oj {z TI TO T : Addr} {f : Bool} {oT : Obj} (hz : s.heap.get? z = some (gn (rawInt T) (.bool f) TI TO)) (hTt : s.heap.get? T = some oT) :
    wpAny (model prog w) A (Builtin.SmallTypes.ownedTupleIsFree (.ref z)) (fun b s1 => b = false ∧ ∃ h₁, s1 = { s with heap := h₁ } ∧ h₁.get? z = some (gn (rawInt T) (.bool true) TI TO) ∧ Heap.SameBut z s.heap h₁) (fun _ _ => False) s := by
  unfold Builtin.SmallTypes.ownedTupleIsFree
  refine wpAny_bind (wpAny_field hz rfl (x := rawInt T) rfl ?_)
  show wpAny _ _ (loadIfAlive ((T : Int).toNat) >>= _) _ _ _
  rw [Int.toNat_natCast]
  refine wpAny_bind (W.kdx_alive hTt ?_)
  simp only [Option.isNone_some, Bool.false_eq_true, if_false]
  refine wpAny_bind (wpAny_field hz rfl (x := .bool f) rfl ?_)
  cases f with
  | true =>
    rw [if_neg (show ¬ ((Value.bool true != Value.bool true) = true) from Bool.false_ne_true)]
    exact wpAny_pure ⟨rfl, s.heap, rfl, hz, Heap.SameBut.refl _ _⟩
  | false =>
    rw [if_pos (show (Value.bool false != Value.bool true) = true from rfl)]
    exact wpAny_bind (wpAny_setField_rec hz (by simp) fun h₃ he₃ hs₃ => wpAny_pure ⟨rfl, h₃, rfl, he₃, hs₃⟩)
theorem qI {z TI TO i1 i2 l t S : Addr} {k : Nat} {xs ys : Array Value} {x y a b : Value} {Q : Option Value → Shared → Prop} (D : ZipApart z TI TO i1 i2 l t) (hz : IsZip s.heap z TI TO .none) (hTI : IsPair s.heap TI (.ref i1) (.ref i2)) (hTO : IsPair s.heap TO a b)
  (h1 : s.heap.IsListIter i1 l k) (h2 : s.heap.IsTupleIter i2 t k) (ht1 : s.heap.IsList l xs) (ht2 : s.heap.IsTuple t ys) (hx : xs[k]? = some x) (hy : ys[k]? = some y) (hS : S < s.heap.objs.size)
  (hQ : ∀ h', ej h' z TI TO i1 i2 l t S (k + 1) → IsPair h' s.heap.objs.size x y →
   (∀ c o, c ≠ z → c ≠ TO → c ≠ i1 → c ≠ i2 → s.heap.get? c = some o → h'.get? c = some o) → Q (some (.ref s.heap.objs.size)) { s with heap := h' }) :
  wpAny (model prog w) A (pyNext (.ref z)) Q E s := by
 have hT : s.TypeIs (.ref z) "zip" := ⟨_, hz, rfl⟩
 unfold pyNext
 refine wpAny_bind (wpAny_attempt (wpAny_callSpecial?_slot (name := Str.ofString "__next__") hT F.slot_zip_next (wpAny_call_entry F.slot_zip_next hT F.entry_zip_next ?_ (F.args_zip_next_1 _))))
 show wpAny _ _ (field (.ref z) 2 >>= _) _ _ _
 refine wpAny_bind (wpAny_field hz rfl (x := .bool false) rfl ?_)
 show wpAny _ _ (field (.ref z) 3 >>= _) _ _ _
 refine wpAny_bind (wpAny_field hz rfl (x := .ref TI) rfl (wpAny_bind (wpAny_seqItems hTI rfl ?_)))
 show wpAny _ _ (Builtin.SmallTypes.ownedTupleIsFree (.ref z) >>= _) _ _ _
 refine wpAny_bind ?_
 unfold Builtin.SmallTypes.ownedTupleIsFree
 refine wpAny_bind (wpAny_field hz rfl (x := .none) rfl (wpAny_pure ?_))
 simp only [if_true]
 refine wpAny_bind (wpAny_rule (wpAny_bind (wpAny_field hz rfl (x := .ref TO) rfl (wpAny_bind (wpAny_setField_rec hz (by simp) fun ha hza hsa => wpAny_bind ?_)))))
 replace hza : IsZip ha z TI TO .ellipsis := hza
 simp only [List.zipIdx_cons, List.zipIdx_nil, List.forIn_cons, List.forIn_nil]
 refine wpAny_bind (wpAny_bind (wpAny_onRaise ?_))
 show wpAny _ _ (Builtin.SmallTypes.nextOf (.ref i1) >>= _) _ _ _
 refine wpAny_bind (wpAny_nextOf_list_item (h1.at fun o e => hsa.extBut _ _ D.i1z e) (ht1.at fun o e => hsa.extBut _ _ D.l1z e) hx fun hb h1b hsb => wpAny_pure ?_)
 have hTOb : IsPair hb TO a b := hsb.extBut _ _ D.TOi1 (hsa.extBut _ _ D.TOz hTO)
 refine wpAny_bind (wpAny_seqItems hTOb rfl (wpAny_bind (wpAny_updateSeq_pair hTOb fun hc hTOc hsc => ?_)))
 replace hTOc : IsPair hc TO x b := hTOc
 refine wpAny_bind (wpAny_letGo (wpAny_pure ?_))
 refine wpAny_bind (wpAny_bind (wpAny_onRaise ?_))
 show wpAny _ _ (Builtin.SmallTypes.nextOf (.ref i2) >>= _) _ _ _
 refine wpAny_bind (fi (h2.at fun o e => hsc.extBut _ _ D.TOi2.symm (hsb.extBut _ _ D.i12.symm (hsa.extBut _ _ D.i2z e)))
  (ht2.at fun o e => hsc.extBut _ _ D.l2TO (hsb.extBut _ _ D.l2i1 (hsa.extBut _ _ D.l2z e))) hy fun hd h2d hsd => wpAny_pure ?_)
 have hTOd : IsPair hd TO x b := hsd.extBut _ _ D.TOi2 hTOc
 refine wpAny_bind (wpAny_seqItems hTOd rfl (wpAny_bind (wpAny_updateSeq_pair hTOd fun he hTOe hse => ?_)))
 replace hTOe : IsPair he TO x y := hTOe
 refine wpAny_bind (wpAny_letGo (wpAny_pure (wpAny_pure ?_)))
 refine wpAny_bind (wpAny_seqItems hTOe rfl (wpAny_bind (wpAny_newTuple ?_)))
 have hsz : he.objs.size = s.heap.objs.size := by rw [hse.1, hsd.1, hsc.1, hsb.1, hsa.1]
 have hze : IsZip he z TI TO .ellipsis := hse.extBut _ _ D.TOz.symm (hsd.extBut _ _ D.i2z.symm (hsc.extBut _ _ D.TOz.symm (hsb.extBut _ _ D.i1z.symm hza)))
 have hke : ∀ c o, c ≠ z → c ≠ TO → c ≠ i1 → c ≠ i2 → s.heap.get? c = some o → he.get? c = some o := fun c o c1 c2 c3 c4 e =>
  hse.extBut _ _ c2 (hsd.extBut _ _ c4 (hsc.extBut _ _ c2 (hsb.extBut _ _ c3 (hsa.extBut _ _ c1 e))))
 have h1e : he.IsListIter i1 l (k + 1) := h1b.at fun o e => hse.extBut _ _ D.TOi1.symm (hsd.extBut _ _ D.i12 (hsc.extBut _ _ D.TOi1.symm e))
 have h2e : he.IsTupleIter i2 t (k + 1) := h2d.at fun o e => hse.extBut _ _ D.TOi2.symm e
 show wpAny _ _ (Builtin.SmallTypes.ownedTupleHandOut (.ref z) (.ref he.objs.size) >>= _) _ _ _
 refine wpAny_bind ?_
 unfold Builtin.SmallTypes.ownedTupleHandOut
 have hzf : IsZip (he.push { cls := .type "tuple", data := .seq #[x, y] }) z TI TO .ellipsis := Heap.get?_push_of_some _ hze
 refine wpAny_bind (wpAny_setField_rec hzf (by simp) fun hg hzg hsg => ?_)
 replace hzg : IsZip hg z TI TO (rawInt he.objs.size) := hzg
 refine wpAny_setField_rec hzg (by simp) fun hh hzh hsh => ?_
 replace hzh : IsZip hh z TI TO (rawInt he.objs.size) := hzh
 have up : ∀ c o, c ≠ z → he.get? c = some o → hh.get? c = some o := fun c o c1 e => hsh.extBut _ _ c1 (hsg.extBut _ _ c1 (Heap.get?_push_of_some _ e))
 have hTh : IsPair hh he.objs.size x y := hsh.extBut _ _ (Nat.ne_of_gt (Heap.lt_size hze)) (hsg.extBut _ _ (Nat.ne_of_gt (Heap.lt_size hze)) (Heap.get?_push_size _ rfl))
 have n1 : he.objs.size ≠ z := Nat.ne_of_gt (Heap.lt_size hze)
 have n2 : he.objs.size ≠ TO := Nat.ne_of_gt (Heap.lt_size hTOe)
 have n3 : he.objs.size ≠ i1 := by obtain ⟨o, eo, _⟩ := h1e; exact Nat.ne_of_gt (Heap.lt_size eo)
 have n4 : he.objs.size ≠ i2 := by obtain ⟨o, eo, _⟩ := h2e; exact Nat.ne_of_gt (Heap.lt_size eo)
 have n5 : he.objs.size ≠ S := by rw [hsz]; exact Nat.ne_of_gt hS
 rw [hsz] at hzh hTh n1 n2 n3 n4 n5
 have fin := hQ hh ⟨.inr ⟨s.heap.objs.size, false, _, hzh, hTh, n1, n2, n3, n4, n5⟩, up _ _ D.TIz (hke _ _ D.TIz D.TITO D.TIi1 D.TIi2 hTI), ⟨x, y, up _ _ D.TOz hTOe⟩, h1e.at fun o e => up _ o D.i1z e, h2e.at fun o e => up _ o D.i2z e⟩ hTh fun c o c1 c2 c3 c4 e => up c o c1 (hke c o c1 c2 c3 c4 e)
 rw [← hsz] at fin
 exact wpAny_pure ⟨_, rfl, wpAny_pure fin⟩
theorem rG {z TI TO i1 i2 l t S T : Addr} {f : Bool} {oT : Obj} {k : Nat} {xs ys : Array Value} {x y : Value} {Q : Option Value → Shared → Prop} (D : ZipApart z TI TO i1 i2 l t) (hz : s.heap.get? z = some (gn (rawInt T) (.bool f) TI TO)) (hTt : s.heap.get? T = some oT)
  (nT : T ≠ z ∧ T ≠ TO ∧ T ≠ i1 ∧ T ≠ i2 ∧ T ≠ S) (hTI : IsPair s.heap TI (.ref i1) (.ref i2)) (hTO : ∃ a b, IsPair s.heap TO a b)
  (h1 : s.heap.IsListIter i1 l k) (h2 : s.heap.IsTupleIter i2 t k) (ht1 : s.heap.IsList l xs) (ht2 : s.heap.IsTuple t ys) (hx : xs[k]? = some x) (hy : ys[k]? = some y)
  (hQ : ∀ h', ej h' z TI TO i1 i2 l t S (k + 1) → IsPair h' s.heap.objs.size x y →
   (∀ c o, c ≠ z → c ≠ TO → c ≠ i1 → c ≠ i2 → s.heap.get? c = some o → h'.get? c = some o) → Q (some (.ref s.heap.objs.size)) { s with heap := h' }) :
  wpAny (model prog w) A (pyNext (.ref z)) Q E s := by
 have hT : s.TypeIs (.ref z) "zip" := ⟨_, hz, rfl⟩
 unfold pyNext
 refine wpAny_bind (wpAny_attempt (wpAny_callSpecial?_slot (name := Str.ofString "__next__") hT F.slot_zip_next (wpAny_call_entry F.slot_zip_next hT F.entry_zip_next ?_ (F.args_zip_next_1 _))))
 show wpAny _ _ (field (.ref z) 2 >>= _) _ _ _
 refine wpAny_bind (wpAny_field hz rfl (x := .bool false) rfl ?_)
 show wpAny _ _ (field (.ref z) 3 >>= _) _ _ _
 refine wpAny_bind (wpAny_field hz rfl (x := .ref TI) rfl (wpAny_bind (wpAny_seqItems hTI rfl ?_)))
 show wpAny _ _ (Builtin.SmallTypes.ownedTupleIsFree (.ref z) >>= _) _ _ _
 refine wpAny_bind (wpAny_mono (oj hz hTt) (fun b s1 hb => ?_) fun _ _ e => e.elim)
 obtain ⟨rfl, ha, rfl, hza, hsa⟩ := hb
 simp only [Bool.false_eq_true, if_false]
 refine wpAny_bind ?_
 rw [← Array.forIn_toList]
 simp only [List.forIn_cons, List.forIn_nil]
 refine wpAny_bind (wpAny_bind (wpAny_holding ?_))
 show wpAny _ _ (Builtin.SmallTypes.nextOf (.ref i1) >>= _) _ _ _
 refine wpAny_bind (wpAny_nextOf_list_item (h1.at fun o e => hsa.extBut _ _ D.i1z e) (ht1.at fun o e => hsa.extBut _ _ D.l1z e) hx fun hb h1b hsb => wpAny_pure (wpAny_pure ?_))
 refine wpAny_bind (wpAny_bind (wpAny_holding ?_))
 show wpAny _ _ (Builtin.SmallTypes.nextOf (.ref i2) >>= _) _ _ _
 refine wpAny_bind (fi (h2.at fun o e => hsb.extBut _ _ D.i12.symm (hsa.extBut _ _ D.i2z e)) (ht2.at fun o e => hsb.extBut _ _ D.l2i1 (hsa.extBut _ _ D.l2z e)) hy fun hd h2d hsd => wpAny_pure (wpAny_pure (wpAny_pure ?_)))
 refine wpAny_bind (wpAny_newTuple (hsz := by show 2 ≤ sizeLine; decide) ?_)
 have hsz : hd.objs.size = s.heap.objs.size := by rw [hsd.1, hsb.1, hsa.1]
 have hk : ∀ c o, c ≠ z → c ≠ TO → c ≠ i1 → c ≠ i2 → s.heap.get? c = some o → (hd.push { cls := .type "tuple", data := .seq #[x, y] }).get? c = some o := fun c o c1 c2 c3 c4 e =>
  Heap.get?_push_of_some _ (hsd.extBut _ _ c4 (hsb.extBut _ _ c3 (hsa.extBut _ _ c1 e)))
 obtain ⟨a, b, hTO⟩ := hTO
 have fin := hQ (hd.push { cls := .type "tuple", data := .seq #[x, y] }) ⟨.inr ⟨T, true, oT, Heap.get?_push_of_some _ (hsd.extBut _ _ D.i2z.symm (hsb.extBut _ _ D.i1z.symm hza)), hk T oT nT.1 nT.2.1 nT.2.2.1 nT.2.2.2.1 hTt, nT⟩,
  hk _ _ D.TIz D.TITO D.TIi1 D.TIi2 hTI, ⟨a, b, Heap.get?_push_of_some _ (hsd.extBut _ _ D.TOi2 (hsb.extBut _ _ D.TOi1 (hsa.extBut _ _ D.TOz hTO)))⟩,
  h1b.at fun o e => Heap.get?_push_of_some _ (hsd.extBut _ _ D.i12 e), h2d.at fun o e => Heap.get?_push_of_some _ e⟩ (by rw [← hsz]; exact Heap.get?_push_size _ rfl) hk
 rw [← hsz] at fin
 exact wpAny_pure ⟨_, rfl, wpAny_pure fin⟩
theorem tz {z TI TO i1 i2 l t S : Addr} {k : Nat} {xs : Array Value} {Q : Option Value → Shared → Prop} (hh : A.handled = none) (D : ZipApart z TI TO i1 i2 l t) (Z : ej s.heap z TI TO i1 i2 l t S k)
   (ht1 : s.heap.IsList l xs) (hend : xs[k]? = none)
   (hQ : ∀ h', (∀ c o, c ≠ z → c ≠ TO → c ≠ i1 → c ≠ i2 → s.heap.get? c = some o → h'.get? c = some o) → Q none { s with heap := h' }) : wpAny (model prog w) A (pyNext (.ref z)) Q E s := by
 obtain ⟨Zz, hTI, ⟨a, b, hTO⟩, h1, h2⟩ := Z
 have hT : s.TypeIs (.ref z) "zip" := by rcases Zz with ⟨_, e⟩ | ⟨_, _, _, e, _⟩ <;> exact ⟨_, e, rfl⟩
 have fin : ∀ h' e, (∀ c o, c ≠ z → c ≠ TO → c ≠ i1 → c ≠ i2 → s.heap.get? c = some o → h'.get? c = some o) → (∃ o, h'.get? e = some o ∧ o.cls = .type "StopIteration") →
    wpAny (model prog w) A (do if ← isInstance (.ref e) (.type "StopIteration") then pure none else throw (.ref e)) Q E { s with heap := h' } := fun h' e hk ⟨o, ho, hc⟩ =>
   wpAny_bind (wpAny_isInstance (T := "StopIteration") (b := true) ⟨o, ho, hc⟩ isSubtype_stop (wpAny_pure (hQ _ hk)))
 unfold pyNext
 refine wpAny_bind (wpAny_attempt (wpAny_callSpecial?_slot (name := Str.ofString "__next__") hT F.slot_zip_next (wpAny_call_entry F.slot_zip_next hT F.entry_zip_next ?_ (F.args_zip_next_1 _))))
 show wpAny _ _ (field (.ref z) 2 >>= _) _ _ _
 rcases Zz with ⟨_, hz⟩ | ⟨T, f, oT, hz, hTt, nT⟩
 · refine wpAny_bind (wpAny_field hz rfl (x := .bool false) rfl ?_)
   show wpAny _ _ (field (.ref z) 3 >>= _) _ _ _
   refine wpAny_bind (wpAny_field hz rfl (x := .ref TI) rfl (wpAny_bind (wpAny_seqItems hTI rfl ?_)))
   show wpAny _ _ (Builtin.SmallTypes.ownedTupleIsFree (.ref z) >>= _) _ _ _
   refine wpAny_bind ?_
   unfold Builtin.SmallTypes.ownedTupleIsFree
   refine wpAny_bind (wpAny_field hz rfl (x := .none) rfl (wpAny_pure ?_))
   simp only [if_true]
   refine wpAny_bind (wpAny_rule (wpAny_bind (wpAny_field hz rfl (x := .ref TO) rfl (wpAny_bind (wpAny_setField_rec hz (by simp) fun ha hza hsa => wpAny_bind ?_)))))
   replace hza : IsZip ha z TI TO .ellipsis := hza
   simp only [List.zipIdx_cons, List.zipIdx_nil, List.forIn_cons, List.forIn_nil]
   refine wpAny_bind (wpAny_bind (wpAny_onRaise ?_))
   show wpAny _ _ (Builtin.SmallTypes.nextOf (.ref i1) >>= _) _ _ _
   refine wpAny_bind (wpAny_nextOf_list_end hh (h1.at fun o e => hsa.extBut _ _ D.i1z e) (ht1.at fun o e => hsa.extBut _ _ D.l1z e) hend fun hb e hsb he => ?_)
   obtain ⟨oe, hoe, hce⟩ := he
   have hzb : IsZip hb z TI TO .ellipsis := hsb _ _ D.i1z.symm hza
   have hez : e ≠ z := fun x => by subst x; rw [hzb] at hoe; cases hoe; simp at hce
   exact wpAny_setField_rec hzb (by simp) fun hc _ hsc => fin hc e (fun c o c1 _ c3 _ x => hsc.extBut _ _ c1 (hsb _ _ c3 (hsa.extBut _ _ c1 x))) ⟨oe, hsc.extBut _ _ hez hoe, hce⟩
 · refine wpAny_bind (wpAny_field hz rfl (x := .bool false) rfl ?_)
   show wpAny _ _ (field (.ref z) 3 >>= _) _ _ _
   refine wpAny_bind (wpAny_field hz rfl (x := .ref TI) rfl (wpAny_bind (wpAny_seqItems hTI rfl ?_)))
   show wpAny _ _ (Builtin.SmallTypes.ownedTupleIsFree (.ref z) >>= _) _ _ _
   refine wpAny_bind (wpAny_mono (oj hz hTt) (fun b s1 hb => ?_) fun _ _ e => e.elim)
   obtain ⟨rfl, ha, rfl, hza, hsa⟩ := hb
   simp only [Bool.false_eq_true, if_false]
   refine wpAny_bind ?_
   rw [← Array.forIn_toList]
   simp only [List.forIn_cons, List.forIn_nil]
   refine wpAny_bind (wpAny_bind (wpAny_holding ?_))
   show wpAny _ _ (Builtin.SmallTypes.nextOf (.ref i1) >>= _) _ _ _
   refine wpAny_bind (wpAny_nextOf_list_end hh (h1.at fun o e => hsa.extBut _ _ D.i1z e) (ht1.at fun o e => hsa.extBut _ _ D.l1z e) hend fun hb e hsb he => ?_)
   exact fin hb e (fun c o c1 _ c3 _ x => hsb _ _ c3 (hsa.extBut _ _ c1 x)) he
structure gX (xs ys : Array Value) (lo : Addr) (h : Heap) (as : List Addr) : Prop where
 rise : as.Pairwise (· < ·)
 above : ∀ a ∈ as, lo ≤ a
 pairs : ∀ (j : Nat) (a : Addr), as[j]? = some a → ∃ x y, xs[j]? = some x ∧ ys[j]? = some y ∧ IsPair h a x y
theorem gX.there {xs ys : Array Value} {lo : Addr} {h : Heap} {as : List Addr} (g : gX xs ys lo h as) {a : Addr} (ha : a ∈ as) : a < h.objs.size := by
 obtain ⟨j, hj⟩ := List.mem_iff_getElem?.mp ha
 obtain ⟨_, _, _, _, e⟩ := g.pairs j a hj
 exact Heap.lt_size e
theorem ej.keepS {h h' : Heap} {z TI TO i1 i2 l t S : Addr} {k : Nat} (Z : ej h z TI TO i1 i2 l t S k) (nS : S ≠ z ∧ S ≠ TI ∧ S ≠ TO ∧ S ≠ i1 ∧ S ≠ i2) (hk : ∀ b o, b ≠ S → h.get? b = some o → h'.get? b = some o) : ej h' z TI TO i1 i2 l t S k := by
 obtain ⟨Zz, hTI, ⟨a, b, hTO⟩, h1, h2⟩ := Z
 refine ⟨?_, hk _ _ nS.2.1.symm hTI, ⟨a, b, hk _ _ nS.2.2.1.symm hTO⟩, h1.at fun o e => hk _ o nS.2.2.2.1.symm e, h2.at fun o e => hk _ o nS.2.2.2.2.symm e⟩
 rcases Zz with ⟨e, hz⟩ | ⟨T, f, oT, hz, hTt, nT⟩
 · exact .inl ⟨e, hk _ _ nS.1.symm hz⟩
 · exact .inr ⟨T, f, oT, hk _ _ nS.1.symm hz, hk _ _ nT.2.2.2.2 hTt, nT⟩
theorem ej.item {z TI TO i1 i2 l t S : Addr} {k : Nat} {xs ys : Array Value} {x y : Value} {Q : Option Value → Shared → Prop} (Z : ej s.heap z TI TO i1 i2 l t S k) (D : ZipApart z TI TO i1 i2 l t)
   (ht1 : s.heap.IsList l xs) (ht2 : s.heap.IsTuple t ys) (hx : xs[k]? = some x) (hy : ys[k]? = some y) (hS : S < s.heap.objs.size)
   (hQ : ∀ h', ej h' z TI TO i1 i2 l t S (k + 1) → IsPair h' s.heap.objs.size x y →
    (∀ c o, c ≠ z → c ≠ TO → c ≠ i1 → c ≠ i2 → s.heap.get? c = some o → h'.get? c = some o) → Q (some (.ref s.heap.objs.size)) { s with heap := h' }) :
   wpAny (model prog w) A (pyNext (.ref z)) Q E s := by
 obtain ⟨Zz, hTI, ⟨a, b, hTO⟩, h1, h2⟩ := Z
 rcases Zz with ⟨_, hz⟩ | ⟨T, f, oT, hz, hTt, nT⟩
 · exact qI D hz hTI hTO h1 h2 ht1 ht2 hx hy hS hQ
 · exact rG D hz hTt nT hTI ⟨a, b, hTO⟩ h1 h2 ht1 ht2 hx hy hQ
end
section
variable {prog : Program} {w : World} {A : Around} {s : Shared} {R : Result → Shared → Prop} {xs ys : Array Value}
theorem sJ {z TI TO i1 i2 l t S lo : Addr} (hh : A.handled = none) (D : ZipApart z TI TO i1 i2 l t) (nS : S ≠ z ∧ S ≠ TI ∧ S ≠ TO ∧ S ≠ i1 ∧ S ≠ i2) (nl : l ≠ S) (nt : t ≠ S) (below : ∀ b ∈ [z, TI, TO, i1, i2, S], b < lo) (hn : xs.size ≤ sizeLine) (hlen : xs.size = ys.size) (res : Value) {h₁ : Heap}
    (hR : ∀ h' tk acc c as, (∀ b o, b ∉ [z, TI, TO, i1, i2, S] → h₁.get? b = some o → h'.get? b = some o) → h'.get? S = some { cls := .type "list", dict := none, data := .seq acc c, slots := #[] } → as.length = xs.size → gX xs ys lo h' as →
      acc.toList = as.map Value.ref → R (.ok (.ret res)) { s with heap := h', toks := tk }) :
    ∀ (k i : Nat) (h : Heap) (tk c : Nat) (acc : Array Value) (as : List Addr), xs.size - i = k → i ≤ xs.size → ej h z TI TO i1 i2 l t S i → h.IsList l xs → h.IsTuple t ys → (∀ b o, b ∉ [z, TI, TO, i1, i2, S] → h₁.get? b = some o → h.get? b = some o) →
      h.get? S = some { cls := .type "list", dict := none, data := .seq acc c, slots := #[] } → acc.toList = as.map Value.ref → as.length = i → gX xs ys lo h as → lo ≤ h.objs.size →
      codeAny (model prog w) A (.builtin "list.extend.loop" ⟨[.ref S, .ref z, res], []⟩) R { s with heap := h, toks := tk } := by
  have inb : ∀ b, b ∉ [z, TI, TO, i1, i2, S] → b ≠ z ∧ b ≠ TO ∧ b ≠ i1 ∧ b ≠ i2 ∧ b ≠ S := fun b hb => by
    simp only [List.mem_cons, List.not_mem_nil, or_false, not_or] at hb
    exact ⟨hb.1, hb.2.2.1, hb.2.2.2.1, hb.2.2.2.2.1, hb.2.2.2.2.2⟩
  have above : ∀ b, lo ≤ b → b ≠ z ∧ b ≠ TO ∧ b ≠ i1 ∧ b ≠ i2 ∧ b ≠ S := fun b hb => by
    have f : ∀ c ∈ [z, TI, TO, i1, i2, S], b ≠ c := fun c hc => Nat.ne_of_gt (Nat.lt_of_lt_of_le (below c hc) hb)
    exact ⟨f z (by simp), f TO (by simp), f i1 (by simp), f i2 (by simp), f S (by simp)⟩
  intro k
  induction k with
  | zero =>
    intro i h tk c acc as hk hi hst hl ht hkeep hS hacc hal hG hIs
    have hin : i = xs.size := by omega
    refine codeAny_builtin PySem.F.entry_extend_loop ?_
    rw [Around.under_plainId PySem.F.plain_extend_loop _]
    show wpAny _ A.in1 (pyNext (.ref z) >>= _) _ _ _
    refine wpAny_bind (tz (s := { s with heap := h, toks := tk }) (A := A.in1) hh D hst hl (Array.getElem?_eq_none (by omega)) fun h' he => ?_)
    refine wpAny_pure (hR h' tk acc c as (fun b o h1 e => ?_) (he S _ nS.1 nS.2.2.1 nS.2.2.2.1 nS.2.2.2.2 hS) (by omega) ⟨hG.rise, hG.above, fun j a hj => ?_⟩ hacc)
    · obtain ⟨n1, n2, n3, n4, n5⟩ := inb b h1
      exact he b o n1 n2 n3 n4 (hkeep b o h1 e)
    · obtain ⟨x, y, e1, e2, e3⟩ := hG.pairs j a hj
      obtain ⟨n1, n2, n3, n4, n5⟩ := above a (hG.above a (List.mem_of_getElem? hj))
      exact ⟨x, y, e1, e2, he a _ n1 n2 n3 n4 e3⟩
  | succ k ih =>
    intro i h tk c acc as hk hi hst hl ht hkeep hS hacc hal hG hIs
    have hlt : i < xs.size := by omega
    obtain ⟨x, hx⟩ : ∃ p, xs[i]? = some p := ⟨xs[i], Array.getElem?_eq_getElem hlt⟩
    obtain ⟨y, hy⟩ : ∃ p, ys[i]? = some p := ⟨ys[i], Array.getElem?_eq_getElem (by omega)⟩
    have hsz : acc.size = i := by rw [← Array.length_toList, hacc, List.length_map, hal]
    refine codeAny_builtin PySem.F.entry_extend_loop ?_
    rw [Around.under_plainId PySem.F.plain_extend_loop _]
    show wpAny _ A.in1 (pyNext (.ref z) >>= _) _ _ _
    refine wpAny_bind (ej.item (s := { s with heap := h, toks := tk }) (S := S) hst D hl ht hx hy (Heap.lt_size hS) fun h' hst' hT hkp => ?_)
    dsimp only at hT hkp ⊢
    have hS' := hkp S _ nS.1 nS.2.2.1 nS.2.2.2.1 nS.2.2.2.2 hS
    have up : ∀ b o, b ≠ S → h'.get? b = some o → (h'.update S (Obj.mapSeq (·.push (Value.ref h.objs.size)))).get? b = some o := fun b o hb e => (Heap.get?_update_other _ _ (Ne.symm hb)).trans e
    obtain ⟨m1, m2, m3, m4, m5⟩ := above h.objs.size hIs
    have kl : ∀ o, h.get? l = some o → (h'.update S (Obj.mapSeq (·.push (Value.ref h.objs.size)))).get? l = some o := fun o e => up l o nl (hkp l o D.l1z D.l1TO D.l1i1 D.l1i2 e)
    have kt : ∀ o, h.get? t = some o → (h'.update S (Obj.mapSeq (·.push (Value.ref h.objs.size)))).get? t = some o := fun o e => up t o nt (hkp t o D.l2z D.l2TO D.l2i1 D.l2i2 e)
    show wpAny _ A.in1 (updateSeq S (·.push (Value.ref h.objs.size)) >>= _) _ _ _
    refine wpAny_bind ?_
    refine wpAny_updateSeq hS' rfl (wpAny_pure ⟨plainId_quiet PySem.F.plain_extend_loop _, ih (i + 1) _ tk _ (acc.push (Value.ref h.objs.size)) (as ++ [h.objs.size]) (by omega) hlt (hst'.keepS nS up) (hl.at kl) (ht.at kt)
      (fun b o h1 e => ?_) (Heap.get?_update_self _ hS' rfl) (by rw [Array.toList_push, hacc, List.map_append]; rfl) (by rw [List.length_append, hal]; rfl) ⟨?_, ?_, ?_⟩ ?_⟩) (by rw [hsz]; omega) (by show (acc.push (Value.ref h.objs.size)).size ≤ sizeLine + 1; rw [Array.size_push, hsz]; omega)
    · obtain ⟨n1, n2, n3, n4, n5⟩ := inb b h1
      exact up b o n5 (hkp b o n1 n2 n3 n4 (hkeep b o h1 e))
    · refine List.pairwise_append.mpr ⟨hG.rise, List.pairwise_singleton _ _, fun a ha b hb => ?_⟩
      rw [List.mem_singleton.mp hb]
      exact hG.there ha
    · intro a ha
      rcases List.mem_append.mp ha with ha | ha
      · exact hG.above a ha
      · rw [List.mem_singleton.mp ha]; exact hIs
    · intro j b hj
      rcases Nat.lt_trichotomy j as.length with h1 | h1 | h1
      · rw [List.getElem?_append_left h1] at hj
        obtain ⟨x', y', e1, e2, e3⟩ := hG.pairs j b hj
        obtain ⟨n1, n2, n3, n4, n5⟩ := above b (hG.above b (List.mem_of_getElem? hj))
        exact ⟨x', y', e1, e2, up b _ n5 (hkp b _ n1 n2 n3 n4 e3)⟩
      · subst h1
        have hb : h.objs.size = b := by simpa using hj
        subst hb
        exact ⟨x, y, by rw [hal]; exact hx, by rw [hal]; exact hy, up _ _ m5 hT⟩
      · have hnone : (as ++ [h.objs.size])[j]? = none := List.getElem?_eq_none (by rw [List.length_append, List.length_singleton]; omega)
        rw [hnone] at hj; cases hj
    · have e : (h'.update S (Obj.mapSeq (·.push (Value.ref h.objs.size)))).get? h.objs.size = _ := up _ _ m5 hT
      exact Nat.le_of_lt (Nat.lt_of_le_of_lt hIs (Heap.lt_size e))
end
end HT
namespace HT
open PySem PyProof.Rows
theorem rD : typeLookup (.type "zip") "__len__" = pure none := by rw [typeLookup_type, builtinLookup_eq_fast]; kernel_rfl
theorem qm : typeLookup (.type "zip") "__length_hint__" = pure none := by rw [typeLookup_type, builtinLookup_eq_fast]; kernel_rfl
section
variable {prog : Program} {w : World} {A : Around} {s : Shared} {R : Result → Shared → Prop} {xs ys : Array Value} {z TI TO i1 i2 l t S : Addr}
theorem nO (hh : A.handled = none) (D : ZipApart z TI TO i1 i2 l t) (nS : S ≠ z ∧ S ≠ TI ∧ S ≠ TO ∧ S ≠ i1 ∧ S ≠ i2) (nl : l ≠ S) (nt : t ≠ S) (hn : xs.size ≤ sizeLine) (hlen : xs.size = ys.size) (res : Value) (c₀ : Nat)
   (Z : ej s.heap z TI TO i1 i2 l t S 0) (hz0 : s.heap.get? z = some (gn .none (.bool false) TI TO)) (hl : s.heap.IsList l xs) (ht : s.heap.IsTuple t ys) (hS : s.heap.get? S = some { cls := .type "list", data := .seq #[] c₀ })
   (hR : ∀ h' tk acc c as, (∀ b o, b ∉ [z, TI, TO, i1, i2, S] → s.heap.get? b = some o → h'.get? b = some o) → h'.get? S = some { cls := .type "list", dict := none, data := .seq acc c, slots := #[] } → as.length = xs.size → gX xs ys s.heap.objs.size h' as →
     acc.toList = as.map Value.ref → R (.ok (.ret res)) { s with heap := h', toks := tk }) :
   wpAny (model prog w) A.in1 (Builtin.List.listExtendWith (.ref S) (.ref z) res)
     (fun fin s' => match fin with | .done f => R (.ok f) s' | .again c' => c'.quiet = true ∧ codeAny (model prog w) A c' R s') (fun e s' => R (.error e) s') s := by
 have hT : s.TypeIs (.ref z) "zip" := ⟨_, hz0, rfl⟩
 have below : ∀ b ∈ [z, TI, TO, i1, i2, S], b < s.heap.objs.size := fun b hb => by
   obtain ⟨_, hTI, ⟨x, y, hTO⟩, ⟨o1, e1, _⟩, ⟨o2, e2, _⟩⟩ := Z
   simp only [List.mem_cons, List.not_mem_nil, or_false] at hb
   rcases hb with rfl | rfl | rfl | rfl | rfl | rfl
   · exact Heap.lt_size hz0
   · exact Heap.lt_size hTI
   · exact Heap.lt_size hTO
   · exact Heap.lt_size e1
   · exact Heap.lt_size e2
   · exact Heap.lt_size hS
 have key : ∀ (h : Heap) (c₁ tk : Nat), h.objs.size = s.heap.objs.size → (∀ b o, b ≠ S → s.heap.get? b = some o → h.get? b = some o) →
     h.get? S = some { cls := .type "list", data := .seq #[] c₁ } → codeAny (model prog w) A (.builtin "list.extend.loop" ⟨[.ref S, .ref z, res], []⟩) R { s with heap := h, toks := tk } := by
   intro h c₁ tk hz hk hS₁
   refine sJ (s := s) (h₁ := s.heap) hh D nS nl nt below hn hlen res (fun h' tk' acc c as hk' hS' hl hG hacc => hR h' tk' acc c as hk' hS' hl hG hacc)
     xs.size 0 h tk c₁ #[] [] (Nat.sub_zero _) (Nat.zero_le _) (Z.keepS nS hk) (hl.at fun o e => hk l o nl e) (ht.at fun o e => hk t o nt e) (fun b o hb e => hk b o (fun q => hb (by rw [q]; simp)) e) hS₁ rfl rfl
     ⟨List.Pairwise.nil, (fun _ ha => nomatch ha), (fun j a hj => by simp at hj)⟩ (Nat.le_of_eq hz.symm)
 unfold Builtin.List.listExtendWith
 refine wpAny_bind (wpAny_typeOf (T := "zip") hT ?_)
 have h1 : Builtin.List.listSameRef (.ref S) (.ref z) = false := by simp [Builtin.List.listSameRef, nS.1]
 have h2 : (Value.type "zip" == Value.type "list") = false := by decide
 have h3 : (Value.type "zip" == Value.type "tuple") = false := by decide
 simp only [h1, h2, h3, Bool.or_false, Bool.false_eq_true, if_false]
 refine wpAny_bind (wpAny_pyIter_zip hz0 ?_)
 refine wpAny_bind (wpAny_holding ?_)
 unfold Builtin.List.listLengthHint
 refine wpAny_bind (wpAny_specialOf hT rD ?_)
 show wpAny _ A.in1 (specialOf (Value.ref z) (Str.ofString "__length_hint__") >>= _) _ _ _
 refine wpAny_bind (wpAny_specialOf hT qm ?_)
 refine wpAny_pure ?_
 refine wpAny_ite_split (fun _ => ?_) (fun _ => wpAny_pure ⟨plainId_quiet PySem.F.plain_extend_loop _, key _ c₀ _ rfl (fun b o _ e => e) hS⟩)
 refine wpAny_bind (wpAny_rule ?_)
 refine wpAny_bind ?_
 show wpAny _ _ (updateSeq S (·.push .none) >>= fun _ => updateSeq S (·.pop)) _ _ _
 refine wpAny_bind (wpAny_updateSeq hS rfl ?_)
 have hS₂ := Heap.get?_update_self (Obj.mapSeq (·.push Value.none)) hS rfl
 refine wpAny_updateSeq (hz := by seq_fits) hS₂ rfl ?_
 have hS₃ := Heap.get?_update_self (Obj.mapSeq (·.pop)) hS₂ rfl
 refine wpAny_pure ⟨plainId_quiet PySem.F.plain_extend_loop _, key _ _ _ ?_ (fun b o hb e => ?_) hS₃⟩
 · rw [Heap.size_update, Heap.size_update]
 · exact (Heap.get?_update_other _ _ (Ne.symm hb)).trans ((Heap.get?_update_other _ _ (Ne.symm hb)).trans e)
theorem rS (hh : A.handled = none) (D : ZipApart z TI TO i1 i2 l t) (nS : S ≠ z ∧ S ≠ TI ∧ S ≠ TO ∧ S ≠ i1 ∧ S ≠ i2) (nl : l ≠ S) (nt : t ≠ S) (hn : xs.size ≤ sizeLine) (hlen : xs.size = ys.size)
  (Z : ej s.heap z TI TO i1 i2 l t S 0) (hz0 : s.heap.get? z = some (gn .none (.bool false) TI TO)) (hl : s.heap.IsList l xs) (ht : s.heap.IsTuple t ys) (hS : s.heap.get? S = some { cls := .type "list", data := .seq #[] })
  (hR : ∀ h' tk acc c as, (∀ b o, b ∉ [z, TI, TO, i1, i2, S] → s.heap.get? b = some o → h'.get? b = some o) → h'.get? S = some { cls := .type "list", dict := none, data := .seq acc c, slots := #[] } → as.length = xs.size → gX xs ys s.heap.objs.size h' as →
   acc.toList = as.map Value.ref → R (.ok (.ret .none)) { s with heap := h', toks := tk }) :
  wpAny (model prog w) A.in1 (Builtin.«list.__init__» ⟨[.ref S, .ref z], []⟩)
   (fun fin s' => match fin with | .done f => R (.ok f) s' | .again c' => c'.quiet = true ∧ codeAny (model prog w) A c' R s') (fun e s' => R (.error e) s') s := by
 show wpAny _ _ (do let old ← Builtin.List.listItems (.ref S); Builtin.List.listUpdate (.ref S) (fun _ => #[]); letGo old.toList.reverse; Builtin.List.listExtendWith (.ref S) (.ref z) .none) _ _ s
 refine wpAny_bind ?_
 unfold Builtin.List.listItems
 refine wpAny_bind (wpAny_seqItems hS rfl (wpAny_pure ?_))
 show wpAny _ _ (updateSeq S (fun _ => #[]) >>= fun _ => letGo (#[] : Array Value).toList.reverse >>= fun _ => Builtin.List.listExtendWith (.ref S) (.ref z) .none) _ _ s
 refine wpAny_bind (wpAny_updateSeq hS rfl ?_)
 have hS₂ := Heap.get?_update_self (Obj.mapSeq (fun _ => (#[] : Array Value))) hS rfl
 have oth : ∀ b o, b ≠ S → s.heap.get? b = some o → (s.heap.update S (Obj.mapSeq (fun _ => (#[] : Array Value)))).get? b = some o :=
  fun b o hb e => (Heap.get?_update_other _ _ (Ne.symm hb)).trans e
 refine wpAny_bind (wpAny_letGo ?_)
 refine nO (s := { s with heap := s.heap.update S (Obj.mapSeq (fun _ => (#[] : Array Value))) }) hh D nS nl nt hn hlen .none _ (Z.keepS nS oth) (oth _ _ nS.1.symm hz0) (hl.at fun o e => oth l o nl e) (ht.at fun o e => oth t o nt e) hS₂ (fun h' tk acc c as hk hS' hl hG hacc => ?_)
 refine hR h' tk acc c as (fun b o hb e => hk b o hb (oth b o (fun q => hb (by rw [q]; simp)) e)) hS' hl ?_ hacc
 have : (s.heap.update S (Obj.mapSeq (fun _ => (#[] : Array Value)))).objs.size = s.heap.objs.size := Heap.size_update ..
 rw [← this]; exact hG
end
section
variable {prog : Program} {w : World} {A : Around} {E : Value → Shared → Prop} {s : Shared} {xs ys : Array Value} {z TI TO i1 i2 l t : Addr}
theorem rn {Q : Value → Shared → Prop} (hh : A.handled = none) (D : ZipApart z TI TO i1 i2 l t) (hn : xs.size ≤ sizeLine) (hlen : xs.size = ys.size)
   (hz0 : s.heap.get? z = some (gn .none (.bool false) TI TO)) (hTI : IsPair s.heap TI (.ref i1) (.ref i2)) (hTO : ∃ a b, IsPair s.heap TO a b) (j1 : s.heap.IsListIter i1 l 0) (j2 : s.heap.IsTupleIter i2 t 0) (hl : s.heap.IsList l xs) (ht : s.heap.IsTuple t ys)
   (hQ : ∀ h' tk acc c as, (∀ b o, b ∉ [z, TI, TO, i1, i2] → s.heap.get? b = some o → h'.get? b = some o) → h'.get? s.heap.objs.size = some { cls := .type "list", dict := none, data := .seq acc c, slots := #[] } → as.length = xs.size → gX xs ys (s.heap.objs.size + 1) h' as →
     acc.toList = as.map Value.ref → Q (.ref s.heap.objs.size) { s with heap := h', toks := tk }) :
   wpAny (model prog w) A (call (.type "list") [.ref z]) Q E s := by
 refine callType_codes (Q₁ := fun obj s₁ => obj = .ref s.heap.objs.size ∧ s₁ = { s with heap := s.heap.push { cls := .type "list", data := .seq #[] } }) PySem.F.called_list (PySem.F.typeCall_list_1 _) PySem.F.entry_list_init
   (code_list_new _ ⟨rfl, rfl⟩) fun obj s₁ h₁ => ?_
 obtain ⟨rfl, rfl⟩ := h₁
 have hS : (s.heap.push { cls := .type "list", data := .seq #[] }).get? s.heap.objs.size = some { cls := .type "list", data := .seq #[] } := Heap.get?_push_size _ rfl
 have up : ∀ b o, s.heap.get? b = some o → (s.heap.push { cls := .type "list", data := .seq #[] }).get? b = some o := fun b o e => Heap.get?_push_of_some _ e
 obtain ⟨a, b, hTO⟩ := hTO
 have nn : ∀ b o, s.heap.get? b = some o → s.heap.objs.size ≠ b := fun b o e => Nat.ne_of_gt (Heap.lt_size e)
 have nS : s.heap.objs.size ≠ z ∧ s.heap.objs.size ≠ TI ∧ s.heap.objs.size ≠ TO ∧ s.heap.objs.size ≠ i1 ∧ s.heap.objs.size ≠ i2 := by
   obtain ⟨o1, e1, _⟩ := j1
   obtain ⟨o2, e2, _⟩ := j2
   exact ⟨nn _ _ hz0, nn _ _ hTI, nn _ _ hTO, nn _ _ e1, nn _ _ e2⟩
 have nl : l ≠ s.heap.objs.size := by obtain ⟨o, e, _⟩ := hl; exact (nn _ _ e).symm
 have nt : t ≠ s.heap.objs.size := by obtain ⟨o, e, _⟩ := ht; exact (nn _ _ e).symm
 refine ⟨⟨_, hS, rfl⟩, PySem.F.args_list_init_2 _ _, rS (s := { s with heap := s.heap.push { cls := .type "list", data := .seq #[] } }) (A := A.in1) hh D nS nl nt hn hlen
   ⟨.inl ⟨rfl, up _ _ hz0⟩, up _ _ hTI, ⟨a, b, up _ _ hTO⟩, j1.at fun o e => up _ o e, j2.at fun o e => up _ o e⟩ (up _ _ hz0) (hl.at fun o e => up _ o e) (ht.at fun o e => up _ o e) hS (fun h' tk acc c as hk hS' hl hG hacc => ?_)⟩
 refine ⟨rfl, hQ h' tk acc c as (fun b o hb e => hk b o (fun q => ?_) (up b o e)) hS' hl ?_ hacc⟩
 · simp only [List.mem_cons, List.not_mem_nil, or_false] at q hb
   rcases q with q | q | q | q | q | q
   · exact hb (.inl q)
   · exact hb (.inr (.inl q))
   · exact hb (.inr (.inr (.inl q)))
   · exact hb (.inr (.inr (.inr (.inl q))))
   · exact hb (.inr (.inr (.inr (.inr q))))
   · exact nn b o e q.symm
 · have : (s.heap.push { cls := .type "list", data := .seq #[] }).objs.size = s.heap.objs.size + 1 := Heap.size_push ..
   rw [← this]; exact hG
abbrev Aq (l : Addr) : Obj := { cls := .type "list_iterator", data := .fields #[.ref l, .int 0 0] }
abbrev zm1 (h : Heap) (t1 : Addr) : Heap := h.push (Aq t1)
abbrev zm2 (h : Heap) (t1 t2 : Addr) : Heap := (zm1 h t1).push (itO t2)
abbrev zm3 (h : Heap) (t1 t2 : Addr) : Heap := (zm2 h t1 t2).push { cls := .type "tuple", data := .seq #[.ref h.objs.size, .ref (zm1 h t1).objs.size] }
abbrev zm4 (h : Heap) (t1 t2 : Addr) : Heap := (zm3 h t1 t2).push { cls := .type "tuple", data := .seq #[.none, .none] }
abbrev zm5 (h : Heap) (t1 t2 : Addr) : Heap := (zm4 h t1 t2).push { cls := .type "zip", data := .fields #[.none, .bool false, .bool false, .ref (zm2 h t1 t2).objs.size, .ref (zm3 h t1 t2).objs.size] }
theorem tQ (t1 t2 : Addr) (xs ys : Array Value) :
  Meets (Builtin.«zip.__new__» ⟨[.type "zip", .ref t1, .ref t2], []⟩) (fun _ R s => s.heap.IsList t1 xs ∧ s.heap.IsTuple t2 ys ∧ R (.ok (.ret (.ref (zm4 s.heap t1 t2).objs.size))) { s with heap := zm5 s.heap t1 t2 }) :=
 .of_wp fun prog w A R s h => by
  obtain ⟨hp, g, d, tk, os⟩ := s; obtain ⟨hl1, hl2, h⟩ := h
  have hsub := sub_zip
  have hL1 : Heap.IsList (Shared.heap ⟨hp, g, d, tk, os⟩) t1 xs := hl1
  have hL2 : Heap.IsTuple (Shared.heap ⟨hp.push (Aq t1), g, d, tk, os⟩) t2 ys := hl2.at fun o e => Heap.get?_push_of_some _ e
  wp_walk using wpAny_pyIter_list hL1, wpAny_pyIter_tuple hL2
  exact ⟨_, rfl, h⟩
theorem sP {t1 t2 : Addr} {Q : Value → Shared → Prop} (hl1 : s.heap.IsList t1 xs) (hl2 : s.heap.IsTuple t2 ys)
  (h : ∀ h', h'.get? (s.heap.objs.size + 4) = some (gn .none (.bool false) (s.heap.objs.size + 2) (s.heap.objs.size + 3)) → IsPair h' (s.heap.objs.size + 2) (.ref s.heap.objs.size) (.ref (s.heap.objs.size + 1)) → (∃ a b, IsPair h' (s.heap.objs.size + 3) a b) →
   h'.IsListIter s.heap.objs.size t1 0 → h'.IsTupleIter (s.heap.objs.size + 1) t2 0 → h'.objs.size = s.heap.objs.size + 5 → (∀ c o, s.heap.get? c = some o → h'.get? c = some o) → Q (.ref (s.heap.objs.size + 4)) { s with heap := h' }) :
  wpAny (model prog w) A (call (.type "zip") [.ref t1, .ref t2]) Q E s := by
 refine callType_new F.called_zip (by decide) (F.typeCall_zip_2 _ _) (F.newCall_zip_2 _ _) (fun obj => F.args_object_init_3 obj _ _) F.entry_zip_new (tQ t1 t2 xs ys) ⟨hl1, hl2, ?_⟩
 have z1 : (zm1 s.heap t1).objs.size = s.heap.objs.size + 1 := Heap.size_push ..
 have z2 : (zm2 s.heap t1 t2).objs.size = s.heap.objs.size + 2 := by rw [Heap.size_push, z1]
 have z3 : (zm3 s.heap t1 t2).objs.size = s.heap.objs.size + 3 := by rw [Heap.size_push, z2]
 have z4 : (zm4 s.heap t1 t2).objs.size = s.heap.objs.size + 4 := by rw [Heap.size_push, z3]
 have z5 : (zm5 s.heap t1 t2).objs.size = s.heap.objs.size + 5 := by rw [Heap.size_push, z4]
 have g5 : (zm5 s.heap t1 t2).get? (zm4 s.heap t1 t2).objs.size = some _ := Heap.get?_push_size _ rfl
 have g4 : (zm5 s.heap t1 t2).get? (zm3 s.heap t1 t2).objs.size = some _ := Heap.get?_push_of_some _ (Heap.get?_push_size _ rfl)
 have g3 : (zm5 s.heap t1 t2).get? (zm2 s.heap t1 t2).objs.size = some _ := Heap.get?_push_of_some _ (Heap.get?_push_of_some _ (Heap.get?_push_size _ rfl))
 have g2 : (zm5 s.heap t1 t2).get? (zm1 s.heap t1).objs.size = some _ := Heap.get?_push_of_some _ (Heap.get?_push_of_some _ (Heap.get?_push_of_some _ (Heap.get?_push_size _ rfl)))
 have g1 : (zm5 s.heap t1 t2).get? s.heap.objs.size = some _ := Heap.get?_push_of_some _ (Heap.get?_push_of_some _ (Heap.get?_push_of_some _ (Heap.get?_push_of_some _ (Heap.get?_push_size _ rfl))))
 show _ ∧ _
 rw [z2, z3, z4] at g5
 rw [z1, z2] at g3
 rw [z3] at g4
 rw [z1] at g2
 rw [z4]
 exact ⟨⟨_, g5, rfl⟩, h _ g5 g3 ⟨_, _, g4⟩ ⟨_, g1, rfl, rfl⟩ ⟨_, g2, rfl, rfl⟩ z5 fun c o x => Heap.get?_push_of_some _ (Heap.get?_push_of_some _ (Heap.get?_push_of_some _ (Heap.get?_push_of_some _ (Heap.get?_push_of_some _ x))))⟩
end
end HT
namespace L2
open PySem PySem.Spec PyProof.Rows
section
variable {X : Cx} {pins : List (Addr × Obj)} {σ : St} {H : Hp} {s : Shared} {h' : Heap}
theorem nR {tk : Nat} {us vs : List V} {xs ys : List Value} {lo : Addr} {as : List Addr} (I : Inv X pins σ H s) (k : ∀ b o, s.heap.get? b = some o → h'.get? b = some o) (hlo : s.heap.objs.size ≤ lo) (r1 : aA us xs) (r2 : aA vs ys) (G : HT.gX xs.toArray ys.toArray lo h' as) :
    ∀ n, n ≤ as.length → ∃ H', au H H' ∧ (∀ j a x y, j < n → as[j]? = some a → us[j]? = some x → vs[j]? = some y → H' a = some (.tup [x, y])) ∧ (∀ b, H b = none → b ∉ as.take n → H' b = none) ∧ Inv X pins σ H' { s with heap := h', toks := tk } := by
  intro n
  induction n with
  | zero => intro _; exact ⟨H, au.rfl', fun j a x y h => absurd h (by omega), fun b e _ => e, I.kept (t' := tk) k⟩
  | succ n ih =>
    intro hn
    obtain ⟨H1, S1, t1, f1, I1⟩ := ih (by omega)
    have hlt : n < as.length := hn
    have ea : as[n]? = some as[n] := List.getElem?_eq_getElem hlt
    obtain ⟨x, y, e1, e2, e3⟩ := G.pairs n _ ea
    have hxl : n < xs.length := by have := (Array.getElem?_eq_some_iff.mp e1).1; simpa using this
    have hyl : n < ys.length := by have := (Array.getElem?_eq_some_iff.mp e2).1; simpa using this
    obtain ⟨u, hu⟩ : ∃ u, us[n]? = some u := ⟨_, List.getElem?_eq_getElem (by rw [r1.length]; exact hxl)⟩
    obtain ⟨v, hv⟩ : ∃ v, vs[n]? = some v := ⟨_, List.getElem?_eq_getElem (by rw [r2.length]; exact hyl)⟩
    obtain ⟨x', gx, rx⟩ := r1.get hu
    obtain ⟨y', gy, ry⟩ := r2.get hv
    have ex : x' = x := by have : xs[n]? = some x := by simpa using e1
                           exact Option.some.inj (gx.symm.trans this)
    have ey : y' = y := by have : ys[n]? = some y := by simpa using e2
                           exact Option.some.inj (gy.symm.trans this)
    subst ex ey
    have ge : s.heap.objs.size ≤ as[n] := Nat.le_trans hlo (G.above _ (List.mem_of_getElem? ea))
    have nin : as[n] ∉ as.take n := fun hm => by
      obtain ⟨j, hj⟩ := List.mem_iff_getElem?.mp hm
      have hjn : j < n := by have := (List.getElem?_eq_some_iff.mp hj).1; rw [List.length_take] at this; omega
      rw [List.getElem?_take, if_pos hjn] at hj
      have := List.pairwise_iff_getElem.mp G.rise j n (by omega) hlt hjn
      rw [(List.getElem?_eq_some_iff.mp hj).2] at this
      exact Nat.lt_irrefl _ this
    have hfree : H1 as[n] = none := f1 _ (I.hok.fresh ge) nin
    have I2 : Inv X pins σ (upd H1 as[n] (.tup [u, v])) { s with heap := h', toks := tk } := Inv.track2 I I1 ge hfree ⟨by show 2 ≤ sizeLine; decide, [x', y'], .cons rx (.cons ry .nil), ⟨_, e3, rfl, _, rfl⟩⟩
    refine ⟨_, S1.trans (au.upd hfree), fun j a x y hj ha hx hy => ?_, fun b e hb => ?_, I2⟩
    · rcases Nat.lt_or_eq_of_le (Nat.le_of_lt_succ hj) with h | h
      · exact au.upd hfree _ _ (t1 j a x y h ha hx hy)
      · subst h
        rw [ea] at ha; cases ha
        rw [hu] at hx; cases hx
        rw [hv] at hy; cases hy
        exact am
    · have nb : b ≠ as[n] := fun q => hb (by rw [q]; exact List.mem_iff_getElem?.mpr ⟨n, by rw [List.getElem?_take, if_pos (Nat.lt_succ_self _)]; exact ea⟩)
      rw [aj nb]
      exact f1 b e fun q => hb (by rw [List.take_succ]; exact List.mem_append_left _ q)
def mX (K : W.Frag) : List V → Hp → VK → Prop := fun xs H Q => ∃ c d us vs, xs = [.ref c, .ref d] ∧ SqL K H c us ∧ SqT K H d vs ∧ us.length = vs.length ∧
 ∀ (l : Addr) (ps : List Addr) (H' : Hp), H l = none → au H H' → ps.length = us.length → (∀ (j : Nat) (p : Addr) (x y : V), ps[j]? = some p → us[j]? = some x → vs[j]? = some y → H' p = some (.tup [x, y])) → H' l = some (.lst (ps.map V.ref)) → Q (.ref l) H'
theorem tF {Q : VK} {c d : Addr} {us vs : List V} (hc : X.calm = true) (I : Inv X pins σ H s) (hx : SqL X.K H c us) (hy : SqT X.K H d vs) (hl : us.length = vs.length)
  (q : ∀ (l : Addr) (ps : List Addr) (H' : Hp), H l = none → au H H' → ps.length = us.length → (∀ (j : Nat) (p : Addr) (x y : V), ps[j]? = some p → us[j]? = some x → vs[j]? = some y → H' p = some (.tup [x, y])) → H' l = some (.lst (ps.map V.ref)) → Q (.ref l) H') :
  wpAny (model X.prog X.w) X.A (call (.type "zip") [.ref c, .ref d]) (fun u s2 => wpAny (model X.prog X.w) X.A (call (.type "list") [u]) (EP X pins σ Q) X.xe s2) X.xe s := by
 obtain ⟨its, r1, p1, hz1⟩ := I.list hx
 obtain ⟨its2, r2, p2, _⟩ := I.tuple hy
 have l1 := r1.length
 have l2 := r2.length
 have hL : s.heap.IsList c its.toArray := p1.isList
 have hT : s.heap.IsTuple d its2.toArray := p2
 have lt1 : c < s.heap.objs.size := by obtain ⟨o, e, _⟩ := hL; exact Heap.lt_size e
 have lt2 : d < s.heap.objs.size := by obtain ⟨o, e, _⟩ := hT; exact Heap.lt_size e
 refine HT.sP hL hT fun h1 y1 y2 y3 y4 y5 hsz hk => ?_
 refine HT.rn (s := { s with heap := h1 }) (I.ok.hd hc) (zipApart_new lt1 lt2) (by rw [List.size_toArray]; omega) (by rw [List.size_toArray, List.size_toArray]; omega) y1 y2 y3 y4 y5 (hL.at fun o e => hk _ o e) (hT.at fun o e => hk _ o e) fun h2 tk acc cc as hk2 hS hla hG hacc => ?_
 have hsz1 : ({ s with heap := h1 } : Shared).heap.objs.size = s.heap.objs.size + 5 := hsz
 rw [hsz1] at hS hG ⊢
 have kk : ∀ b o, s.heap.get? b = some o → h2.get? b = some o := fun b o e => hk2 b o (fun z => by
  have hb := Heap.lt_size e
  simp only [List.mem_cons, List.not_mem_nil, or_false] at z
  rcases z with rfl | rfl | rfl | rfl | rfl <;> exact absurd hb (Nat.not_lt.mpr (by first | exact Nat.le_refl _ | exact Nat.le_add_right _ _))) (hk b o e)
 obtain ⟨H', S', tr, fr, I'⟩ := nR (tk := tk) I kk (Nat.le_trans (Nat.le_add_right _ 5) (Nat.le_succ _)) r1 r2 hG as.length (Nat.le_refl _)
 have hSfree : H' (s.heap.objs.size + 5) = none := fr _ (I.hok.fresh (Nat.le_add_right _ _)) fun hm => by
  have := hG.above _ (List.mem_of_mem_take hm)
  exact absurd this (Nat.not_le.mpr (Nat.lt_succ_self _))
 have rr : aA (as.map V.ref) (as.map Value.ref) := by
  clear q tr fr hla hG hacc
  induction as with
  | nil => exact .nil
  | cons a r ih => exact .cons rfl ih
 have hla' : as.length = us.length := by rw [hla, List.size_toArray]; omega
 have I2 : Inv X pins σ (upd H' (s.heap.objs.size + 5) (.lst (as.map V.ref))) { s with heap := h2, toks := tk } := Inv.track2 I I' (Nat.le_add_right _ _) hSfree ⟨by rw [List.length_map, hla']; exact hz1, as.map Value.ref, cc, rr, by rw [hS, ← hacc]⟩
 exact ⟨.ref (s.heap.objs.size + 5), _, I2, rfl, q _ as _ (I.hok.fresh (Nat.le_add_right _ _)) (S'.trans (au.upd hSfree)) hla' (fun j p x y hj hx hy => au.upd hSfree _ _ (tr j p x y (List.getElem?_eq_some_iff.mp hj).1 hj hx hy)) am⟩
end
section
variable {X : Cx} {a b : Expr} {t : TA} {p1 p2 pos1 pos2 : Pos}
theorem sA (hm1 : X.mg "list" = none) (hm2 : X.mg "zip" = none) (hc : X.calm = true) (ha : QA X [a, b] t) (hg1 : Gl X "list" := by rfl) (hg2 : Gl X "zip" := by rfl) (hs : aW [a, b] = true := by rfl) :
  QE X (.Call (.Name "list" p1) [.Call (.Name "zip" p2) [a, b] [] pos2] [] pos1) (tCB (mX X.K) t) := ⟨fun pins s σ H Q I h => by
 have h' : (bv a && aW [b]) = true := hs
 refine wpAny_Call_Name_kw (dw I hg1 hm1 xz ?_ (by decide) (by decide))
 refine PyProof.Rows.callWith_type1 ?_ rfl rfl
 show wpAny _ _ (spliced ((false, eval (.Call (.Name "zip" p2) [a, b] [] pos2) X.env) :: backTo pos1 (starEach [] X.env))) _ _ s
 refine Calls.spliced_cons ?_
 refine wpAny_Call_Name_kw (dw I hg2 hm2 rE ?_ (by decide) (by decide))
 refine PyProof.Rows.callWith_type1 (thn (ha.out pos2 pins s σ H _ I h) fun us s1 ⟨vs, H1, I1, r1, q1⟩ => ?_)
  (aV (Bool.and_eq_true_iff.mp h').1 [b] X.env) (bo (Bool.and_eq_true_iff.mp h').2)
 obtain ⟨c, d, xs, ys, rfl, hx, hy, hl, q⟩ := q1
 obtain ⟨u, w', rfl, ru, rw'⟩ := jM r1
 cases ru
 cases rw'
 refine wpAny_mono (tF hc I1 hx hy hl q) (fun u s2 z => ?_) fun _ _ z => z
 exact Calls.spliced_nil z⟩
end
def uL (K : W.Frag) (a : Addr) (n : Nat) : It where
 go := fun i H => i < n ∧ ∃ xs, SqL K H a xs ∧ xs.length = n
 yld := fun i H x H' => H' = H ∧ ∀ xs, SqL K H a xs → xs[n - 1 - i]? = some x
 stop := fun i _ => n ≤ i
theorem rz {P : Program} {w : World} {K : W.Frag} {tg : Expr} (a it : Addr) (n : Nat) : fM P w K tg (uL K a n) [it] it (fun i h => i ≤ n ∧ h.IsRevIter it a ((n : Int) - 1 - i)) where
 mem := by simp
 obj := fun i h st b hb => by
  have e : b = it := by simpa using hb
  subst e
  obtain ⟨_, o, e, c, d⟩ := st
  exact ⟨o, e, fun v z => by rw [d] at z; cases z⟩
 keep := fun i h h' st k => ⟨st.1, st.2.at fun o e => k it (by simp) o e⟩
 item := by
  intro X hP hw hK hc i pins s σ H E I hf st hg
  subst hP hw hK
  obtain ⟨hi, xs, hq, hl⟩ := hg
  obtain ⟨its, rv, p, hz⟩ := I.list hq
  obtain ⟨x, hx⟩ : ∃ x, xs[n - 1 - i]? = some x := ⟨_, List.getElem?_eq_getElem (by omega)⟩
  obtain ⟨u, hu, ru⟩ := rv.get hx
  obtain ⟨f0, f1, f2, f3, f4, f5⟩ := hf it (by simp)
  have st2 := st.2
  rw [show (n : Int) - 1 - i = ((n - 1 - i : Nat) : Int) by omega] at st2
  refine wpAny_pyNext_rev_item st2 p.isList (x := u) (by simpa using hu) fun h' st' sb => ?_
  have I1 : Inv X pins σ H { s with heap := h' } := I.turned (t' := s.toks) (fun b o hb e => (sb.2 b hb).trans e) f0 f1 f3 f4 f5
  obtain ⟨o, e1, c, d⟩ := id st'
  refine ⟨u, rfl, iU (s := { s with heap := h' }) e1 c d (by decide) ⟨x, H, I1, ru, ⟨rfl, fun ys hy => by rw [I.list_inj hy hq]; exact hx⟩, ⟨hi, ?_⟩, fun b hb => (hf b hb).1⟩⟩
  rw [show (n : Int) - 1 - ((i + 1 : Nat) : Int) = ((n - 1 - i : Nat) : Int) - 1 by omega]; exact st'
 done := by
  intro X hP hw hK hc i pins s σ H E I hf st hg
  subst hP hw hK
  obtain ⟨f0, f1, f2, f3, f4, f5⟩ := hf it (by simp)
  have hg : n ≤ i := hg
  have hi := st.1
  have st2 := st.2
  rw [show (n : Int) - 1 - i = -1 by omega] at st2
  exact wpAny_pyNext_rev_end (I.ok.hd hc) st2 fun h' eb => ⟨rfl, I.turned (t' := s.toks) (fun b o hb e => eb b o hb e) f0 f1 f3 f4 f5⟩
 self := fun _ _ _ _ _ st h => wpAny_pyIter_revIter st.2 h
theorem cG.revL {K : W.Frag} {a : Addr} {xs : List V} (d : V) : cG (uL K a xs.length) xs.length (fun i => xs.reverse.getD i d) (fun H => SqL K H a xs) where
 go := fun i H hi h => ⟨hi, xs, h, rfl⟩
 yld := fun i H x H' hi h y => ⟨y.1, by rw [List.getD_eq_getElem?_getD, List.getElem?_reverse hi, y.2 xs h]; rfl⟩
 stop := fun H h => Nat.le_refl _
section
variable {X : Cx} {a : Expr} {t : TA} {p pos : Pos} {tg : Expr}
def vW (K : W.Frag) (t : TA) : TI := fun σ H R => t σ H fun vs H1 => ∃ c xs, vs = [.ref c] ∧ ((SqL K H1 c xs ∧ R (uL K c xs.length) H1) ∨ (SqT K H1 c xs ∧ R (Aj K c xs) H1))
theorem yI (hm : X.mg "reversed" = none) (ha : QA X [a] t) (hg : Gl X "reversed" := by rfl) (hs : aW [a] = true := by rfl) : QI X tg (.Call (.Name "reversed" p) [a] [] pos) (vW X.K t) := ⟨fun pins s σ H R I h => by
 have h' : (bv a && aW []) = true := hs
 refine wpAny_Call_Name_kw (dw I hg hm jd ?_ (by decide) (by decide))
 refine PyProof.Rows.callWith_type1 (thn (ha.out pos pins s σ H _ I h) fun us s1 ⟨vs, H1, I1, r1, q1⟩ => ?_)
   (aV (Bool.and_eq_true_iff.mp h').1 [] X.env) (bo (Bool.and_eq_true_iff.mp h').2)
 obtain ⟨c, xs, rfl, q1⟩ := q1
 obtain ⟨u, rfl, ru⟩ := eX r1
 cases ru
 rcases q1 with ⟨hq, q⟩ | ⟨hq, q⟩
 · obtain ⟨its, rv, p, hz⟩ := I1.list hq
   have hl := rv.length
   refine call_reversed_list p.isList ?_
   have st : (s1.heap.push (revObj c ((its.toArray.size : Int) - 1))).IsRevIter s1.heap.objs.size c ((xs.length : Int) - 1 - ((0 : Nat) : Int)) := by
    refine ⟨_, Heap.get?_push_size _ rfl, rfl, ?_⟩
    have e : (xs.length : Int) - 1 - ((0 : Nat) : Int) = (its.toArray.size : Int) - 1 := by rw [List.size_toArray]; omega
    rw [e]; rfl
   refine wpAny_pyIter_revIter (s := { s1 with heap := s1.heap.push (revObj c ((its.toArray.size : Int) - 1)) }) st ?_
   refine ⟨s1.heap.objs.size, [s1.heap.objs.size], _, _, H1, rfl, I1.kept (t' := s1.toks) fun b o e => Heap.get?_push_of_some _ e, rz c _ xs.length, ⟨Nat.zero_le _, st⟩, fun b hb => ?_, q⟩
   have e : b = s1.heap.objs.size := by simpa using hb
   subst e
   exact I1.fpOk (Nat.le_refl _) (I1.hok.fresh (Nat.le_refl _))
 · obtain ⟨its, rv, p, hz⟩ := I1.tuple hq
   have hl := rv.length
   refine HT.dW (show IsTup s1.heap c its.toArray from p) (by rw [List.size_toArray]; rw [sizeLine_eq] at hz; omega) ?_
   have st : HT.dR (s1.heap.push (HT.jg c ((its.toArray.size : Int) - 1))) s1.heap.objs.size c ((xs.length : Int) - 1 - ((0 : Nat) : Int)) := by
    show (s1.heap.push _).get? _ = _
    have e : (xs.length : Int) - 1 - ((0 : Nat) : Int) = (its.toArray.size : Int) - 1 := by rw [List.size_toArray]; omega
    rw [e]
    exact Heap.get?_push_size _ rfl
   refine HT.jw (s := { s1 with heap := s1.heap.push (HT.jg c ((its.toArray.size : Int) - 1)), toks := s1.toks + 1 + 1 }) st ?_
   refine ⟨s1.heap.objs.size, [s1.heap.objs.size], _, _, H1, rfl, I1.kept (t' := s1.toks + 1 + 1) fun b o e => Heap.get?_push_of_some _ e, tT c _ xs, ⟨Nat.zero_le _, st⟩, fun b hb => ?_, q⟩
   have e : b = s1.heap.objs.size := by simpa using hb
   subst e
   exact I1.fpOk (Nat.le_refl _) (I1.hok.fresh (Nat.le_refl _))⟩
end
end L2
namespace HT
open PySem PySem.W PyProof.Rows
abbrev je (C t : Addr) (d : Option Addr) : Obj := { cls := .ref C, dict := d, data := .fields #[.ref t, .none, .none, .none, .bool false, .none] }
abbrev fK (h : Heap) (C : Addr) (us : List Value) : Heap := (h.push { cls := .type "tuple", data := .seq us.toArray }).push (je C h.objs.size none)
section
variable {prog : Program} {w : World} {A : Around} {K : Frag} {C f : Addr} {R : Result → Shared → Prop} {h : Heap} {g : Array GenState} {d : Drawn} {t : Nat} {os : OsState}
theorem vA {us : List Value} (X : K.In h) (hC : L2.cK K C) (hi : findIn K (.ref C) "__init__" = some (some (.ref f))) (hf : typeIn K (.ref f) = some (.type "function")) (hus : us.length ≤ sizeLine)
  (hq : codeAny (model prog w) (A.under (.builtin "type.__call__" ⟨.ref C :: us, []⟩)) (.call (.ref f) ⟨.ref (h.objs.size + 1) :: us, []⟩) (InitBack (h.objs.size + 1) R) ⟨fK h C us, g, d, t, os⟩) :
  codeAny (model prog w) A (.call (.ref C) ⟨us, []⟩) R ⟨h, g, d, t, os⟩ := by
 obtain ⟨bm, N, nm, qn, bs, hdct, sn, sub, ab, col, dd, k0, k1, k2, k3, k5, mN, oC, hN, _, T, _⟩ := L2.fN X hC
 have f1 := tc_lookup
 have f2 := tc_bind (.ref C)
 have hT : (⟨h, g, d, t, os⟩ : Shared).TypeIs (.ref C) "type" := ⟨_, oC, rfl⟩
 have FB := F.excBase_ValueError
 have hBn : (L2.veM).contains (.type "ValueError") = true := by decide +kernel
 refine codeAny_of_tree ?_
 show wpAny _ _ (callAny (.ref C) _) _ _ _
 repeat (any_goals (first | assumption | with_reducible refine wpAny_loadPart_at oC ?_ | wp_step))
 refine ⟨rfl, ?_⟩
 refine codeAny_call_builtin_at (Code.quiet_builtin _ (by decide +kernel)) entry_typeCall (wpAny_check_type_call_sub oC ?_)
 repeat (first | with_reducible refine wpAny_loadPart_at oC ?_ | with_reducible refine wpAny_madeBy_exc oC ?_ | wp_step)
 refine codeAny_call_builtin_code (Code.quiet_builtin _ FB.quiet) (wpAny_check_new_subU FB hBn T oC ?_)
 refine codeAny_exc_new_subU FB hBn FB T oC ?_ hus
 show wpAny _ _ _ _ _ _
 have k : ∀ b o, h.get? b = some o → (fK h C us).get? b = some o := fun b o e => Heap.get?_push_of_some _ (Heap.get?_push_of_some _ e)
 have hx : (fK h C us).get? (h.objs.size + 1) = some (je C h.objs.size none) := by heap_get
 have oC1 := k _ _ oC
 have hcC : (Value.ref C :: bm).contains (.ref C) = true := by simp
 have t1 : Looks (model prog w) (fK h C us) (typeOf (.ref (h.objs.size + 1))) (.ref C) := (Looks.ld hx).andThen .now
 have i1 := (looks_findIn (M := model prog w) X hi).keeps k
 have b1 := (bind_fn (M := model prog w) X (.ref (h.objs.size + 1)) hf).keeps k
 unfold isInstance
 repeat (first | with_reducible refine wpAny_loadPart_at hx ?_ | (with_reducible refine wpAny_isSubtype_exc oC1 ?_; rw [hcC]) | wp_step)
 show wpAny _ _ (isSubtype (.ref C) (.ref C)) _ _ ⟨fK h C us, g, d, t, os⟩
 refine wpAny_isSubtype_exc oC1 ?_
 rw [hcC, if_neg (by decide)]
 unfold callSpecial? specialOf
 repeat (first | with_reducible refine wpAny_call ?_ | lk)
 refine codeAny_mono hq fun r s' z => ?_
 rcases r with e | (v | _ | _ | _) <;> first | exact z | exact z.elim | skip
 obtain ⟨rfl, z⟩ := z
 exact wpAny_pure (wpAny_pure z)
end
end HT
namespace HT
open PySem PySem.W PyProof.Rows
open Builtin Builtin.ObjectAttr
theorem nN (self : Value) {h : Heap} {bm : List Value} (T : OwnTail h L2.veM bm) : refuseLoop self "__setattr__" bm = pure () := by
 induction T with
 | base => exact PySem.F.store_ValueError.passes self
 | own _ _ _ _ ih => rw [refuseLoop_ref]; exact ih
structure eM (K : Frag) (C : Addr) (name : Str) : Prop where
 ok : L2.cK K C
 sa : findIn K (.ref C) "__setattr__" = some (some (.builtin "object.__setattr__"))
 eg : L2.iF K C
 no : findIn K (.ref C) name = some none
 hd : hasDictIn K C = true
section
variable {prog : Program} {w : World} {A : Around} {E : Value → Shared → Prop} {s : Shared} {K : Frag} {x C : Addr} {name : Str} {v : Value}
theorem nY {ox : Obj} {od : Option Obj} {tk : Tok} {R : Result → Shared → Prop} (X : K.In s.heap) (I : InstAt s.heap x ox C od) (G : eM K C name)
  (h : wpAny (model prog w) A.in1 (storeInOwnDict (.ref x) (.ref C) (.str name tk) name v false)
   (fun fin s' => match fin with | .done f => R (.ok f) s' | .again c' => c'.quiet = true ∧ codeAny (model prog w) A c' R s') (fun e s' => R (.error e) s') s) :
  codeAny (model prog w) A (.call (.builtin "object.__setattr__") ⟨[.ref x, .str name tk, v], []⟩) R s := by
 have SF := PySem.F.store_object
 obtain ⟨bm, N, nm, qn, bs, hdct, sn, sub, ab, col, dd, k0, k1, k2, k3, k5, mN, oC, hN, _, T, _⟩ := L2.fN X G.ok
 have hm : Looks (model prog w) s.heap (mroOf (.ref C)) (.ref C :: bm) := ((Looks.ld (part := none) oC).andThen .now).andThen .now
 have hsub : Looks (model prog w) s.heap (isSubtype (.ref C) (.type "object")) true := fun A' Q' E' s' k q => by
  obtain ⟨hh, g, d, t, os⟩ := s'
  refine wpAny_isSubtype_exc (k _ _ oC) ?_
  rw [List.contains_cons, T.hasType (X := "object") (b := true) (by decide +kernel), Bool.or_true]; exact q
 have hsub' : Looks (model prog w) s.heap (isInstance (.ref x) (.type "object")) true := I.type.andThen hsub
 refine codeAny_call_builtin SF.slot.plain SF.entry (@check_slot (model prog w) _ _ s "object.__setattr__" "object" "__setattr__" (.ref x) [.str name tk, v] [] _ SF.kind SF.split hsub' (SF.args (.ref x) (.str name tk) v) ?_)
 rw [osa_eq, refuse_eq]
 refine wpAny_bind (wpAny_bind (I.type.here (wpAny_bind (hm.here ?_))))
 rw [refuseLoop_ref, nN _ T]
 exact wpAny_pure (wpAny_bind (I.type.here (wpAny_bind ((looks_findIn X G.no).here (wpAny_bind (wpAny_pure h))))))
theorem xi {ox : Obj} {dx : Addr} {mA : Str → Option Value} {ns : List Str} {Q : Unit → Shared → Prop} (X : K.In s.heap) (hx : s.heap.get? x = some ox) (hc : ox.cls = .ref C) (hdx : ox.dict = some dx) (hf : ∃ vs, ox.data = .fields vs) (hn : s.heap.Ns1 dx mA) (ne : dx ≠ x) (G : eM K C name)
  (hw : Within mA ns) (hsz : ns.length ≤ sizeLine) (h : ∀ h' t', h'.Ns1 dx (fun y => if y = name then some v else mA y) → Heap.SameBut dx s.heap h' → Q () { s with heap := h', toks := t' }) : wpAny (model prog w) A (setAttr (.ref x) name v) Q E s := by
 obtain ⟨vs, hvs⟩ := hf
 obtain ⟨oc, od, odt, osl⟩ := ox
 dsimp only at hc hdx hvs
 subst hc hdx hvs
 obtain ⟨oD0, esD0, epD0, hoD0, _⟩ := id hn
 have J : InstAt s.heap x _ C (some oD0) := ⟨hx, rfl, rfl, hoD0⟩
 refine set_plain X J G.sa (nY (s := { s with toks := s.toks + 1 }) X J G ?_)
 obtain ⟨cd, hcc, hd'⟩ := any_some G.hd
 refine wpAny_bind (wpAny_pure (wpAny_bind (wpAny_bind (wpAny_loadPart hx (wpAny_bind (Looks.here (s := { s with toks := s.toks + 1 }) (looks_clsIn X hcc) ?_))))))
 rw [hd']
 refine wpAny_pure (a := some dx) (wpAny_bind (wpAny_pure (wpAny_bind ?_)))
 refine wpAny_nsSet1 (s := { s with toks := s.toks + 1 }) hn fun h' hn2 hs2 => ?_
 obtain ⟨oD, esD, epD, hoD, hdD, hcD⟩ := hn2.count (Within.cons name v hw)
 refine wpAny_bind (wpAny_lookBehind hoD (by rw [hdD]; exact pastItsLine_dict (Nat.le_trans hcD (by rw [List.length_cons]; omega))) ?_)
 exact wpAny_pure (h _ _ hn2 hs2)
theorem vB {ox : Obj} {Q : Unit → Shared → Prop} (X : K.In s.heap) (hx : s.heap.get? x = some ox) (hc : ox.cls = .ref C) (hdx : ox.dict = none) (hf : ∃ vs, ox.data = .fields vs) (G : eM K C name)
  (h : ∀ h' t', h'.get? x = some { ox with dict := some s.heap.objs.size } → h'.Ns1 s.heap.objs.size (fun y => if y = name then some v else none) → (∀ b o, b ≠ x → s.heap.get? b = some o → h'.get? b = some o) → Q () { s with heap := h', toks := t' }) :
  wpAny (model prog w) A (setAttr (.ref x) name v) Q E s := by
 obtain ⟨vs, hvs⟩ := hf
 obtain ⟨oc, od, odt, osl⟩ := ox
 dsimp only at hc hdx hvs
 subst hc hdx hvs
 have J : InstAt s.heap x _ C none := ⟨hx, rfl, rfl, trivial⟩
 refine set_plain X J G.sa (nY (s := { s with toks := s.toks + 1 }) X J G ?_)
 obtain ⟨cd, hcc, hd'⟩ := any_some G.hd
 refine wpAny_bind (wpAny_pure (wpAny_bind (wpAny_bind (wpAny_loadPart hx (wpAny_bind (Looks.here (s := { s with toks := s.toks + 1 }) (looks_clsIn X hcc) ?_))))))
 rw [hd']
 show wpAny _ _ (alloc { cls := .type "dict", data := .dict #[] } >>= fun d => update x (fun o => { o with dict := some d }) >>= fun _ => pure (some d)) _ _ _
 have xs : x ≠ s.heap.objs.size := Nat.ne_of_lt (Heap.lt_size hx)
 have hx1 : (s.heap.push { cls := .type "dict", data := .dict #[] }).get? x = some _ := Heap.get?_push_of_some _ hx
 refine wpAny_bind (wpAny_alloc' (wpAny_bind (wpAny_update' hx1 (wpAny_pure ?_))))
 generalize hh2 : ((s.heap.push { cls := .type "dict", data := .dict #[] }).update x fun o => { o with dict := some s.heap.objs.size }) = h2
 have hx2 : h2.get? x = some ⟨.ref C, some s.heap.objs.size, .fields vs, osl⟩ := by rw [← hh2]; exact Heap.get?_update_self _ hx1 rfl
 have hd2 : h2.get? s.heap.objs.size = some { cls := .type "dict", data := .dict #[] } := by rw [← hh2]; exact (Heap.get?_update_ne _ _ _ _ xs.symm).trans (Heap.get?_push_at rfl rfl)
 have k2 : ∀ b o, b ≠ x → s.heap.get? b = some o → h2.get? b = some o := fun b o nb e => by rw [← hh2]; exact (Heap.get?_update_ne _ _ _ _ nb).trans (Heap.get?_push_of_some _ e)
 have n2 : h2.Ns s.heap.objs.size (fun _ => none) := ⟨_, #[], _, hd2, rfl, fun e he => absurd he (by simp), fun _ => rfl⟩
 show wpAny _ _ (storeInDict s.heap.objs.size (.str name s.toks) name v) _ _ { s with heap := h2, toks := s.toks + 1 }
 unfold storeInDict newKeyGuard
 refine wpAny_bind (wpAny_pure (wpAny_bind (wpAny_nsSet1 (s := { s with heap := h2, toks := s.toks + 1 }) (Heap.Ns1.of_empty n2) fun h' hn' hs => ?_)))
 obtain ⟨oD, esD, epD, hoD, hdD, hcD⟩ := hn'.count (Within.cons name v Within.nil)
 refine wpAny_bind (wpAny_lookBehind hoD (by rw [hdD]; exact pastItsLine_dict (Nat.le_trans hcD (by rw [List.length_cons, List.length_nil, sizeLine_eq]; omega))) ?_)
 exact wpAny_pure (h _ _ ((hs.2 x xs).trans hx2) hn' fun b o nb e => (hs.2 b (Nat.ne_of_lt (Heap.lt_size e))).trans (k2 b o nb e))
end
end HT
namespace HT
open PySem PySem.W PyProof.Rows
open Builtin Builtin.ObjectAttr
section
variable {prog : Program} {w : World} {A : Around} {E : Value → Shared → Prop} {h : Heap} {g : Array GenState} {d : Drawn} {t : Nat} {os : OsState} {K : Frag} {a C : Addr} {o : Obj} {od : Option Obj} {name : Str} {v : Value}
theorem uf {tk : Tok} {Q : Fin → Shared → Prop} (X : K.In h) (I : InstAt h a o C od) (hf : findObj K C od name = some (.value v)) (hq : Q (.done (.ret v)) ⟨h, g, d, t, os⟩) :
  wpAny (model prog w) A (Builtin.«object.__getattribute__» ⟨[.ref a, .str name tk], []⟩) Q E ⟨h, g, d, t, os⟩ := by
 have L0 := I.type (M := model prog w)
 have L1 := looks_find (M := model prog w) X I hf
 unfold Builtin.«object.__getattribute__»
 refine wpAny_bind (wpAny_pure (wpAny_bind (wpAny_pure (wpAny_bind (L0.at (wpAny_bind (L1.at ?_)))))))
 exact wpAny_pure hq
theorem xj {tk : Tok} {R : Result → Shared → Prop} (X : K.In h) (G : L2.iF K C) (I : InstAt h a o C od) (hf : findObj K C od name = some (.value v)) (hq : R (.ok (.ret v)) ⟨h, g, d, t, os⟩) :
  codeAny (model prog w) A (.call (.builtin "BaseException.__getattribute__") ⟨[.ref a, .str name tk], []⟩) R ⟨h, g, d, t, os⟩ :=
 codeAny_call_builtin F.excAttr_ValueError.ga.plain F.entry_bexc_ga (L2.tU X G I.at_ I.cls (uf X I hf hq))
theorem BE {tk : Tok} {fill expr : Bool} {Q : Value → Shared → Prop} (X : K.In h) (G : L2.iF K C) (I : InstAt h a o C od) (hf : findObj K C od name = some (.value v)) (hh : handedIn v = true) (hq : Q v ⟨h, g, d, t, os⟩) :
  wpAny (model prog w) A (getAttrBy (.ref a) (.str name tk) fill expr) Q E ⟨h, g, d, t, os⟩ := by
 have f3 := F.excAttr_ValueError.ga.bind (.ref a)
 have L0 := I.type (M := model prog w)
 have L1 := looks_findIn (M := model prog w) X G.ga
 have L2' := looks_findIn (M := model prog w) X G.na
 have hx2 : (Value.builtin "BaseException.__getattribute__" == Value.builtin "object.__getattribute__") = false := by decide +kernel
 have hx0 : (expr && onTheHeap (Value.builtin "BaseException.__getattribute__")) = false := by cases expr <;> rfl
 unfold getAttrBy
 refine wpAny_holding (wpAny_bind (L0.at (wpAny_bind (L1.at ?_))))
 show wpAny _ _ (if (onTheHeap (Value.ref C) && Value.builtin "BaseException.__getattribute__" == Value.builtin "object.__getattribute__") = true then _ else _) _ _ _
 rw [hx2, Bool.and_false, if_neg Bool.false_ne_true]
 unfold getAttrByItsOwn
 refine wpAny_bind ?_
 show wpAny _ _ (typeLookup (.ref C) "__getattr__") _ _ _
 refine L2'.at (wpAny_bind (wpAny_attempt (wpAny_holding ?_)))
 unfold callGetattribute
 rw [hx0, if_neg Bool.false_ne_true]
 unfold boundAndCalled
 rw [f3]
 refine wpAny_bind (wpAny_pure (wpAny_call (xj X G I hf ?_)))
 show wpAny _ _ (handedOut v) _ _ _
 rw [handedOut_of hh]; exact wpAny_pure hq
theorem wz {dx : Addr} {mA : Str → Option Value} {expr : Bool} {Q : Value → Shared → Prop} (X : K.In h) (hx : h.get? a = some o) (hc : o.cls = .ref C) (hdx : o.dict = some dx) (hfl : ∃ vs, o.data = .fields vs) (hn : h.Ns1 dx mA) (G : eM K C name)
  (hv : mA name = some v) (hh : handedIn v = true) (hq : Q v ⟨h, g, d, t + 1, os⟩) : wpAny (model prog w) A (getAttr (.ref a) name expr) Q E ⟨h, g, d, t, os⟩ := by
 obtain ⟨vs, hvs⟩ := hfl
 obtain ⟨oc, odd, odt, osl⟩ := o
 dsimp only at hc hdx hvs
 subst hc hdx hvs
 obtain ⟨od, ho, hl⟩ := L2.lu hn
 have J : InstAt h a _ C (some od) := ⟨hx, rfl, rfl, ho⟩
 unfold getAttr
 exact wpAny_bind (wpAny_mkText (BE X G.eg J (findObj_own G.hd G.no rfl (by rw [hl, hv])) hh hq))
end
end HT
namespace L2
open PySem PySem.Spec PyProof.Rows
def ef (C a : Addr) (d : Option Addr) : HO := .ext fun h => ∃ t, h.get? a = some (HT.je C t d)
theorem oI {P : Program} {w : World} {H : Hp} {h : Heap} {C a t : Addr} {d : Option Addr} (e : h.get? a = some (HT.je C t d)) : aO P w H h a (ef C a d) := ⟨⟨t, e⟩, ⟨_, e⟩, fun h1 h2 ⟨t1, e1⟩ k => ⟨t1, k _ e1⟩⟩
theorem jX {P : Program} {w : World} {H : Hp} {h : Heap} {C a : Addr} {d : Option Addr} (x : aO P w H h a (ef C a d)) : ∃ t, h.get? a = some (HT.je C t d) := x.1
def fL (fs : List (Str × V)) (dx : Addr) : HO := .ext fun h => ∃ mA, h.Ns1 dx mA ∧ ∀ f, bJ (fs.lookup f) (mA f)
theorem ph {P : Program} {w : World} {H : Hp} {h : Heap} {dx : Addr} {fs : List (Str × V)} {mA : Str → Option Value} (n : h.Ns1 dx mA) (r : ∀ f, bJ (fs.lookup f) (mA f)) : aO P w H h dx (fL fs dx) := by
 refine ⟨⟨mA, n, r⟩, ?_, fun h1 h2 ⟨m1, n1, r1⟩ k => ⟨m1, ?_, r1⟩⟩
 · obtain ⟨o, es, ep, e, _⟩ := n
   exact ⟨o, e⟩
 · obtain ⟨o, es, ep, e, c⟩ := n1
   exact ⟨o, es, ep, k _ e, c⟩
theorem oJ {P : Program} {w : World} {H : Hp} {h : Heap} {dx : Addr} {fs : List (Str × V)} (x : aO P w H h dx (fL fs dx)) : ∃ mA, h.Ns1 dx mA ∧ ∀ f, bJ (fs.lookup f) (mA f) := x.1
theorem nK {fs : List (Str × V)} {mA : Str → Option Value} (r : ∀ f, bJ (fs.lookup f) (mA f)) : PySem.Within mA (fs.map (·.1)) := fun y h => by
  have ry := r y
  cases e : fs.lookup y with
  | none =>
    rw [e] at ry
    cases q : mA y with
    | none => exact absurd q h
    | some u => rw [q] at ry; exact ry.elim
  | some v =>
    have : ∀ (l : List (Str × V)), l.lookup y = some v → y ∈ l.map (·.1) := by
      intro l
      induction l with
      | nil => intro z; cases z
      | cons p l ih =>
        intro z
        obtain ⟨k, x⟩ := p
        rw [List.lookup_cons] at z
        by_cases hk : (y == k) = true
        · rw [List.map_cons]; exact List.mem_cons.mpr (.inl (beq_iff_eq.mp hk))
        · rw [Bool.not_eq_true] at hk
          rw [hk] at z
          exact List.mem_cons_of_mem _ (ih z)
    exact this fs e
def qe (K : W.Frag) (C : Addr) (ta tv : TE) (f : Str) : TS := fun D σ H => tv σ H fun y H1 => ta σ H1 fun x H2 => ∃ a, x = .ref a ∧ HT.eM K C f ∧
  ((H2 a = some (ef C a none) ∧ ∀ dx, H2 dx = none → dx ≠ a → D.nx σ (upd (upd H2 a (ef C a (some dx))) dx (fL [(f, y)] dx))) ∨
   (∃ dx fs, H2 a = some (ef C a (some dx)) ∧ H2 dx = some (fL fs dx) ∧ dx ≠ a ∧ fs.length < 1000 ∧ D.nx σ (upd H2 dx (fL (cF f y fs) dx))))
def pU (K : W.Frag) (ta : TE) (f : Str) : TE := fun σ H Q => ta σ H fun x H1 => ∃ a C dx fs v, x = .ref a ∧ H1 a = some (kh C (some dx) a) ∧ H1 dx = some (fL fs dx) ∧ HT.eM K C f ∧ fs.lookup f = some v ∧ Q v H1
section
variable {X : Cx} {o value : Expr} {ta tv : TE} {f : Str} {pos pos' : Pos} {C : Addr}
theorem sB (ho : QE X o ta) (hv : QE X value tv) (hs : swapsWith value (some (.Attribute o f pos')) pos.line X.env = pure false := by rfl) : QS X (.Assign [.Attribute o f pos'] value pos) (qe X.K C ta tv f) := by
 refine ⟨fun pins s σ H D I h => ?_⟩
 refine plainObj_wpAny_Assign_Attribute (thn (hv.out pins s σ H _ I h) fun u s1 ⟨y, H1, I1, ry, q⟩ => thn (ho.out pins s1 σ H1 _ I1 q) fun ov s2 ⟨x, H2, I2, rx, a, ex, G, q2⟩ => ?_) hs
 subst ex
 obtain rfl : ov = Value.ref a := rx
 rcases q2 with ⟨ea, q2⟩ | ⟨dx, fs, ea, ed, ne, hl, q2⟩
 · obtain ⟨t, et⟩ := jX (P := X.prog) (w := X.w) (I2.hok a _ ea)
   refine HT.vB I2.kIn et rfl rfl ⟨_, rfl⟩ G fun h' t' e1 e2 k => ?_
   have I3 : Inv X pins σ (upd H2 a (ef C a (some s2.heap.objs.size))) { s2 with heap := h', toks := t' } := I2.write (x := a) (e := a) (by rw [ea]; exact True.intro) (.inl rfl) (fun b u nb e => k b u nb e) ⟨_, e1⟩ (oI e1)
   have na : s2.heap.objs.size ≠ a := Nat.ne_of_gt (Heap.lt_size et)
   have hn : upd H2 a (ef C a (some s2.heap.objs.size)) s2.heap.objs.size = none := by rw [aj na]; exact I2.hok.fresh (Nat.le_refl _)
   exact ⟨σ, _, Inv.track2 I2 I3 (Nat.le_refl _) hn (ph e2 fun g => by
    show bJ (List.lookup g [(f, y)]) (if g = f then some u else none)
    by_cases hg : g = f
    · rw [if_pos hg, hg]
      simp only [List.lookup, beq_self_eq_true]; exact ry
    · have hb : (g == f) = false := beq_eq_false_iff_ne.mpr hg
      rw [if_neg hg]
      simp only [List.lookup, hb]; exact True.intro), q2 _ (I2.hok.fresh (Nat.le_refl _)) na⟩
 · obtain ⟨t, et⟩ := jX (P := X.prog) (w := X.w) (I2.hok a _ ea)
   obtain ⟨mA, n1, r1⟩ := oJ (P := X.prog) (w := X.w) (I2.hok dx _ ed)
   refine HT.xi (ns := fs.map (·.1)) I2.kIn et rfl rfl ⟨_, rfl⟩ n1 ne G (nK r1) (by rw [List.length_map, sizeLine_eq]; omega) fun h' t' e2 sb => ?_
   have hd : ∃ u, h'.get? dx = some u := let ⟨o, _, _, e', _⟩ := e2; ⟨o, e'⟩
   exact ⟨σ, _, I2.write (x := dx) (e := dx) (by rw [ed]; exact True.intro) (.inl rfl) (fun b u nb e => (sb.2 b nb).trans e) hd (ph e2 fun g => by
    rw [fI]
    by_cases hg : g = f
    · rw [if_pos hg, if_pos hg]; exact ry
    · rw [if_neg hg, if_neg hg]; exact r1 g), q2⟩
theorem rg (he : QE X o ta) (hb : attributeBase o f X.env (eval o X.env) = eval o X.env := by rfl) : QE X (.Attribute o f pos) (pU X.K ta f) := by
 refine ⟨fun pins s σ H Q I h => ?_⟩
 refine oY hb (thn (he.out pins s σ H _ I h) fun u s1 ⟨x, H1, I1, rx, a, C, dx, fs, v, ex, ea, ed, G, l, q⟩ => ?_)
 subst ex
 obtain rfl : u = Value.ref a := rx
 obtain ⟨oe, vs, e1, e2, e3, e4⟩ := wM (P := X.prog) (w := X.w) (I1.hok a _ ea)
 obtain ⟨mA, n1, r1⟩ := oJ (P := X.prog) (w := X.w) (I1.hok dx _ ed)
 obtain ⟨u, hu, ru⟩ := bJ.some_of (v := v) (o := mA f) (by rw [← l]; exact r1 f)
 obtain ⟨hp, g, d, tk, os⟩ := s1
 exact HT.wz I1.kIn e1 e2 e3 ⟨_, e4⟩ n1 G hu (lx ru) ⟨v, H1, I1.tok _, ru, q⟩
end
def iB (a : Addr) (H : Hp) : Hp := fun b => if b = a then none else H b
theorem ij {a : Addr} {H : Hp} : iB a H a = none := by unfold iB; rw [if_pos rfl]
theorem dg {a b : Addr} {H : Hp} (h : b ≠ a) : iB a H b = H b := by unfold iB; rw [if_neg h]
theorem HOk.off {P : Program} {w : World} {H : Hp} {h : Heap} {a : Addr} {φ : Heap → Prop} (k : HOk P w H h) (ha : H a = some (.ext φ)) : HOk P w (iB a H) h := fun b o e => by
 by_cases hb : b = a
 · subst hb; rw [ij] at e; cases e
 · rw [dg hb] at e
   exact (k b o e).stay (fun c u _ q => q) (fun c q => by rw [dg (fun z => by rw [z, ha] at q; cases q)]; exact q) fun c xs q => by rw [dg (fun z => by rw [z, ha] at q; cases q)]; exact q
theorem Un.off {fs : List Addr} {H H' : Hp} {h h' : Heap} {a : Addr} (u : Un fs [] H H' h h') (ha : H a = none) : Un fs [] H (iB a H') h h' where
 keep := u.keep
 slot := u.slot
 free := fun b o e n hx => by
  by_cases hb : b = a
  · rw [hb]; exact ij
  · rw [dg hb]; exact u.free b o e n hx
 there := u.there
 tups := fun b xs e => by rw [dg (aq e ha)]; exact u.tups b xs e
 frzs := fun b o v e => by rw [dg (aq e ha)]; exact u.frzs b o v e
 tbls := fun b ps e => by rw [dg (aq e ha)]; exact u.tbls b ps e
end L2
namespace HT
open PySem PyProof.Rows
section
variable {M : Model} {A : Around} {E : Value → Shared → Prop} {env : Env} {K : W.Frag} {C : Addr}
theorem sd {s : Shared} {x : Sem Value} {Q : Flow → Shared → Prop} (hC : L2.cK K C) (hh : A.handled = none)
  (h : wpAny M A x (fun v s₁ => ∃ e t d, v = .ref e ∧ K.In s₁.heap ∧ s₁.heap.get? e = some (je C t d) ∧ E (.ref e) s₁) E s) : wpAny M A (raiseStmt env (some x) none) Q E s := by
 unfold raiseStmt
 refine wpAny_bind (wpAny_mono h (fun v s₁ h₁ => ?_) fun _ _ x => x)
 obtain ⟨e, t, d, rfl, X, he, hE⟩ := h₁
 obtain ⟨bm, N, nm, qn, bs, hdct, sn, sub, ab, col, dd, k0, k1, k2, k3, k5, mN, oC, hN, _, T, _⟩ := L2.fN X hC
 have hcB : (Value.ref C :: bm).contains (.type "BaseException") = true := by rw [List.contains_cons, T.hasType (X := "BaseException") (b := true) (by decide +kernel), Bool.or_true]
 obtain ⟨hp, g, dr, tk, os⟩ := s₁
 repeat (first | with_reducible refine wpAny_loadPart_at he ?_ | with_reducible refine wpAny_loadPart_at oC ?_ | (with_reducible refine wpAny_isSubtype_exc oC ?_; rw [hcB]) | wp_step)
 exact wpAny_raiseNew_none hh hE
theorem qW {prog : Program} {w : World} {A : Around} {K : W.Frag} {C f : Addr} {R : Result → Shared → Prop} {s : Shared} {us : List Value} (X : K.In s.heap) (hC : L2.cK K C) (hi : W.findIn K (.ref C) "__init__" = some (some (.ref f))) (hf : W.typeIn K (.ref f) = some (.type "function")) (hus : us.length ≤ sizeLine)
  (hq : codeAny (model prog w) (A.under (.builtin "type.__call__" ⟨.ref C :: us, []⟩)) (.call (.ref f) ⟨.ref (s.heap.objs.size + 1) :: us, []⟩) (W.InitBack (s.heap.objs.size + 1) R) { s with heap := fK s.heap C us }) :
  codeAny (model prog w) A (.call (.ref C) ⟨us, []⟩) R s := by
 obtain ⟨h, g, d, t, os⟩ := s
 exact vA X hC hi hf hus hq
end
end HT
namespace L2
open PySem PySem.Spec PyProof.Rows
def og (C : Addr) (sp : Sp) (E : St → XK) (t : TA) : TS := fun _ σ H => t σ H fun vs H1 => ∀ a, H1 a = none → sp (.ref a :: vs) (upd H1 a (ef C a none)) (fun v H2 => v = .non ∧ ∃ d, H2 a = some (ef C a d) ∧ E σ (.ref C) d (iB a H2)) E0
structure wo (K : W.Frag) (C f : Addr) : Prop where
 ok : cK K C
 init : W.findIn K (.ref C) "__init__" = some (some (.ref f))
 fn : W.isFn K (.ref f) = true
 kp : W.keepIn K (.ref C) = true
section
variable {X : Cx} {k : Nat} {f C : Addr} {fd : FuncData} {ps : List Str} {sp : Sp} {E : St → XK} {x : Str} {np cpos pos : Pos} {e : Expr} {es : List Expr} {t : TA}
theorem ua (Y : wo X.K C f) (F : aU X.prog X.w X.K X.mg X.base (CX1 X.prog X.w) k f fd ps sp) (hr : ba (k + 1) X.A) (hb : bZ X.K fd ps []) (hm : X.mg x = some (.ref C)) (hR : sf X E) (ha : QA X (e :: es) t)
    (hc : X.calm = true := by rfl) (hg : Gl X x := by rfl) (hdb : (x == ("__debug__" : Str)) = false := by decide) (hs : aW (e :: es) = true := by rfl) (hps : ps.length ≤ 1000 := by decide) : QS X (.Raise (some (.Call (.Name x np) (e :: es) [] cpos)) none pos) (og C sp E t) := by
  refine ⟨fun pins s σ H D I h => ?_⟩
  have h' : (bv e && aW es) = true := hs
  rw [arm_exec_Raise]
  refine wpAny_bind (wpAny_standAt (HT.sd Y.ok (I.ok.hd hc) ?_))
  refine wpAny_bind (wpAny_mono ?_ (fun v s₃ h₃ => wpAny_bind (wpAny_standAt (wpAny_pure h₃))) fun _ _ x => x)
  refine wpAny_Call_Name_kw (fX I hg hm ?_ hdb)
  refine W.callWith_K (h₀ := X.base) I.ok.mod.kin Y.kp (thn (ha.out cpos pins s σ H _ I h) fun us s1 ⟨vs, H1, I1, r, q⟩ => ⟨I1.kIn, ?_⟩) (aV (Bool.and_eq_true_iff.mp h').1 es X.env) (bo (Bool.and_eq_true_iff.mp h').2)
  have ka : ∀ b u, s1.heap.get? b = some u → (HT.fK s1.heap C us).get? b = some u := fun b u eb => Heap.get?_push_of_some _ (Heap.get?_push_of_some _ eb)
  have ex : (HT.fK s1.heap C us).get? (s1.heap.objs.size + 1) = some (HT.je C s1.heap.objs.size none) := by heap_get
  have hfr : H1 (s1.heap.objs.size + 1) = none := I1.hok.fresh (Nat.le_succ _)
  have I2 : Inv X pins σ (upd H1 (s1.heap.objs.size + 1) (ef C (s1.heap.objs.size + 1) none)) { s1 with heap := HT.fK s1.heap C us, toks := s1.toks } := I1.laid ka (Nat.le_succ _) (oI ex)
  have hq := q (s1.heap.objs.size + 1) hfr
  have r2 : aA (V.ref (s1.heap.objs.size + 1) :: vs) (Value.ref (s1.heap.objs.size + 1) :: us) := .cons rfl r
  have hl : (Value.ref (s1.heap.objs.size + 1) :: us).length = ps.length := by rw [← r2.length]; exact F.len _ _ _ _ hq
  have hb' := hb { s1 with heap := HT.fK s1.heap C us } (Value.ref (s1.heap.objs.size + 1) :: us) I2.kIn (by rw [List.append_nil]; exact hl)
  rw [List.append_nil] at hb'
  have husz : us.length ≤ sizeLine := by
    rw [List.length_cons] at hl
    rw [sizeLine_eq]; omega
  refine wpAny_call (HT.qW I1.kIn Y.ok Y.init (beq_iff_eq.mp Y.fn) husz (codeAny_mono (F.run _ X.stack _ _ ⟨Value.ref (s1.heap.objs.size + 1) :: us, []⟩ (Value.ref (s1.heap.objs.size + 1) :: us) _ _ _ (hr.make C us []) (I2.env0.make C us []) hb' r2 hq) fun rr s' hq' => ?_))
  cases rr with
  | error e' =>
    obtain ⟨_, _, _, _, _, _, z⟩ := hq'
    exact z.elim
  | ok fl =>
    cases fl with
    | next => exact False.elim hq'
    | brk => exact False.elim hq'
    | cont => exact False.elim hq'
    | ret u =>
      obtain ⟨v, H', os, bare, un, hok, rv, rfl, d, hd, hE⟩ := hq'
      obtain ⟨t, et⟩ := jX (P := X.prog) (w := X.w) (hok _ _ hd)
      have u1 : Un (frs X.stack) [] H1 H' s1.heap s'.heap := (Un.laid (o := ef C (s1.heap.objs.size + 1) none) ka (Nat.le_succ _) hfr).trans un
      have kin : X.K.In s'.heap := by
        have I3 : Inv X pins σ H' s' := I1.call' (ch := []) os u1 hok bare fun b z => absurd z (by simp)
        exact I3.kIn
      refine ⟨rv, s1.heap.objs.size + 1, t, d, rfl, kin, et, hR pins σ H1 s1 C (s1.heap.objs.size + 1) d (iB (s1.heap.objs.size + 1) H') s' I1 ⟨os, bare, u1.off hfr, hok.off hd, Heap.get?_none_of_le (Nat.le_succ _), ij, ⟨_, _, .ref t, et, rfl, rfl, rfl, rfl, rfl⟩⟩ hE⟩
end
end L2
namespace HT
open PySem PySem.Spec PyProof.Rows
theorem rX : typeLookup (.type "reversed") "__len__" = pure none := by rw [typeLookup_type, builtinLookup_eq_fast]; kernel_rfl
theorem tZ : typeLookup (.type "reversed") "__length_hint__" = pure (some (.builtin "reversed.__length_hint__")) := by rw [typeLookup_type, builtinLookup_eq_fast]; kernel_rfl
theorem gR : Slot "reversed" "__length_hint__" "reversed.__length_hint__" :=
 .of (owner := "reversed") (n := "__length_hint__") (by rw [typeLookup_type, builtinLookup_eq_fast]; kernel_rfl) (by decide +kernel) (by decide +kernel) (by decide +kernel)
  (by first | exact .inl (by decide +kernel) | exact .inr (by decide +kernel)) (by rw [isSubtype_type]; kernel_rfl)
theorem jW : entryFor table "reversed.__length_hint__" = some Builtin.«reversed.__length_hint__» := entryFor_of_tree (by kernel_rfl)
theorem lA (a : Value) : argsOk "reversed.__length_hint__" ⟨[a], []⟩ := by
 unfold argsOk; rw [signature?_of (id := "reversed.__length_hint__") (n := "__length_hint__".toList.reverse) (o := ['d', 'e', 's', 'r', 'e', 'v', 'e', 'r']) (by kernel_rfl) gW]; kernel_rfl
theorem lG {prog : Program} {w : World} {A : Around} {E : Value → Shared → Prop} {s : Shared} {it t : Addr} {items : Array Value} {Q : Value → Shared → Prop} (hit : dR s.heap it t ((items.size : Int) - 1)) (ht : IsTup s.heap t items) (hz : (items.size : Int) < 2 ^ 63)
  (h : ∀ tk tk', s.toks ≤ tk → Q (.int items.size tk') { s with toks := tk }) : wpAny (model prog w) A (call (.builtin "reversed.__length_hint__") [.ref it]) Q E s := by
 refine wpAny_call_entry gR hit.typeIs jW ?_ (lA _)
 unfold Builtin.«reversed.__length_hint__»
 refine wpAny_bind (wpAny_of_eq (a := Value.ref it) rfl ?_)
 refine wpAny_bind (wpAny_field hit rfl (x := .ref t) rfl ?_)
 rw [if_neg (by simp)]
 refine wpAny_bind (len_tuple ht hz ?_)
 refine wpAny_bind (wpAny_of_eq (a := some ((items.size : Nat) : Int)) rfl ?_)
 try dsimp only
 refine wpAny_bind (wpAny_field (s := { s with toks := s.toks + 1 + 1 }) hit rfl (x := rawInt ((items.size : Int) - 1)) rfl ?_)
 show wpAny _ _ (if (items.size : Int) < (items.size : Int) - 1 + 1 then _ else _) _ _ _
 rw [if_neg (by omega), show (items.size : Int) - 1 + 1 = items.size from by omega]
 refine wpAny_bind (wpAny_mkInt ?_)
 exact wpAny_pure ⟨_, rfl, h _ _ (by show s.toks ≤ s.toks + 1 + 1 + 1; omega)⟩
theorem mC {prog : Program} {w : World} {A : Around} (hh : A.handled = none) (I t : Addr) (hne : t ≠ I) (items : Array Value) (hz : (items.size : Int) < 2 ^ 63) :
  Walks prog w A I [I, t] [I] items.size (fun i v => items[items.size - 1 - i]? = some v) (fun i h => i ≤ items.size ∧ dR h I t ((items.size : Int) - 1 - (i : Int)) ∧ IsTup h t items) where
 sub := fun b hb => by simp at hb; simp [hb]
 frame := fun _ _ _ x hk => ⟨x.1, hk I (by simp) _ x.2.1, let ⟨o, ho, r⟩ := x.2.2; ⟨o, hk t (by simp) _ ho, r⟩⟩
 item := fun i s Q E hi x hQ => by
  have e : (items.size : Int) - 1 - (i : Int) = ((items.size - 1 - i : Nat) : Int) := by omega
  have hit := x.2.1
  rw [e] at hit
  have hx : items[items.size - 1 - i]? = some (items[items.size - 1 - i]'(by omega)) := Array.getElem?_eq_getElem (by omega)
  refine gO hit x.2.2 hz hx fun h' hit' hs' => ?_
  have e2 : ((items.size - 1 - i : Nat) : Int) - 1 = (items.size : Int) - 1 - ((i + 1 : Nat) : Int) := by omega
  rw [e2] at hit'
  exact hQ _ h' _ hx ⟨hi, hit', x.2.2.extBut hs'.extBut hne⟩ fun b o hb eo => hs'.extBut b o (fun h => hb (by simp [h])) eo
 done := fun s Q E x hQ => by
  have e : (items.size : Int) - 1 - (items.size : Int) = -1 := by omega
  have hit := x.2.1
  rw [e] at hit
  exact gZ hh hit fun h' he' => hQ h' s.toks fun b o hb eo => he' b o (fun h => hb (by simp [h])) eo
 self := fun _ _ _ _ x hQ => jw x.2.1 hQ
section
variable {prog : Program} {w : World} {A : Around} {E : Value → Shared → Prop} {s : Shared} {I : Addr} {fp wr : List Addr} {G : Array GenState → Array GenState → Prop} {n : Nat} {P : Nat → Value → Prop} {St : Nat → Shared → Prop}
theorem nJ {Q : List Value → Shared → Prop} (hH : ∀ (A' : Around) (s : Shared) (Q : Value → Shared → Prop) (E : Value → Shared → Prop), St 0 s → (∀ tk tk', s.toks ≤ tk → Q (.int n tk') { s with toks := tk }) → wpAny (model prog w) A' (call (.builtin "reversed.__length_hint__") [.ref I]) Q E s) (W : WalksS prog w A.in1 I fp wr G n P St) (hT : ∀ i s, St i s → s.TypeIs (.ref I) "reversed") (hst : St 0 s) (hfp : ∀ b ∈ fp, b < s.heap.objs.size) (hI : I ∈ fp)
   (hQ : ∀ s' acc, Moved wr G s s' → ItemsOf P acc n → Q acc.toList s') (hn : n ≤ sizeLine) : wpAny (model prog w) A (collect (.ref I)) Q E s := by
 have hSf : s.heap.objs.size ∉ fp := fun hm => Nat.lt_irrefl _ (hfp _ hm)
 have hSI : s.heap.objs.size ≠ I := fun e => hSf (e ▸ hI)
 unfold collect
 refine wpAny_bind (wpAny_runValue (codeAny_builtin F.entry_proto_collect ?_))
 rw [Around.under_plainId F.plain_proto_collect _]
 show wpAny _ A.in1 (newList [] >>= fun l => again (.builtin "list.__iadd__" ⟨[l, .ref I], []⟩)) _ _ s
 refine wpAny_bind (wpAny_newObj_type ?_)
 refine wpAny_pure ⟨plainId_quiet F.plain_list_iadd _, codeAny_builtin F.entry_list_iadd ?_⟩
 rw [Around.under_plainId F.plain_list_iadd _]
 have hst₁ := W.frame 0 s (s.heap.push { cls := .type "list", data := .seq ([] : List Value).toArray }) s.toks hst (Nat.le_refl _) fun b _ o e => Heap.get?_push_of_some _ e
 show wpAny _ A.in1 (Builtin.List.listExtendWith (.ref s.heap.objs.size) (.ref I) (.ref s.heap.objs.size)) _ _ _
 unfold Builtin.List.listExtendWith
 refine wpAny_bind (wpAny_typeOf (hT 0 _ hst₁) ?_)
 have h1 : Builtin.List.listSameRef (.ref s.heap.objs.size) (.ref I) = false := by simp [Builtin.List.listSameRef, hSI]
 rw [if_neg (by rw [h1]; decide)]
 refine wpAny_bind (W.self 0 _ _ _ hst₁ ?_)
 refine wpAny_bind (wpAny_holding ?_)
 unfold Builtin.List.listLengthHint
 refine wpAny_bind (wpAny_specialOf (hT 0 _ hst₁) rX ?_)
 show wpAny _ A.in1 (specialOf (Value.ref I) (Str.ofString "__length_hint__") >>= _) _ _ _
 refine wpAny_bind (wpAny_specialOf (hT 0 _ hst₁) tZ ?_)
 generalize hid : ("reversed.__length_hint__" : String) = id0
 wp_delta
 rw [show splitId id0 = some ("reversed", "__length_hint__") from by subst hid; decide +kernel]
 subst hid
 refine wpAny_bind (wpAny_isInstance (b := true) (hT 0 _ hst₁) (by rw [isSubtype_type]; kernel_rfl) ?_)
 rw [if_neg (by decide)]
 try dsimp only
 rw [if_neg (by decide +kernel)]
 refine wpAny_bind (wpAny_rule ?_)
 refine wpAny_bind (wpAny_of_eq (gR.bind _) ?_)
 try dsimp only
 refine wpAny_bind (wpAny_attempt (hH _ _ _ _ hst₁ fun tk tk' htk => ?_))
 show wpAny _ _ (asInt? (Value.int (n : Int) tk') >>= _) _ _ _
 rw [show asInt? (Value.int (n : Int) tk') = pure (some (n : Int)) from rfl]
 rw [pure_bind]
 try dsimp only
 rw [if_neg (by unfold Builtin.List.listFitsIndex; rw [sizeLine_eq] at hn; simp; omega)]
 try dsimp only
 rw [if_neg (by omega)]
 try dsimp only
 rw [if_neg (by unfold Builtin.List.listTooLong; simp; omega)]
 refine wpAny_pure ?_
 have hS₁ : (s.heap.push { cls := .type "list", data := .seq ([] : List Value).toArray }).get? s.heap.objs.size = some { cls := .type "list", data := .seq ([] : List Value).toArray } := Heap.get?_push_size _ rfl
 have key : ∀ (h : Heap) (c₁ : Nat), (∀ b o, b ≠ s.heap.objs.size → (s.heap.push { cls := .type "list", data := .seq ([] : List Value).toArray }).get? b = some o → h.get? b = some o) → h.get? s.heap.objs.size = some { cls := .type "list", data := .seq #[] c₁ } →
    codeAny (model prog w) A (.builtin "list.extend.loop" ⟨[.ref s.heap.objs.size, .ref I, .ref s.heap.objs.size], []⟩) (fun r s' => r = .ok (.ret (.ref s.heap.objs.size)) ∧ ∃ acc' c', Moved wr G s s' ∧ s'.heap.get? s.heap.objs.size = some { cls := .type "list", dict := none, data := .seq acc' c', slots := #[] } ∧ ItemsOf P acc' n) { s with heap := h, toks := tk } := by
   intro h c₁ hk hS
   refine codeAny_extend_loopS W hn _ hSf _ n 0 _ _ _ rfl (Nat.zero_le _) (W.frame 0 ({ s with heap := s.heap.push { cls := .type "list", data := .seq ([] : List Value).toArray } } : Shared) h tk hst₁ htk fun b hb o e => hk b o (fun z => hSf (z ▸ hb)) e) hS (ItemsOf.nil P) fun s' acc' c' hm hS' hacc => ?_
   refine ⟨rfl, acc', c', Moved.drop_new (o := { cls := .type "list", data := .seq ([] : List Value).toArray }) (tk := s.toks) (Moved.trans W.gtrans ((Moved.refl W.grefl).then_heap htk fun b o hb e => ?_) hm) (Nat.le_refl _), hS', hacc⟩
   exact hk b o (fun z => hb (by rw [z]; exact List.mem_cons_self)) e
 refine wpAny_ite_split (fun _ => ?_) (fun _ => wpAny_pure ⟨plainId_quiet F.plain_extend_loop _, codeAny_mono (key _ _ (fun b o _ e => e) hS₁) fun r s' hr => ?_⟩)
 · refine wpAny_bind (wpAny_rule ?_)
   refine wpAny_bind ?_
   show wpAny _ A.in1 (updateSeq s.heap.objs.size (·.push .none) >>= fun _ => updateSeq s.heap.objs.size (·.pop)) _ _ _
   refine wpAny_bind (wpAny_updateSeq hS₁ rfl ?_)
   have hS₂ := Heap.get?_update_self (Obj.mapSeq (·.push Value.none)) hS₁ rfl
   refine wpAny_updateSeq hS₂ rfl ?_
   have hS₃ := Heap.get?_update_self (Obj.mapSeq (·.pop)) hS₂ rfl
   refine wpAny_pure ⟨plainId_quiet F.plain_extend_loop _, codeAny_mono (key _ _ (fun b o hb e => (Heap.get?_update_other _ _ (Ne.symm hb)).trans ((Heap.get?_update_other _ _ (Ne.symm hb)).trans e)) hS₃) fun r s' hr => ?_⟩
   obtain ⟨rfl, acc', c', hm, hS', hacc⟩ := hr
   show wpAny _ A (load s.heap.objs.size >>= _) _ _ s'
   exact wpAny_bind (wpAny_load hS' (wpAny_pure (hQ s' acc' hm hacc)))
 · obtain ⟨rfl, acc', c', hm, hS', hacc⟩ := hr
   show wpAny _ A (load s.heap.objs.size >>= _) _ _ s'
   exact wpAny_bind (wpAny_load hS' (wpAny_pure (hQ s' acc' hm hacc)))
theorem kz {Q : Value → Shared → Prop} (hH : ∀ (A' : Around) (s : Shared) (Q : Value → Shared → Prop) (E : Value → Shared → Prop), St 0 s → (∀ tk tk', s.toks ≤ tk → Q (.int n tk') { s with toks := tk }) → wpAny (model prog w) A' (call (.builtin "reversed.__length_hint__") [.ref I]) Q E s) (W : WalksS prog w A.in1.in1.in1 I fp wr G n P St) (hT : ∀ i s, St i s → s.TypeIs (.ref I) "reversed") (hst : St 0 s) (hfp : ∀ b ∈ fp, b < s.heap.objs.size) (hI : I ∈ fp)
   (hQ : ∀ s' acc, Moved wr G s s' → ItemsOf P acc n → Q (.ref s'.heap.objs.size) { s' with heap := s'.heap.push { cls := .type "tuple", data := .seq acc } }) (hsz : n ≤ sizeLine) :
   wpAny (model prog w) A (call (.type "tuple") [.ref I]) Q E s := by
 refine callType_codes (Q₁ := fun obj s₁ => s₁.TypeIs obj "tuple" ∧ Q obj s₁) F.called_tuple (F.typeCall_tuple_1 _) F.entry_object_init ?_ fun obj s₁ h₁ => ?_
 · refine codeAny_of_tree ?_
   show wpAny _ A.in1.in1 (do checkBuiltinCall "tuple.__new__" ⟨[.type "tuple", .ref I], []⟩; again (.builtin "tuple.__new__" ⟨[.type "tuple", .ref I], []⟩)) _ _ s
   refine wpAny_bind (wpAny_of_eq (F.newCall_tuple_1 _) (wpAny_pure ⟨plainId_quiet F.plain_tuple_new _, codeAny_builtin F.entry_tuple_new ?_⟩))
   rw [Around.under_plainId F.plain_tuple_new _]
   have hsub := sub_tuple_self
   have hinit := init_tuple_lookup
   have hmh := madeHere_tuple
   have hTI := hT 0 s hst
   wp_walk using wpAny_typeOf hTI, nJ (hn := hsz) hH W hT hst hfp hI
   intro s' acc hm hacc
   show wpAny _ _ (Builtin.Tuple.tupleExact acc.toList.toArray >>= fun v => ret v) _ _ _
   unfold Builtin.Tuple.tupleExact
   refine wpAny_bind (wpAny_newObj_type ?_ (by show acc.toList.toArray.size ≤ sizeLine; simp only [Array.toArray_toList]; rw [hacc.1]; exact hsz))
   refine wpAny_pure ?_
   have e : acc.toList.toArray = acc := by simp
   rw [e]
   exact ⟨⟨_, Heap.get?_push_size _ rfl, rfl⟩, hQ s' acc hm hacc⟩
 · exact ⟨h₁.1, F.args_object_init_2 obj _, object_init_meets F.called_tuple.init.lookup F.called_tuple.made (by decide) prog w A.in1 _ s₁ ⟨h₁.1, rfl, h₁.2⟩⟩
end
end HT
namespace L2
open PySem PySem.Spec PyProof.Rows
def oM (K : W.Frag) : List V → Hp → VK → Prop := fun xs H Q => ∃ c ys, xs = [.ref c] ∧ SqT K H c ys ∧ ∀ l, H l = none → Q (.ref l) (upd H l (.tup ys.reverse))
section
variable {X : Cx} {pins : List (Addr × Obj)} {σ : St} {H : Hp} {s : Shared}
theorem wE {Q : VK} {c : Addr} {ys : List V} (hc : X.calm = true) (I : Inv X pins σ H s) (hq : SqT X.K H c ys) (q : ∀ l, H l = none → Q (.ref l) (upd H l (.tup ys.reverse))) :
   wpAny (model X.prog X.w) X.A (call (.type "reversed") [.ref c]) (fun u s2 => wpAny (model X.prog X.w) X.A (call (.type "tuple") [u]) (EP X pins σ Q) X.xe s2) X.xe s := by
 obtain ⟨its, r', pl, hz⟩ := I.tuple hq
 have hlen := r'.length
 have hz63 : (its.toArray.size : Int) < 2 ^ 63 := by rw [List.size_toArray]; rw [sizeLine_eq] at hz; omega
 refine HT.dW (show IsTup s.heap c its.toArray from pl) hz63 ?_
 have hcs : c < s.heap.objs.size := pl.lt
 have hne : c ≠ s.heap.objs.size := Nat.ne_of_lt hcs
 have W := (HT.mC (prog := X.prog) (w := X.w) (A := X.A.in1.in1.in1) (I.ok.hd hc) s.heap.objs.size c hne its.toArray hz63).toS
 have hz' : its.toArray.size ≤ sizeLine := by rw [List.size_toArray]; omega
 have hsz : (s.heap.push (HT.jg c ((its.toArray.size : Int) - 1))).objs.size = s.heap.objs.size + 1 := Heap.size_push _ _
 refine HT.kz (s := { s with heap := s.heap.push (HT.jg c ((its.toArray.size : Int) - 1)), toks := s.toks + 1 + 1 }) (fun A' s3 Q' E' st h => HT.lG (by have := st.2.1; rwa [show (its.toArray.size : Int) - 1 - ((0 : Nat) : Int) = (its.toArray.size : Int) - 1 from by omega] at this) st.2.2 hz63 h) W (fun i s3 st => HT.dR.typeIs st.2.1) ⟨Nat.zero_le _, ?_, pl.push _⟩ (fun b hb => ?_) (by simp) (fun s' acc' hm hacc => ?_) hz'
 · show (s.heap.push _).get? _ = _
   have e : (its.toArray.size : Int) - 1 - ((0 : Nat) : Int) = (its.toArray.size : Int) - 1 := by omega
   rw [e]
   exact Heap.get?_push_size _ rfl
 · show b < (s.heap.push _).objs.size
   rw [hsz]
   rcases List.mem_cons.mp hb with z | z
   · rw [z]; exact Nat.lt_succ_self _
   · rw [List.mem_singleton.mp z]; exact Nat.lt_succ_of_lt hcs
 · have e1 : acc'.toList = its.reverse := by
     refine List.ext_getElem? fun j => ?_
     by_cases hj : j < its.length
     · have hj2 : j < acc'.size := by rw [hacc.1, List.size_toArray]; exact hj
       have ea : acc'[j]? = some acc'[j] := Array.getElem?_eq_getElem hj2
       have hp : its.toArray[its.toArray.size - 1 - j]? = some acc'[j] := hacc.2 j _ ea
       rw [Array.getElem?_toList, ea, List.getElem?_reverse hj, ← hp]
       simp
     · rw [List.getElem?_eq_none (by rw [Array.length_toList, hacc.1, List.size_toArray]; omega), List.getElem?_eq_none (by simp; omega)]
   have e2 : acc' = its.reverse.toArray := by rw [← e1]
   have hw : ∀ b o, s.heap.get? b = some o → s'.heap.get? b = some o := fun b o e => by
     have hb := Heap.lt_size e
     refine hm.heap b o (fun z => ?_) (Heap.get?_push_of_some _ e)
     rw [List.mem_singleton.mp z] at hb
     exact Nat.lt_irrefl _ hb
   have es : s' = { s with heap := s'.heap, toks := s'.toks } := by
     have h1 := hm.gens
     have h2 := hm.drawn
     have h3 := hm.os
     cases s'
     cases h1; cases h2; cases h3
     rfl
   have I1 : Inv X pins σ H s' := by rw [es]; exact I.kept hw
   have new : aO X.prog X.w (upd H s'.heap.objs.size (.tup ys.reverse)) (s'.heap.push { cls := .type "tuple", data := .seq acc' }) s'.heap.objs.size (.tup ys.reverse) := ⟨by rw [List.length_reverse]; exact hz, its.reverse, r'.reverse, by rw [e2]; exact IsTup.new _ _⟩
   exact ⟨.ref s'.heap.objs.size, upd H s'.heap.objs.size (.tup ys.reverse), I1.laid (t' := s'.toks) (fun b o e => Heap.get?_push_of_some _ e) (Nat.le_refl _) new, rfl, q _ (I1.hok.fresh (Nat.le_refl _))⟩
end
section
variable {X : Cx} {a : Expr} {t : TA} {p1 p2 pos1 pos2 : Pos}
theorem sg : bootBuiltins "tuple" = some (.type "tuple") := by decide +kernel
theorem ue (hm1 : X.mg "tuple" = none) (hm2 : X.mg "reversed" = none) (hc : X.calm = true) (ha : QA X [a] t) (hg1 : Gl X "tuple" := by rfl) (hg2 : Gl X "reversed" := by rfl) (hs : aW [a] = true := by rfl) :
  QE X (.Call (.Name "tuple" p1) [.Call (.Name "reversed" p2) [a] [] pos2] [] pos1) (tCB (oM X.K) t) := ⟨fun pins s σ H Q I h => by
 have h' : (bv a && aW []) = true := hs
 refine wpAny_Call_Name_kw (dw I hg1 hm1 sg ?_ (by decide) (by decide))
 refine PyProof.Rows.callWith_type1 ?_ rfl rfl
 show wpAny _ _ (spliced ((false, eval (.Call (.Name "reversed" p2) [a] [] pos2) X.env) :: backTo pos1 (starEach [] X.env))) _ _ s
 refine Calls.spliced_cons ?_
 refine wpAny_Call_Name_kw (dw I hg2 hm2 jd ?_ (by decide) (by decide))
 refine PyProof.Rows.callWith_type1 (thn (ha.out pos2 pins s σ H _ I h) fun us s1 ⟨vs, H1, I1, r1, q1⟩ => ?_)
  (aV (Bool.and_eq_true_iff.mp h').1 [] X.env) (bo (Bool.and_eq_true_iff.mp h').2)
 obtain ⟨c, ys, rfl, hq, q⟩ := q1
 obtain ⟨u, rfl, ru⟩ := eX r1
 cases ru
 refine wpAny_mono (wE hc I1 hq q) (fun u s2 z => ?_) fun _ _ z => z
 exact Calls.spliced_nil z⟩
end
end L2
namespace Rs
open PySem PySem.Spec PyProof.Rows L2
def pF (s : Stmt) (j : Nat) : Stmt := match s with
 | .ClassDef _ _ _ b _ _ _ _ _ _ _ => b.getD j (.Pass ⟨0, 0, 0, 0⟩)
 | _ => .Pass ⟨0, 0, 0, 0⟩
def top (i : Nat) : Stmt := PySem.Challenge.pw_rootstamp_k48_whole_one_paper_of_a_place.main.body.getD i (.Pass ⟨0, 0, 0, 0⟩)
abbrev tP : Stmt := top 9
abbrev um : Stmt := top 10
abbrev vt : Stmt := top 11
abbrev tW : Stmt := top 13
abbrev uo : Stmt := top 12
abbrev s_2 : Stmt := pF (top 30) 1
abbrev s_3 : Stmt := top 35
abbrev ji : Stmt := top 39
abbrev jp : Stmt := top 31
abbrev s_1 : Stmt := pF (top 30) 0
abbrev jh : Stmt := top 32
abbrev jt : Stmt := top 40
abbrev tu : Stmt := top 41
abbrev s_6 : Stmt := top 43
abbrev sS : Stmt := top 44
abbrev vD : Stmt := top 37
abbrev ub : Stmt := top 38
abbrev s_5 : Stmt := top 45
abbrev s_9 : Stmt := top 46
abbrev s_4 : Stmt := top 47
abbrev uC : Stmt := top 42
abbrev uR : Stmt := top 17
abbrev uJ : Stmt := top 18
abbrev uI : Stmt := top 15
abbrev uq : Stmt := top 16
abbrev tK : Stmt := top 19
abbrev uD : Stmt := top 25
abbrev vn : Stmt := top 24
abbrev uu : Stmt := top 26
abbrev s_8 : Stmt := top 48
abbrev tX : Stmt := top 27
abbrev sY : Stmt := top 49
abbrev uZ : Stmt := top 21
abbrev uN : Stmt := top 22
abbrev s_0 : Stmt := pF (top 6) 0
abbrev km : Stmt := top 28
abbrev tH : Stmt := top 51
abbrev uW : Stmt := top 33
abbrev s_7 : Stmt := top 50
abbrev tB : Stmt := top 52
def sAt (i : Nat) (l : List Stmt) : Stmt := l.getD i (.Pass ⟨0, 0, 0, 0⟩)
def zO : Stmt → Expr | .Return (some e) _ => e | .Assign _ e _ => e | .Expr e _ => e | _ => .Constant .none 0 ⟨0, 0, 0, 0⟩
def iR : Expr → Expr | .Lambda _ b _ _ => b | e => e
def nE : Expr → Scope | .Lambda _ _ sc _ => sc | _ => { kind := .function, names := [], isGenerator := false, isCoroutine := false }
abbrev tV : Expr := (zO (sAt 0 (aL jp)))
def eJ : cw := ⟨(("writing" : Str) ++ ".<locals>.") ++ "<lambda>", .expr (iR tV), nE tV, ["term"], []⟩
abbrev uj : Expr := (zO (sAt 1 (aL jh)))
def fb : cw := ⟨(("counting" : Str) ++ ".<locals>.") ++ "<lambda>", .expr (iR uj), nE uj, ["term"], ["numbers"]⟩
abbrev tR : Stmt := (sAt 0 (aL ji))
def eR : cw := ⟨(("_law_weak" : Str) ++ ".<locals>.") ++ "_law_stamp", .stmts (aL tR), ai tR, ["_law_term"], ["_law_many"]⟩
abbrev vh : Stmt := (sAt 0 (aL jt))
def eZ : cw := ⟨(("_law_planted" : Str) ++ ".<locals>.") ++ "_law_stamp", .stmts (aL vh), ai vh, ["_law_term"], ["_law_step", "_law_known", "_law_alias"]⟩
set_option genInjectivity false in
set_option genSizeOf false in
abbrev Rd (sp : Sp) (t : TS) (N : List Str) : Prop := ∀ (vs : List V) (H : Hp) (Q : VK) (E : XK), sp vs H Q E → t { nx := fun _ H' => Q .non H', rt := Q } (L2.start N vs) H
abbrev Ln (sp : Sp) (n : Nat) : Prop := ∀ vs H Q E, sp vs H Q E → vs.length = n
structure Adr where
 a_33 : Addr
 d_33 : FuncData
 a_31 : Addr
 d_31 : FuncData
 a_32 : Addr
 d_32 : FuncData
 a_36 : Addr
 d_36 : FuncData
 a_43 : Addr
 d_43 : FuncData
 a_2 : Addr
 d_2 : FuncData
 a_3 : Addr
 d_3 : FuncData
 a_19 : Addr
 d_19 : FuncData
 a_41 : Addr
 d_41 : FuncData
 a_1 : Addr
 d_1 : FuncData
 a_24 : Addr
 d_24 : FuncData
 a_12 : Addr
 d_12 : FuncData
 a_15 : Addr
 d_15 : FuncData
 a_6 : Addr
 d_6 : FuncData
 a_18 : Addr
 d_18 : FuncData
 a_16 : Addr
 d_16 : FuncData
 a_14 : Addr
 d_14 : FuncData
 a_5 : Addr
 d_5 : FuncData
 a_9 : Addr
 d_9 : FuncData
 a_4 : Addr
 d_4 : FuncData
 a_11 : Addr
 d_11 : FuncData
 a_27 : Addr
 d_27 : FuncData
 a_29 : Addr
 d_29 : FuncData
 a_26 : Addr
 d_26 : FuncData
 a_40 : Addr
 d_40 : FuncData
 a_21 : Addr
 d_21 : FuncData
 a_30 : Addr
 d_30 : FuncData
 a_34 : Addr
 d_34 : FuncData
 a_39 : Addr
 d_39 : FuncData
 a_8 : Addr
 d_8 : FuncData
 a_38 : Addr
 d_38 : FuncData
 a_10 : Addr
 d_10 : FuncData
 a_28 : Addr
 d_28 : FuncData
 a_22 : Addr
 d_22 : FuncData
 a_0 : Addr
 d_0 : FuncData
 a_37 : Addr
 d_37 : FuncData
 a_17 : Addr
 d_17 : FuncData
 a_23 : Addr
 d_23 : FuncData
 a_7 : Addr
 d_7 : FuncData
 a_35 : Addr
 d_35 : FuncData
 k_19 : Addr
 t_19 : Addr
 k_41 : Addr
 t_41 : Addr
 k_24 : Addr
 t_24 : Addr
 k_12 : Addr
 t_12 : Addr
 c_Broken : Addr
 c_Numbers : Addr
set_option genInjectivity false in
set_option genSizeOf false in
structure Txt (K : W.Frag) (mg : Str → Option Value) (A : Adr) : Prop where
 f_33 : Fm K mg "is_whole" "is_whole" tP A.a_33 A.d_33 ["thing"]
 f_31 : Fm K mg "is_stamp" "is_stamp" um A.a_31 A.d_31 ["thing"]
 f_32 : Fm K mg "is_term" "is_term" vt A.a_32 A.d_32 ["thing"]
 f_36 : Fm K mg "part_form" "part_form" tW A.a_36 A.d_36 ["part"]
 f_43 : Fm K mg "written" "written" uo A.a_43 A.d_43 ["term"]
 f_2 : Fun K "number_of" "Numbers.number_of" s_2 A.a_2 A.d_2
 b_2 : bZ K A.d_2 ["self", "term"] []
 f_3 : Fm K mg "_law_cell_at" "_law_cell_at" s_3 A.a_3 A.d_3 ["_law_script", "_law_k"]
 f_19 : Fm K mg "_law_weak" "_law_weak" ji A.a_19 A.d_19 ["_law_many"]
 f_41 : Fm K mg "writing" "writing" jp A.a_41 A.d_41 []
 f_1 : Fun K "__init__" "Numbers.__init__" s_1 A.a_1 A.d_1
 b_1 : bZ K A.d_1 ["self"] []
 f_24 : Fm K mg "counting" "counting" jh A.a_24 A.d_24 []
 f_12 : Fm K mg "_law_planted" "_law_planted" jt A.a_12 A.d_12 ["_law_known", "_law_alias", "_law_step"]
 f_15 : Fm K mg "_law_stamper" "_law_stamper" tu A.a_15 A.d_15 ["_law_way_here", "_law_cell", "_law_known", "_law_alias"]
 f_6 : Fm K mg "_law_count_by" "_law_count_by" s_6 A.a_6 A.d_6 ["_law_cell"]
 f_18 : Fm K mg "_law_way" "_law_way" sS A.a_18 A.d_18 ["_law_place", "_law_many"]
 f_16 : Fm K mg "_law_text_by" "_law_text_by" vD A.a_16 A.d_16 ["_law_cell"]
 f_14 : Fm K mg "_law_stamp_by" "_law_stamp_by" ub A.a_14 A.d_14 ["_law_cell"]
 f_5 : Fm K mg "_law_climb" "_law_climb" s_5 A.a_5 A.d_5 ["_law_stamper_here", "_law_count", "_law_turns", "_law_paper", "_law_height"]
 f_9 : Fm K mg "_law_near" "_law_near" s_9 A.a_9 A.d_9 ["_law_mark"]
 f_4 : Fm K mg "_law_changed" "_law_changed" s_4 A.a_4 A.d_4 ["_law_kind", "_law_cell", "_law_paper"]
 f_11 : Fm K mg "_law_plant" "_law_plant" uC A.a_11 A.d_11 ["_law_known", "_law_alias", "_law_new", "_law_old"]
 f_27 : Fm K mg "is_count" "is_count" uR A.a_27 A.d_27 ["thing"]
 f_29 : Fm K mg "is_place" "is_place" uJ A.a_29 A.d_29 ["count", "place"]
 f_26 : Fm K mg "half" "half" uI A.a_26 A.d_26 ["many"]
 f_40 : Fm K mg "ways" "ways" uq A.a_40 A.d_40 ["place", "many"]
 f_21 : Fm K mg "are_marks" "are_marks" tK A.a_21 A.d_21 ["many", "thing"]
 f_30 : Fm K mg "is_place_paper" "is_place_paper" uD A.a_30 A.d_30 ["turns", "thing"]
 f_34 : Fm K mg "joint" "joint" vn A.a_34 A.d_34 ["turn", "own", "aside"]
 f_39 : Fm K mg "place_terms" "place_terms" uu A.a_39 A.d_39 ["stamper", "count", "place", "paper"]
 f_8 : Fm K mg "_law_is_list" "_law_is_list" s_8 A.a_8 A.d_8 ["_law_found", "_law_due"]
 f_38 : Fm K mg "place_mark" "place_mark" tX A.a_38 A.d_38 ["stamper", "count", "place", "paper"]
 f_10 : Fm K mg "_law_opens" "_law_opens" sY A.a_10 A.d_10 ["_law_stamper_here", "_law_count", "_law_place", "_law_paper", "_law_due"]
 f_28 : Fm K mg "is_head" "is_head" uZ A.a_28 A.d_28 ["thing"]
 f_22 : Fm K mg "check_head" "check_head" uN A.a_22 A.d_22 ["thing"]
 f_0 : Fun K "__init__" "Broken.__init__" s_0 A.a_0 A.d_0
 b_0 : bZ K A.d_0 ["self", "due", "came"] []
 f_37 : Fm K mg "place_answer" "place_answer" km A.a_37 A.d_37 ["stamper", "head", "place", "paper"]
 f_17 : Fm K mg "_law_told" "_law_told" tH A.a_17 A.d_17 ["_law_stamper_here", "_law_head", "_law_place", "_law_paper"]
 f_23 : Fm K mg "clash" "clash" uW A.a_23 A.d_23 ["stamper", "terms"]
 f_7 : Fm K mg "_law_is_clash" "_law_is_clash" s_7 A.a_7 A.d_7 ["_law_stamper_here", "_law_terms", "_law_found"]
 f_35 : Fm K mg "law" "law" tB A.a_35 A.d_35 ["_law_script"]
 z_all : mg "all" = none
 z_bool : mg "bool" = none
 z_int : mg "int" = none
 z_isinstance : mg "isinstance" = none
 z_len : mg "len" = none
 z_list : mg "list" = none
 z_range : mg "range" = none
 z_reversed : mg "reversed" = none
 z_str : mg "str" = none
 z_tuple : mg "tuple" = none
 z_zip : mg "zip" = none
 c_MOST_PARTS : ∃ t, mg "MOST_PARTS" = some (.int 8 t)
 kc_19 : A.d_19.code = .ref A.k_19
 kc_41 : A.d_41.code = .ref A.k_41
 kc_24 : A.d_24.code = .ref A.k_24
 kc_12 : A.d_12.code = .ref A.k_12
 mc_Broken : mg "Broken" = some (.ref A.c_Broken)
 eo_Broken : cK K A.c_Broken
 eg_Broken : iF K A.c_Broken
 ef_Broken_came : HT.eM K A.c_Broken "came"
 ef_Broken_due : HT.eM K A.c_Broken "due"
 em_Broken : wo K A.c_Broken A.a_0
 sb_Broken_Broken : gG K A.c_Broken A.c_Broken = some true
 mc_Numbers : mg "Numbers" = some (.ref A.c_Numbers)
 cl_Numbers : Cls K A.c_Numbers
 na_Numbers_given : fk K A.c_Numbers "given"
 me_Numbers_number_of : tI K A.c_Numbers "number_of" A.a_2
 mk_Numbers : Mk K A.c_Numbers A.a_1
def vO (A : Adr) (H : Hp) : Prop := H A.t_19 = some (.tbl #[]) ∧ H A.t_41 = some (.tbl #[]) ∧ H A.t_24 = some (.tbl #[]) ∧ H A.t_12 = some (.tbl #[]) ∧ ([A.t_19, A.t_41, A.t_24, A.t_12] : List Addr).Nodup
theorem CI : dF ["term"] ["term"] [] eJ.scope := ⟨rfl, rfl, rfl, by decide +kernel, rfl, rfl, by decide +kernel, by decide +kernel, by decide +kernel, by decide +kernel, by decide +kernel⟩
theorem CY : dF ["term", "numbers"] ["term"] ["numbers"] fb.scope := ⟨rfl, rfl, rfl, by decide +kernel, rfl, rfl, by decide +kernel, by decide +kernel, by decide +kernel, by decide +kernel, by decide +kernel⟩
theorem jL : dF ["_law_term", "_law_total", "_law_part", "_law_many"] ["_law_term"] ["_law_many"] eR.scope := ⟨rfl, rfl, rfl, by decide +kernel, rfl, rfl, by decide +kernel, by decide +kernel, by decide +kernel, by decide +kernel, by decide +kernel⟩
theorem Bu : dF ["_law_term", "_law_step", "_law_known", "_law_alias"] ["_law_term"] ["_law_step", "_law_known", "_law_alias"] eZ.scope := ⟨rfl, rfl, rfl, by decide +kernel, rfl, rfl, by decide +kernel, by decide +kernel, by decide +kernel, by decide +kernel, by decide +kernel⟩
theorem Bn : az ["thing"] ["thing"] (ai tP) := scF
theorem Bi : az ["thing"] ["thing"] (ai um) := scF
theorem AC : az ["thing"] ["thing"] (ai vt) := scF
theorem wm : az ["part", "signs"] ["part"] (ai tW) := scF
theorem BS : az ["term"] ["term"] (ai uo) := scF
theorem DZ : az ["self", "term"] ["self", "term"] (ai s_2) := scF
theorem Ew : az ["_law_script", "_law_k"] ["_law_script", "_law_k"] (ai s_3) := scF
theorem wf : az ["_law_many", "_law_stamp"] ["_law_many"] (ai ji) := scF
theorem BH : az [] [] (ai jp) := scF
theorem Ev : az ["self"] ["self"] (ai s_1) := scF
theorem wq : az ["numbers"] [] (ai jh) := scF
theorem wd : az ["_law_known", "_law_alias", "_law_step", "_law_stamp"] ["_law_known", "_law_alias", "_law_step"] (ai jt) := scF
theorem BB : az ["_law_way_here", "_law_cell", "_law_known", "_law_alias"] ["_law_way_here", "_law_cell", "_law_known", "_law_alias"] (ai tu) := scF
theorem Dz : az ["_law_cell"] ["_law_cell"] (ai s_6) := scF
theorem gm : az ["_law_place", "_law_many", "_law_turns", "_law_cut"] ["_law_place", "_law_many"] (ai sS) := scF
theorem pA : az ["_law_cell", "_law_some"] ["_law_cell"] (ai vD) := scF
theorem CU : az ["_law_cell"] ["_law_cell"] (ai ub) := scF
theorem pR : az ["_law_stamper_here", "_law_count", "_law_turns", "_law_paper", "_law_height", "_law_terms", "_law_k", "_law_below"] ["_law_stamper_here", "_law_count", "_law_turns", "_law_paper", "_law_height"] (ai s_5) := scF
theorem ED : az ["_law_mark"] ["_law_mark"] (ai s_9) := scF
theorem ko : az ["_law_kind", "_law_cell", "_law_paper", "_law_entry", "_law_marks", "_law_spot", "_law_thing"] ["_law_kind", "_law_cell", "_law_paper"] (ai s_4) := scF
theorem BN : az ["_law_known", "_law_alias", "_law_new", "_law_old"] ["_law_known", "_law_alias", "_law_new", "_law_old"] (ai uC) := scF
theorem AM : az ["thing"] ["thing"] (ai uR) := scF
theorem Dg : az ["count", "place"] ["count", "place"] (ai uJ) := scF
theorem Cy : az ["many"] ["many"] (ai uI) := scF
theorem fD : az ["place", "many", "turns", "first", "rest", "ahead"] ["place", "many"] (ai uq) := scF
theorem Cj : az ["many", "thing"] ["many", "thing"] (ai tK) := scF
theorem By : az ["turns", "thing"] ["turns", "thing"] (ai uD) := scF
theorem Cs : az ["turn", "own", "aside"] ["turn", "own", "aside"] (ai vn) := scF
theorem lN : az ["stamper", "count", "place", "paper", "turns", "terms", "step"] ["stamper", "count", "place", "paper"] (ai uu) := scF
theorem zd : az ["_law_found", "_law_due", "_law_one", "_law_other"] ["_law_found", "_law_due"] (ai s_8) := scF
theorem AE : az ["stamper", "count", "place", "paper"] ["stamper", "count", "place", "paper"] (ai tX) := scF
theorem vZ : az ["_law_stamper_here", "_law_count", "_law_place", "_law_paper", "_law_due", "_law_found"] ["_law_stamper_here", "_law_count", "_law_place", "_law_paper", "_law_due"] (ai sY) := scF
theorem Cr : az ["thing"] ["thing"] (ai uZ) := scF
theorem AT : az ["thing"] ["thing"] (ai uN) := scF
theorem Et : az ["self", "due", "came"] ["self", "due", "came"] (ai s_0) := scF
theorem vQ : az ["stamper", "head", "place", "paper", "came"] ["stamper", "head", "place", "paper"] (ai km) := scF
theorem iN : az ["_law_stamper_here", "_law_head", "_law_place", "_law_paper", "_law_caught", "_law_answer", "e"] ["_law_stamper_here", "_law_head", "_law_place", "_law_paper"] (ai tH) := scF
theorem lS : az ["stamper", "terms", "firsts", "term", "ahead"] ["stamper", "terms"] (ai uW) := scF
theorem Dm : az ["_law_stamper_here", "_law_terms", "_law_found"] ["_law_stamper_here", "_law_terms", "_law_found"] (ai s_7) := scF
theorem cv : az ["_law_script", "_law_way_here", "_law_known", "_law_alias", "_law_stamper_here", "_law_count", "_law_place", "_law_turns", "_law_marks", "_law_one", "_law_ahead", "_law_mark", "_law_other", "_law_height", "_law_behind", "_law_came", "_law_told_here", "_law_terms"] ["_law_script"] (ai tB) := scF
end Rs
namespace Rs
open PySem PySem.Spec PyProof.Rows L2
inductive Dat where
 | non
 | bl (b : Bool)
 | int (i : Int)
 | str (z : Str)
 | lst (ds : List Dat)
 | tup (ds : List Dat)
 | dic
mutual
inductive db (H : Hp) : V → Dat → Prop
 | non : db H .non .non
 | bl (b) : db H (.bl b) (.bl b)
 | int (i) : db H (.int i) (.int i)
 | str (z) : db H (.str z) (.str z)
 | lst {a xs ds} : H a = some (.lst xs) → DatWs H xs ds → db H (.ref a) (.lst ds)
 | tup {a xs ds} : H a = some (.tup xs) → DatWs H xs ds → db H (.ref a) (.tup ds)
 | dic {a} : ((∃ kvs, H a = some (.dK kvs)) ∨ ∃ kvs, H a = some (.dT kvs)) → db H (.ref a) .dic
inductive DatWs (H : Hp) : List V → List Dat → Prop
 | nil : DatWs H [] []
 | cons {x xs d ds} : db H x d → DatWs H xs ds → DatWs H (x :: xs) (d :: ds)
end
mutual
def Dx : Dat → PyData
 | .non => .none
 | .bl b => .bool b
 | .int i => .int i
 | .str z => .str z
 | .lst ds => .list (toPys ds)
 | .tup ds => .tuple (toPys ds)
 | .dic => .none
def toPys : List Dat → List PyData
 | [] => []
 | d :: r => Dx d :: toPys r
end
def bX (z : Str) : Bool := z.cps.all (· < 128)
mutual
def okD : Dat → Bool
 | .str z => bX z && decide (z.length ≤ 100000)
 | .lst ds => okDs ds
 | .tup ds => okDs ds
 | .dic => false
 | .non => true
 | .bl _ => true
 | .int _ => true
def okDs : List Dat → Bool
 | [] => true
 | d :: r => okD d && okDs r
end
def vc : Dat → Bool
 | .int _ => true
 | _ => false
def fj : Dat → Bool
 | .int i => decide (0 ≤ i ∧ i < 10 ^ 60)
 | .str _ => true
 | _ => false
def gt (K : W.Frag) (A : Adr) : Sp := fun vs H Q _ => ∃ v d, vs = [v] ∧ db H v d ∧ Q (.bl (vc d)) H
def gA (K : W.Frag) (A : Adr) : Sp := fun vs H Q _ => ∃ v d, vs = [v] ∧ db H v d ∧ Q (.bl (fj d)) H
def kA : Key → Dat
 | .inl i => .int i
 | .inr z => .str z
def szK : Key → Nat
 | .inl _ => 62
 | .inr z => z.length + 62
def okP : Key → Bool
 | .inl i => decide (0 ≤ i ∧ i < 10 ^ 60)
 | .inr z => bX z && decide (z.length ≤ 100000)
def Bl : Key → Bool
 | .inr _ => true
 | .inl _ => false
def okT (k : List Key) : Bool := decide (1 ≤ k.length ∧ k.length ≤ 8) && (k.head?.map Bl).getD false && k.all okP
def szT (k : List Key) : Nat := (k.map szK).sum
def qk (k : List Key) : Key → Prop
 | .inl i => 0 ≤ i ∧ i < 10 ^ 60
 | .inr z => bX z = true ∧ z.length ≤ szT k
def cb : Key → Str
 | .inl i => toString i ++ ";"
 | .inr z => toString (z.length : Int) ++ ":" ++ z
def bT : List Key → Str
 | [] => Str.empty
 | x :: r => cb x ++ bT r
def qo (H H' : Hp) : Prop := ∀ b o, H b = some o → (∀ ps, o ≠ .tbl ps) → H' b = some o
def ci (kvs : List (List Key × Key)) : List (List Key × V) := kvs.map fun p => (p.1, kV p.2)
def bI (kvs : List (List Key × Key)) (k : List Key) : Option Key := (kvs.find? fun p => decide (p.1 = k)).map (·.2)
def gl : Key → Prop
 | .inl i => 0 ≤ i ∧ i < 10 ^ 60
 | .inr z => bX z = true ∧ z.length ≤ 62
def eK (kvs : List (List Key × Key)) : Prop := ∀ p ∈ kvs, gl p.2
structure eV (A : Adr) (H : Hp) (x d : Addr) (kvs : List (List Key × V)) : Prop where
 ob : ∃ dx, H x = some (.ins A.c_Numbers dx [("given", .ref d)])
 di : H d = some (.dT kvs)
def jK (t : Int) : Key → Int
 | .inr z => 2 * t + z.length
 | .inl i => 2 * t + i
def pN (m : Int) (k : List Key) : Key := .inl (k.foldl jK k.length % m)
def aY (b : Addr) (H H' : Hp) : Prop := ∀ x o, x ≠ b → H x = some o → H' x = some o
def Lin (a c : Int) (kvs : List (List Key × Key)) : Prop := ∀ (i : Nat) (p : List Key × Key), kvs[i]? = some p → p.2 = Sum.inl (a * (i : Int) + c)
inductive Kd where
 | wri
 | cnt
 | wea
 | pla (D : Addr) (al : Option (List Key × List Key))
def alF : Option (List Key × List Key) → List Key → List Key
 | none, k => k
 | some p, k => if k = p.1 then p.2 else k
def iw (H : Hp) (D : Addr) : Option (List Key × List Key) → Prop
 | none => H D = some (.dT [])
 | some p => ∃ o, H D = some (.dT [(p.1, .ref o)]) ∧ H o = some (.tup (p.2.map kV)) ∧ okT p.2 = true
inductive Stp (A : Adr) (H : Hp) (f b : Addr) (d : Kd) (g : List Key → Option Key) (n : Nat) : Prop
 | wri (hc : cV H f eJ [] []) (hb : b = f) (hg : g = fun k => some (.inr (bT k))) (ed : d = .wri)
 | cnt (q x : Addr) (kvs : List (List Key × Key)) (hc : cV H f fb [q] [.ref x]) (num : eV A H x b (ci kvs)) (hl : kvs.length ≤ n) (hs : eK kvs) (st : Lin 1 0 kvs) (hg : g = bI kvs) (ed : d = .cnt)
 | wea (q : Addr) (m : Int) (h1 : 1 ≤ m) (h2 : m ≤ 9) (hc : cV H f eR [q] [.int m]) (hb : b = f) (hg : g = fun k => some (pN m k)) (ed : d = .wea)
 | pla (q0 q1 q2 D : Addr) (j : Int) (h0 : 1 ≤ j) (h1 : j < 1000) (kvs : List (List Key × Key)) (al : Option (List Key × List Key)) (hc : cV H f eZ [q0, q1, q2] [.int j, .ref b, .ref D]) (hb : H b = some (.dT (ci kvs))) (ha : iw H D al) (bD : b ≠ D) (hl : kvs.length ≤ n) (hs : eK kvs) (st : Lin j 5 kvs) (hg : g = fun k => bI kvs (alF al k)) (ed : d = .pla D al)
def Sub (g g' : List Key → Option Key) : Prop := ∀ k v, g k = some v → g' k = some v
def Ext (g : List Key → Option Key) (h : List Key → Key) : Prop := ∀ k v, g k = some v → h k = v
abbrev PK (H : Hp) : List Addr → List (List Key) → Prop := Paired (fun (p : Addr) (k : List Key) => H p = some (.tup (k.map kV)) ∧ okT k = true)
def jE (K : W.Frag) (A : Adr) : Sp := fun vs H Q _ => ∃ (p : Addr) (k : List Key), vs = [.ref p] ∧ H p = some (.tup (k.map kV)) ∧ okT k = true ∧ ∀ H', au H H' → Q (.bl true) H'
def lK (K : W.Frag) (A : Adr) : Sp := fun vs H Q _ => ∃ x : Key, vs = [kV x] ∧ okP x = true ∧ Q (.str (cb x)) H
def jH (K : W.Frag) (A : Adr) : Sp := fun vs H Q _ => ∃ (p : Addr) (k : List Key), vs = [.ref p] ∧ H p = some (.tup (k.map kV)) ∧ okT k = true ∧ ∀ H', au H H' → Q (.str (bT k)) H'
def pX (K : W.Frag) (A : Adr) : Sp := jH K A
def gz (kvs : List (List Key × V)) (kk : List Key) (d : V) : V := (bi kvs kk).getD d
def gD (H : Hp) (b : Addr) (kvs : List (List Key × V)) (kk : List Key) (d : V) : Hp := if (bi kvs kk).isSome = true then H else upd H b (.dT (bK kvs kk d))
def qM (K : W.Frag) (A : Adr) : Sp := fun vs H Q _ => ∃ x dx, vs = [.ref x] ∧ H x = some (.ins A.c_Numbers dx []) ∧ ∀ d, H d = none → Q .non (upd (upd H d (.dT [])) x (.ins A.c_Numbers dx [("given", .ref d)]))
def pQ (K : W.Frag) (A : Adr) : Sp := fun vs H Q _ => ∃ (x d p : Addr) (kvs : List (List Key × V)) (k : List Key), vs = [.ref x, .ref p] ∧ eV A H x d kvs ∧ kvs.length ≤ 50000 ∧ H p = some (.tup (k.map kV)) ∧ okT k = true ∧ ∀ H', au H H' → Q (gz kvs k (.int kvs.length)) (gD H' d kvs k (.int kvs.length))
def pq (K : W.Frag) (A : Adr) : Sp := fun vs H Q _ => ∃ (x d p : Addr) (kvs : List (List Key × V)) (k : List Key), vs = [.ref p, .ref x] ∧ eV A H x d kvs ∧ kvs.length ≤ 50000 ∧ H p = some (.tup (k.map kV)) ∧ okT k = true ∧ ∀ H', au H H' → Q (gz kvs k (.int kvs.length)) (gD H' d kvs k (.int kvs.length))
def bq (P : Addr) (H H' : Hp) : Prop := ∀ b o, H b = some o → b ≠ P → H' b = some o
def pI (K : W.Frag) (A : Adr) : Sp := fun vs H Q _ => ∃ (p : Addr) (m : Int) (k : List Key), vs = [.ref p, .int m] ∧ 1 ≤ m ∧ m ≤ 9 ∧ H p = some (.tup (k.map kV)) ∧ okT k = true ∧ Q (kV (pN m k)) H
def qC (K : W.Frag) (A : Adr) : Sp := fun vs H Q _ => ∃ (p b D : Addr) (j : Int) (k : List Key) (kvs : List (List Key × V)) (al : Option (List Key × List Key)), vs = [.ref p, .int j, .ref b, .ref D] ∧ 0 ≤ j ∧ j < 1000 ∧ H p = some (.tup (k.map kV)) ∧ H b = some (.dT kvs) ∧ iw H D al ∧ kvs.length ≤ 50000 ∧ Q (gz kvs (alF al k) (.int (j * (kvs.length : Int) + 5))) (gD H b kvs (alF al k) (.int (j * (kvs.length : Int) + 5)))
def MkQ (A : Adr) (P : Addr) (d : Kd) (H : Hp) (Q : VK) : Prop := ∀ (f b : Addr) (g : List Key → Option Key) (H' : Hp), bq P H H' → Stp A H' f b d g 0 → H b = none → Q (.ref f) H'
def mm (K : W.Frag) (A : Adr) : Sp := fun vs H Q _ => vs = [] ∧ H A.t_41 = some (.tbl #[]) ∧ MkQ A A.t_41 .wri H Q
def mq (K : W.Frag) (A : Adr) : Sp := fun vs H Q _ => vs = [] ∧ H A.t_24 = some (.tbl #[]) ∧ MkQ A A.t_24 .cnt H Q
def lQ (K : W.Frag) (A : Adr) : Sp := fun vs H Q _ => ∃ m : Int, vs = [.int m] ∧ 1 ≤ m ∧ m ≤ 9 ∧ H A.t_19 = some (.tbl #[]) ∧ MkQ A A.t_19 .wea H Q
def lT (K : W.Frag) (A : Adr) : Sp := fun vs H Q _ => ∃ (b D : Addr) (j : Int), vs = [.ref b, .ref D, .int j] ∧ 1 ≤ j ∧ j < 1000 ∧ H A.t_12 = some (.tbl #[]) ∧ H b = some (.dT []) ∧ H D = some (.dT []) ∧ b ≠ D ∧
 ∀ (f : Addr) (H' : Hp), bq A.t_12 H H' → Stp A H' f b (.pla D none) (fun k => bI [] (alF none k)) 0 → Q (.ref f) H'
def Kd.sure : Kd → Prop
 | .wri => True
 | .cnt => True
 | .wea => False
 | .pla _ al => al = none
def lH (K : W.Frag) (A : Adr) : Sp := fun vs H Q _ => ∃ (w c : Int) (b0 D : Addr), vs = [.int w, .int c, .ref b0, .ref D] ∧ vO A H ∧ H b0 = some (.dT []) ∧ H D = some (.dT []) ∧ b0 ≠ D ∧ 0 ≤ w ∧ w ≤ 3 ∧
 ∀ (f b : Addr) (d : Kd) (g : List Key → Option Key) (H' : Hp), qo H H' → Stp A H' f b d g 0 → (b = b0 ∨ H b = none) → (w = 3 → d.sure) → (w < 2 → d = .pla D none ∧ b = b0) → Q (.ref f) H'
def enK (e : Key) : Prop := okP e = true ∧ szK e ≤ 70
def aX (n : Nat) : Nat := 2 ^ Nat.log2 (n - 1)
def cf : Nat → Nat → Nat → List Int
 | 0, _, _ => []
 | f + 1, p, m => if m ≤ 1 then [] else if p < aX m then 0 :: cf f p (aX m) else 1 :: cf f (p - aX m) (m - aX m)
abbrev aQ (c p : Nat) : List Int := cf 60 p c
def jtT (t : Int) (o a : Key) : List Key := if t = 0 then [.inr "joint", o, a] else [.inr "joint", a, o]
def cj (h : List Key → Key) (c : Int) (e : Key) (st : List (Int × Key)) : Nat → List Key
  | 0 => [.inr "entry", e]
  | i + 1 => match st[i]? with
    | some x => jtT x.1 (h (cj h c e st i)) x.2
    | none => [.inr "row", .inl c, h (cj h c e st i)]
def cD (h : List Key → Key) (c : Int) (e : Key) (st : List (Int × Key)) (m : Nat) : List (List Key) := (List.range m).map (cj h c e st)
def stR (ts : List Int) (ks : List Key) : List (Int × Key) := (ts.zip ks).reverse
structure dO (H : Hp) (P T : Addr) (e : Key) (ks : List Key) : Prop where
 hP : H P = some (.tup [kV e, .ref T])
 hT : H T = some (.tup (ks.map kV))
structure bx (A : Adr) (H : Hp) (f b P T : Addr) (d : Kd) (c : Nat) (ts : List Int) (ks : List Key) (e : Key) (g : List Key → Option Key) (n : Nat) : Prop where
 s : Stp A H f b d g n
 hn : n + 200 ≤ 40000
 c1 : 1 ≤ c
 c2 : c < 2 ^ 60
 tl : ts.length ≤ 60
 t01 : ∀ t ∈ ts, t = 0 ∨ t = 1
 kl : ks.length = ts.length
 ee : enK e
 ke : ∀ k ∈ ks, enK k
 w : dO H P T e ks
def eP (K : W.Frag) (A : Adr) : Sp := fun vs H Q _ => ∃ (a : Addr) (ns : List Int) (k : Int), vs = [.ref a, .int k] ∧ SqL K H a (ns.map V.int) ∧ 0 ≤ k ∧ ∀ z : Int, Q (.int z) H
def mr (K : W.Frag) (A : Adr) : Sp := fun vs H Q _ => ∃ c : Int, vs = [.int c] ∧ ∀ (z : Str) (H' : Hp), au H H' → z.length ≤ 4 → bX z = true → Q (.str z) H'
def fG (K : W.Frag) (A : Adr) : Sp := fun vs H Q _ => ∃ c : Int, vs = [.int c] ∧ ∀ (e : Key) (H' : Hp), au H H' → enK e → Q (kV e) H'
def pT (K : W.Frag) (A : Adr) : Sp := fun vs H Q _ => ∃ c : Int, vs = [.int c] ∧ ∀ m : Nat, 1 ≤ m → m < 2 ^ 60 → Q (.int (m : Int)) H
def lL (K : W.Frag) (A : Adr) : Sp := fun vs H Q _ => ∃ m : Nat, vs = [.int (m : Int)] ∧ 2 ≤ m ∧ m ≤ 2 ^ 60 ∧ Q (.int ((aX m : Nat) : Int)) H
def mj (K : W.Frag) (A : Adr) : Sp := fun vs H Q _ => ∃ p m : Nat, vs = [.int (p : Int), .int (m : Int)] ∧ p < m ∧ m ≤ 2 ^ 60 ∧ ∀ D, H D = none → Q (.ref D) (upd H D (.lst ((aQ m p).map V.int)))
def lY (K : W.Frag) (A : Adr) : Sp := fun vs H Q _ => ∃ p m : Nat, vs = [.int (p : Int), .int (m : Int)] ∧ p < m ∧ m ≤ 2 ^ 60 ∧ ∀ D, H D = none → Q (.ref D) (upd H D (.lst ((aQ m p).map V.int)))
def jU (K : W.Frag) (A : Adr) : Sp := fun vs H Q _ => ∃ i : Int, vs = [.int i] ∧ 0 ≤ i ∧ i < 2 ^ 60 ∧ Q (.bl true) H
def lW (K : W.Frag) (A : Adr) : Sp := fun vs H Q _ => ∃ c p : Int, vs = [.int c, .int p] ∧ 0 ≤ p ∧ p < c ∧ c < 2 ^ 60 ∧ Q (.bl true) H
def lI (K : W.Frag) (A : Adr) : Sp := fun vs H Q _ => ∃ (p : Addr) (c : Nat) (v : Key), vs = [.ref p] ∧ H p = some (.tup [.int (c : Int), kV v]) ∧ c < 2 ^ 60 ∧ okP v = true ∧ Q (.bl true) H
def lM (K : W.Frag) (A : Adr) : Sp := fun vs H Q _ => ∃ (p : Addr) (c : Nat) (v : Key), vs = [.ref p] ∧ H p = some (.tup [.int (c : Int), kV v]) ∧ c < 2 ^ 60 ∧ okP v = true ∧ Q .non H
def lO (K : W.Frag) (A : Adr) : Sp := fun vs H Q _ => ∃ (p : Addr) (ks : List Key), vs = [.int (ks.length : Int), .ref p] ∧ H p = some (.tup (ks.map kV)) ∧ (∀ k ∈ ks, okP k = true) ∧ ks.length ≤ 500 ∧ ∀ H', au H H' → Q (.bl true) H'
def lJ (K : W.Frag) (A : Adr) : Sp := fun vs H Q _ => ∃ (t : Int) (o a : Key), vs = [.int t, kV o, kV a] ∧ ∀ p, H p = none → Q (.ref p) (upd H p (.tup ((jtT t o a).map kV)))
def lP (K : W.Frag) (A : Adr) : Sp := fun vs H Q _ => ∃ (L P T : Addr) (ts : List Int) (e : Key) (ks : List Key), vs = [.ref L, .ref P] ∧ H L = some (.lst (ts.map V.int)) ∧ dO H P T e ks ∧ okP e = true ∧ (∀ k ∈ ks, okP k = true) ∧ ks.length = ts.length ∧ ks.length ≤ 500 ∧ ∀ H', au H H' → Q (.bl true) H'
def gF (A : Adr) (f b : Addr) (d : Kd) (c : Nat) (st : List (Int × Key)) (e : Key) (m : Nat) (g : List Key → Option Key) (n : Nat) (H : Hp) (Q : VK) : Prop :=
 ∀ (M : Addr) (ps : List Addr) (tt : List (List Key)) (g' : List Key → Option Key) (H' : Hp), aY b H H' → Stp A H' f b d g' (n + 70) → Sub g g' → H M = none → M ≠ b → H' M = some (.lst (ps.map V.ref)) → PK H' ps tt → (∀ p ∈ ps, p ≠ b) → tt.length = m → (∀ k ∈ tt, szT k ≤ 20000) → (∀ h, Ext g' h → tt = cD h c e st m) → Q (.ref M) H'
def ik (K : W.Frag) (A : Adr) : Sp := fun vs H Q _ => ∃ (f b L P T : Addr) (d : Kd) (c : Nat) (ts : List Int) (ks : List Key) (e : Key) (g : List Key → Option Key) (n j : Nat), vs = [.ref f, .int (c : Int), .ref L, .ref P, .int (j : Int)] ∧ bx A H f b P T d c ts ks e g n ∧ H L = some (.lst (ts.map V.int)) ∧ j ≤ ts.length + 1 ∧ gF A f b d c (stR ts ks) e (j + 1) g n H Q
def iT (K : W.Frag) (A : Adr) : Sp := fun vs H Q _ => ∃ (f b P T : Addr) (d : Kd) (c p : Nat) (ks : List Key) (e : Key) (g : List Key → Option Key) (n : Nat), vs = [.ref f, .int (c : Int), .int (p : Int), .ref P] ∧ bx A H f b P T d c (aQ c p) ks e g n ∧ p < c ∧ gF A f b d c (stR (aQ c p) ks) e ((aQ c p).length + 2) g n H Q
def qt (A : Adr) (f b : Addr) (d : Kd) (c : Nat) (st : List (Int × Key)) (e : Key) (g : List Key → Option Key) (n : Nat) (H : Hp) (R : Key → Hp → Prop) : Prop :=
 ∀ (w : Key) (g' : List Key → Option Key) (H' : Hp), aY b H H' → Stp A H' f b d g' (n + 71) → Sub g g' → okP w = true → (∀ h, Ext g' h → w = h (cj h c e st (st.length + 1))) → R w H'
def jI (K : W.Frag) (A : Adr) : Sp := fun vs H Q _ => ∃ (f b P T : Addr) (d : Kd) (c p : Nat) (ks : List Key) (e : Key) (g : List Key → Option Key) (n : Nat), vs = [.ref f, .int (c : Int), .int (p : Int), .ref P] ∧ bx A H f b P T d c (aQ c p) ks e g n ∧ p < c ∧ qt A f b d c (stR (aQ c p) ks) e g n H fun w H' => Q (kV w) H'
def qJ (K : W.Frag) (A : Adr) : Sp := fun vs H Q _ => ∃ (a : Addr) (x y : V), vs = [.ref a, x, y] ∧ H a = some (ef A.c_Broken a none) ∧ ∀ dx, H dx = none → Q .non (upd (upd (upd H a (ef A.c_Broken a (some dx))) dx (fL [("due", x)] dx)) dx (fL (cF "came" y [("due", x)]) dx))
def lR (K : W.Frag) (A : Adr) : Sp := fun vs H Q E => ∃ (f b hd P T : Addr) (d : Kd) (c p : Nat) (ks : List Key) (e mk : Key) (g : List Key → Option Key) (n : Nat), vs = [.ref f, .ref hd, .int (p : Int), .ref P] ∧ bx A H f b P T d c (aQ c p) ks e g n ∧ p < c ∧ H hd = some (.tup [.int (c : Int), kV mk]) ∧ okP mk = true ∧
 qt A f b d c (stR (aQ c p) ks) e g n H fun w H' => (w = mk → Q (kV e) H') ∧ (w ≠ mk → ∀ (dx : Addr) (H'' : Hp), au H' H'' → H'' dx = some (fL (cF "came" (kV w) [("due", kV mk)]) dx) → E (.ref A.c_Broken) (some dx) H'')
def dQ (e mk w : Key) : List Key := if w = mk then [.inr "entry", e] else [.inr "broken", mk, w]
def gw (K : W.Frag) (A : Adr) : Sp := fun vs H Q _ => ∃ (f b hd P T : Addr) (d : Kd) (c p : Nat) (ks : List Key) (e mk : Key) (g : List Key → Option Key) (n : Nat), vs = [.ref f, .ref hd, .int (p : Int), .ref P] ∧ bx A H f b P T d c (aQ c p) ks e g n ∧ p < c ∧ H hd = some (.tup [.int (c : Int), kV mk]) ∧ okP mk = true ∧
 qt A f b d c (stR (aQ c p) ks) e g n H fun w H' => ∀ (r : Addr) (H'' : Hp), au H' H'' → H'' r = some (.tup ((dQ e mk w).map kV)) → Q (.ref r) H''
def iu (K : W.Frag) (A : Adr) : Sp := fun vs H Q _ => ∃ m : Key, vs = [kV m] ∧ enK m ∧ ∀ (e : Key) (H' : Hp), au H H' → enK e → Q (kV e) H'
def qf (K : W.Frag) (A : Adr) : Sp := fun vs H Q _ => ∃ (k c : Int) (P T : Addr) (e : Key) (ks : List Key), vs = [.int k, .int c, .ref P] ∧ dO H P T e ks ∧ enK e ∧ (∀ x ∈ ks, enK x) ∧ ks.length ≤ 60 ∧
 ∀ (P' T' : Addr) (e' : Key) (ks' : List Key) (H' : Hp), au H H' → dO H' P' T' e' ks' → enK e' → (∀ x ∈ ks', enK x) → ks'.length = ks.length → Q (.ref P') H'
def jA (K : W.Frag) (A : Adr) : Sp := fun vs H Q _ => ∃ (f b D o1 o2 : Addr) (k1 k2 : List Key) (g : List Key → Option Key) (n : Nat), vs = [.ref b, .ref D, .ref o1, .ref o2] ∧ Stp A H f b (.pla D none) g n ∧ n ≤ 40000 ∧ H o1 = some (.tup (k1.map kV)) ∧ H o2 = some (.tup (k2.map kV)) ∧ okT k1 = true ∧ okT k2 = true ∧
 ∀ (al : Option (List Key × List Key)) (g' : List Key → Option Key) (H' : Hp), aY D H H' → Stp A H' f b (.pla D al) g' n → Sub g g' → Q .non H'
def pE (K : W.Frag) (A : Adr) : Sp := fun vs H Q _ => ∃ (L M : Addr) (ps rs : List Addr) (tt : List (List Key)), vs = [.ref L, .ref M] ∧ H L = some (.lst (ps.map V.ref)) ∧ H M = some (.lst (rs.map V.ref)) ∧ PK H ps tt ∧ PK H rs tt ∧ tt.length ≤ 70 ∧ ∀ H', au H H' → Q (.bl true) H'
def gN (K : W.Frag) (A : Adr) : Sp := fun vs H Q _ => ∃ (f b P T M : Addr) (d : Kd) (c p : Nat) (ks : List Key) (e : Key) (ps : List Addr) (tt : List (List Key)) (g : List Key → Option Key) (n : Nat), vs = [.ref f, .int (c : Int), .int (p : Int), .ref P, .ref M] ∧ bx A H f b P T d c (aQ c p) ks e g n ∧ p < c ∧ H M = some (.lst (ps.map V.ref)) ∧ PK H ps tt ∧ (∀ h, Ext g h → tt = cD h c e (stR (aQ c p) ks) ((aQ c p).length + 2)) ∧ n + 1000 ≤ 40000 ∧
 ∀ (g' : List Key → Option Key) (H' : Hp), aY b H H' → Stp A H' f b d g' (n + 400) → Sub g g' → Q (.bl true) H'
def lZ (h : List Key → Key) (ks : List (List Key)) : Option (List Key × List Key) → Prop
 | none => ∀ (j k : Nat) a b, j < k → ks[j]? = some a → ks[k]? = some b → h a = h b → a = b
 | some r => ∃ j k : Nat, j < k ∧ ks[j]? = some r.1 ∧ ks[k]? = some r.2 ∧ r.1 ≠ r.2 ∧ h r.1 = h r.2 ∧ (∀ (j' k' : Nat) a b, j' < k' → k' < k → ks[j']? = some a → ks[k']? = some b → h a = h b → a = b) ∧ ∀ (j' : Nat) a, j' < j → ks[j']? = some a → h a = h r.2 → a = r.2
def rk (H : Hp) : Option (List Key × List Key) → V → Prop
 | none, v => v = .non
 | some r, v => ∃ p a b : Addr, v = .ref p ∧ H p = some (.tup [.ref a, .ref b]) ∧ H a = some (.tup (r.1.map kV)) ∧ H b = some (.tup (r.2.map kV)) ∧ okT r.1 = true ∧ okT r.2 = true
def gB (K : W.Frag) (A : Adr) : Sp := fun vs H Q _ => ∃ (f b L : Addr) (d : Kd) (ps : List Addr) (ks : List (List Key)) (g : List Key → Option Key) (n : Nat), vs = [.ref f, .ref L] ∧ Stp A H f b d g n ∧ H L = some (.lst (ps.map V.ref)) ∧ PK H ps ks ∧ ks.length ≤ 900 ∧ n ≤ 40000 ∧
 ∀ (v : V) (H' : Hp) (g' : List Key → Option Key) (r : Option (List Key × List Key)), aY b H H' → Stp A H' f b d g' (n + ks.length) → Sub g g' → rk H' r v → (∀ h : List Key → Key, Ext g' h → lZ h ks r) → Q v H'
def mZ (K : W.Frag) (A : Adr) : Sp := fun vs H Q _ => ∃ (f b L : Addr) (d : Kd) (ps : List Addr) (ks : List (List Key)) (r : List Key × List Key) (v : V) (g : List Key → Option Key) (n : Nat), vs = [.ref f, .ref L, v] ∧ Stp A H f b d g n ∧ H L = some (.lst (ps.map V.ref)) ∧ PK H ps ks ∧ ks.length ≤ 900 ∧ n + 10 ≤ 40000 ∧ rk H (some r) v ∧ r.1 ∈ ks ∧ r.2 ∈ ks ∧ r.1 ≠ r.2 ∧ (∀ h, Ext g h → h r.1 = h r.2) ∧
 ∀ H', Q (.bl true) H'
def mn (K : W.Frag) (A : Adr) : Sp := fun vs H Q _ => ∃ (a : Addr) (ns : List Int), vs = [.ref a] ∧ SqL K H a (ns.map V.int) ∧ ns.length ≤ 63 ∧ vO A H ∧ ∀ H', Q (.bl true) H'
end Rs
namespace Rs
open PySem PySem.Spec PyProof.Rows L2
def dq (K : W.Frag) (A : Adr) : L2.jD := [(eJ, pX K A), (fb, pq K A), (eR, pI K A), (eZ, qC K A)]
def Aw (K : W.Frag) (A : Adr) : TE := ar (jH K A) (fun _ => E0) (ad (ac 0) (ag))
def Az (K : W.Frag) (A : Adr) : TE := sm A.c_Numbers "number_of" (pQ K A) (fun _ => E0) (ac 1) (ad (ac 0) (ag))
def An (K : W.Frag) (A : Adr) : TS := av (aF (tCB (bA K) (ad (ac 0) (ag))) (aw 1)) (av (iA (gJ K (ac 0)) (aw 2) (aR (cn K (tCB (cT) (ad (ac 2) (ad (tC (.ty "str")) (ag))))) (aF (tOp (bh K) (tOp (eG) (tC (.int 2)) (ac 1)) (tCB (bA K) (ad (ac 2) (ag)))) (aw 1)) (aF (tOp (bh K) (tOp (eG) (tC (.int 2)) (ac 1)) (ac 2)) (aw 1)))) (aB (tOp (bE) (ac 1) (ac 3))))
def Av (K : W.Frag) (A : Adr) : TS := aB (tBM K "dict" kg (ac 2) (ad (tBM K "dict" wp (ac 3) (ad (ac 0) (ad (ac 0) (ag)))) (ad (tOp (bh K) (tOp (eG) (ac 1) (tCB (bA K) (ad (ac 2) (ag)))) (tC (.int 5))) (ag))))
def Dv (K : W.Frag) (A : Adr) : TS := aB (cL (tCB (cT) (ad (ac 0) (ad (tC (.ty "int")) (ag)))) (qH (tCB (cT) (ad (ac 0) (ad (tC (.ty "bool")) (ag))))))
def Ds (K : W.Frag) (A : Adr) : TS := av (aR (cn K (ar (gt K A) (fun _ => E0) (ad (ac 0) (ag)))) (aB (eL (mLe) (mLt) (tC (.int 0)) (ac 0) (tOp (mM) (tC (.int 10)) (tC (.int 60))))) (aG)) (aB (tCB (cT) (ad (ac 0) (ad (tC (.ty "str")) (ag)))))
def Dj (K : W.Frag) (A : Adr) : TS := av (aR (cS (cn K (tCB (cT) (ad (ac 0) (ad (tC (.ty "tuple")) (ag)))))) (aB (tC (.bl false))) (aG)) (av (aR (cS (aE (eL (mLe) (mLe) (tC (.int 1)) (tCB (bA K) (ad (ac 0) (ag))) (tC (.int 8))))) (aB (tC (.bl false))) (aG)) (aB (cL (tCB (cT) (ad (tOp (aS K) (ac 0) (tC (.int 0))) (ad (tC (.ty "str")) (ag)))) (tCB (vf) (ad (dS [] (gJ K (ac 0)) (fun _ H Q => Q true H) (ar (gA K A) (fun _ => E0) (ad (ac 0) (ag)))) (ag))))))
def DM (K : W.Frag) (A : Adr) : TS := av (aR (cn K (ar (gt K A) (fun _ => E0) (ad (ac 0) (ag)))) (aB (mJ ((pO (ac 0)) :: (tC (.str ";")) :: []) Str.empty)) (aG)) (av (aF (tCB (bA K) (ad (ac 0) (ag))) (aw 1)) (aB (mJ ((pO (ac 1)) :: (tC (.str ":")) :: (pO (ac 0)) :: []) Str.empty)))
def DW (K : W.Frag) (A : Adr) : TS := av (aR (cS (cn K (ar (jE K A) (fun _ => E0) (ad (ac 0) (ag))))) (fv) (aG)) (aB (tBM K "str" me (tC (.str "")) (ad (dS [] (gJ K (ac 0)) (fun _ H Q => Q true H) (ar (lK K A) (fun _ => E0) (ad (ac 0) (ag)))) (ag))))
def T_2 (K : W.Frag) (A : Adr) : TS := av (aR (cS (cn K (ar (jE K A) (fun _ => E0) (ad (ac 1) (ag))))) (fv) (aG)) (av (aR (aE (tOp (fc K) (ac 1) (jZ K (ac 0) "given"))) (aF (tCB (bA K) (ad (jZ K (ac 0) "given") (ag))) (pD (jZ K (ac 0) "given") (ac 1) md)) (aG)) (aB (tOp (aS K) (jZ K (ac 0) "given") (ac 1))))
def T_3 (K : W.Frag) (A : Adr) : TS := av (aR (aE (tOp (mLt) (ac 1) (tCB (bA K) (ad (ac 0) (ag))))) (aB (tOp (aS K) (ac 0) (ac 1))) (aG)) (aB (tC (.int 0)))
def zo (K : W.Frag) (A : Adr) (q0 : Addr) : TSM := qx (ms (aF (jY A.t_19 ⟨138, 4, 145, 37⟩ eR [q0]) (aw 1))) (mG (ac 1))
def yq (K : W.Frag) (A : Adr) : TSM := mG (jY A.t_41 ⟨108, 11, 108, 37⟩ eJ [])
def T_1 (K : W.Frag) (A : Adr) : TS := uA K (ac 0) (hV) "given"
def zk (K : W.Frag) (A : Adr) (q0 : Addr) : TSM := qx (ms (aF (rp A.c_Numbers (qM K A) (fun _ => E0) (ag)) (aw 0))) (mG (jY A.t_24 ⟨111, 11, 111, 47⟩ fb [q0]))
def yH (K : W.Frag) (A : Adr) (q0 q1 q2 : Addr) : TSM := qx (ms (aF (jY A.t_12 ⟨149, 4, 150, 107⟩ eZ [q2, q0, q1]) (aw 3))) (mG (ac 3))
def DU (K : W.Frag) (A : Adr) : TS := av (aR (aE (tOp (bn K) (ac 0) (tC (.int 2)))) (aB (ar (lQ K A) (fun _ => E0) (ad (tOp (bh K) (tC (.int 1)) (tOp (bE) (ac 1) (tC (.int 9)))) (ag)))) (aG)) (av (aR (kr (aE (tOp (bn K) (ac 0) (tC (.int 3)))) (aE (tOp (bn K) (tOp (bE) (ac 1) (tC (.int 3))) (tC (.int 0))))) (aB (ar (mm K A) (fun _ => E0) ag)) (aG)) (av (aR (kr (aE (tOp (bn K) (ac 0) (tC (.int 3)))) (aE (tOp (bn K) (tOp (bE) (ac 1) (tC (.int 3))) (tC (.int 1))))) (aB (ar (mq K A) (fun _ => E0) ag)) (aG)) (aB (ar (lT K A) (fun _ => E0) (ad (ac 2) (ad (ac 3) (ad (tOp (bh K) (tC (.int 1)) (tOp (bE) (ac 1) (tC (.int 9)))) (ag))))))))
def T_6 (K : W.Frag) (A : Adr) : TS := av (aR (aE (tOp (bn K) (tOp (bE) (ac 0) (tC (.int 3))) (tC (.int 0)))) (aB (tOp (bh K) (tC (.int 1)) (tOp (bE) (tOp (bY) (ac 0) (tC (.int 3))) (tC (.int 41))))) (aG)) (av (aR (aE (tOp (bn K) (tOp (bE) (ac 0) (tC (.int 3))) (tC (.int 1)))) (aB (tOp (eN) (tOp (bh K) (tOp (jl) (tC (.int 1)) (tOp (bh K) (tC (.int 1)) (tOp (bE) (tOp (bY) (ac 0) (tC (.int 3))) (tC (.int 59))))) (tOp (bE) (tOp (bY) (ac 0) (tC (.int 177))) (tC (.int 4)))) (tC (.int 1)))) (aG)) (aB (tOp (bh K) (tC (.int 1)) (tOp (bE) (tOp (bY) (ac 0) (tC (.int 3))) (tOp (eN) (tOp (jl) (tC (.int 1)) (tC (.int 60))) (tC (.int 1)))))))
def Dr (K : W.Frag) (A : Adr) : TS := av (aF (io (ag)) (aw 2)) (av (aF (tOp (jl) (tC (.int 1)) (tC (.int 60))) (aw 3)) (av (iD (aE (tOp (mGt) (ac 1) (tC (.int 1)))) (av (iD (aE (tOp (mGe) (ac 3) (ac 1))) (aF (tOp (bY) (ac 3) (tC (.int 2))) (aw 3))) (av (cX (tBM K "list" dj (ac 2) (ad (tCB (pH) (ad (tOp (mGe) (ac 0) (ac 3)) (ag))) (ag)))) (aR (aE (tOp (mGe) (ac 0) (ac 3))) (av (aF (tOp (eN) (ac 0) (ac 3)) (aw 0)) (aF (tOp (eN) (ac 1) (ac 3)) (aw 1))) (aF (ac 3) (aw 1)))))) (aB (ac 2))))
def yB (K : W.Frag) (A : Adr) : TS := aB (tBM K "str" me (tC (.str "")) (ad (dS [0, 1] (iM (ad (tOp (bE) (ac 0) (tC (.int 5))) (ag))) (fun _ H Q => Q true H) (tOp (aS K) (ac 2) (tOp (bE) (tOp (bh K) (tOp (bY) (ac 1) (tC (.int 5))) (tOp (eG) (ac 0) (tOp (bE) (tOp (bY) (ac 1) (tC (.int 470))) (tC (.int 7))))) (tC (.int 94))))) (ag)))
def Du (K : W.Frag) (A : Adr) : TS := av (aF (tC (.str " !\"#$&'()*+,-./0123456789:;<=>?@ABCDEFGHIJKLMNOPQRSTUVWXYZ[\\]^_`")) (aw 1)) (av (aF (tOp (bh K) (ac 1) (tC (.str "abcdefghijklmnopqrstuvwxyz{|}~"))) (aw 1)) (aB (tBM K "str" me (tC (.str "")) (ad (dS [0, 1] (iM (ad (tOp (bE) (ac 0) (tC (.int 5))) (ag))) (fun _ H Q => Q true H) (tOp (aS K) (ac 2) (tOp (bE) (tOp (bh K) (tOp (bY) (ac 1) (tC (.int 5))) (tOp (eG) (ac 0) (tOp (bE) (tOp (bY) (ac 1) (tC (.int 470))) (tC (.int 7))))) (tC (.int 94))))) (ag)))))
def Ea (K : W.Frag) (A : Adr) : TS := av (aR (aE (tOp (bn K) (tOp (bE) (ac 0) (tC (.int 4))) (tC (.int 0)))) (aB (ar (mr K A) (fun _ => E0) (ad (tOp (bY) (ac 0) (tC (.int 4))) (ag)))) (aG)) (av (aR (aE (tOp (bn K) (tOp (bE) (ac 0) (tC (.int 4))) (tC (.int 1)))) (aB (tOp (bE) (tOp (bY) (ac 0) (tC (.int 4))) (tOp (mM) (tC (.int 10)) (tC (.int 60))))) (aG)) (aB (tOp (bE) (tOp (bY) (ac 0) (tC (.int 4))) (tC (.int 7)))))
def T_5 (K : W.Frag) (A : Adr) : TS := av (aF (io (ad (bw (ad (tC (.str "entry")) (ad (tOp (aS K) (ac 3) (tC (.int 0))) (ag)))) (ag))) (aw 5)) (av (iA (iM (ad (ac 4) (ag))) (aw 6) (av (aF (dB (dq K A) (fun _ => E0) (ac 0) (ad (tOp (aS K) (ac 5) (tUn du (tC (.int 1)))) (ag))) (aw 7)) (aR (aE (tOp (bn K) (ac 6) (tCB (bA K) (ad (ac 2) (ag))))) (cX (tBM K "list" dj (ac 5) (ad (bw (ad (tC (.str "row")) (ad (ac 1) (ad (ac 7) (ag))))) (ag)))) (aR (aE (tOp (bn K) (tOp (aS K) (ac 2) (tOp (eN) (tUn du (tC (.int 1))) (ac 6))) (tC (.int 1)))) (cX (tBM K "list" dj (ac 5) (ad (bw (ad (tC (.str "joint")) (ad (tOp (aS K) (tOp (aS K) (ac 3) (tC (.int 1))) (tOp (eN) (tUn du (tC (.int 1))) (ac 6))) (ad (ac 7) (ag))))) (ag)))) (cX (tBM K "list" dj (ac 5) (ad (bw (ad (tC (.str "joint")) (ad (ac 7) (ad (tOp (aS K) (tOp (aS K) (ac 3) (tC (.int 1))) (tOp (eN) (tUn du (tC (.int 1))) (ac 6))) (ag))))) (ag)))))))) (aB (ac 5)))
def T_9 (K : W.Frag) (A : Adr) : TS := av (aR (cn K (tCB (cT) (ad (ac 0) (ad (tC (.ty "str")) (ag))))) (aB (tOp (eG) (tOp (aS K) (io (ad (tC (.str "z")) (ad (tC (.str "y")) (ag)))) (tCB (pH) (ad (tOp (bn K) (tSl (ig K) (ac 0) (dh) (eY (tC (.int 1)))) (tC (.str "z"))) (ag)))) (tCB (bA K) (ad (ac 0) (ag))))) (aG)) (aB (tOp (bE) (tOp (bh K) (ac 0) (tC (.int 2520))) (tOp (mM) (tC (.int 10)) (tC (.int 60)))))
def wk (K : W.Frag) (A : Adr) : TS := aB (bw (ad (ac 3) (ad (tOp (bh K) (tOp (bh K) (tSl (ig K) (ac 4) (dh) (eY (ac 5))) (bw (ad (ac 6) (ag)))) (tSl (ig K) (ac 4) (eY (tOp (bh K) (ac 5) (tC (.int 1)))) (dh))) (ag))))
def AN (K : W.Frag) (A : Adr) : TS := av (aR (aE (tOp (bn K) (ac 0) (tC (.int 5)))) (aF (ar (iu K A) (fun _ => E0) (ad (ac 3) (ag))) (aw 3)) (aG)) (wk K A)
def T_4 (K : W.Frag) (A : Adr) : TS := av (aF (ac 2) (mK K 2 (eT (aw 3) (eT (aw 4) mx)))) (av (aR (aE (tOp (bn K) (ac 0) (tC (.int 0)))) (aB (bw (ad (ar (iu K A) (fun _ => E0) (ad (ac 3) (ag))) (ad (ac 4) (ag))))) (aG)) (av (aR (mOr (aE (tOp (bn K) (ac 0) (tC (.int 1)))) (aE (tOp (bn K) (tCB (bA K) (ad (ac 4) (ag))) (tC (.int 0))))) (aB (bw (ad (ar (fG K A) (fun _ => E0) (ad (ac 1) (ag))) (ad (ac 4) (ag))))) (aG)) (av (aR (aE (tOp (bn K) (ac 0) (tC (.int 2)))) (aB (bw (ad (ac 3) (ad (tCB (oM K) (ad (ac 4) (ag))) (ag))))) (aG)) (av (aR (aE (tOp (bn K) (ac 0) (tC (.int 3)))) (aB (bw (ad (ar (iu K A) (fun _ => E0) (ad (ac 3) (ag))) (ad (tOp (bh K) (tSl (ig K) (ac 4) (eY (tC (.int 1))) (dh)) (tSl (ig K) (ac 4) (dh) (eY (tC (.int 1))))) (ag))))) (aG)) (av (aF (tOp (bE) (ac 1) (tCB (bA K) (ad (ac 4) (ag)))) (aw 5)) (av (aF (ar (iu K A) (fun _ => E0) (ad (tOp (aS K) (ac 4) (ac 5)) (ag))) (aw 6)) (av (aR (aE (tOp (bn K) (ac 0) (tC (.int 4)))) (aF (ar (fG K A) (fun _ => E0) (ad (tOp (bY) (ac 1) (tC (.int 60))) (ag))) (aw 6)) (aG)) (av (aR (aE (tOp (bn K) (ac 0) (tC (.int 5)))) (aF (ar (iu K A) (fun _ => E0) (ad (ac 3) (ag))) (aw 3)) (aG)) (aB (bw (ad (ac 3) (ad (tOp (bh K) (tOp (bh K) (tSl (ig K) (ac 4) (dh) (eY (ac 5))) (bw (ad (ac 6) (ag)))) (tSl (ig K) (ac 4) (eY (tOp (bh K) (ac 5) (tC (.int 1)))) (dh))) (ag)))))))))))))
def Dh (K : W.Frag) (A : Adr) : TS := aR (aE (tOp (fc K) (ac 2) (ac 0))) (aF (ac 3) (pD (ac 1) (ac 2) md)) (aG)
def Do (K : W.Frag) (A : Adr) : TS := aB (cL (ar (gt K A) (fun _ => E0) (ad (ac 0) (ag))) (eL (mLe) (mLt) (tC (.int 0)) (ac 0) (tOp (jl) (tC (.int 1)) (tC (.int 60)))))
def Ek (K : W.Frag) (A : Adr) : TS := aB (cL (ar (jU K A) (fun _ => E0) (ad (ac 0) (ag))) (cL (ar (gt K A) (fun _ => E0) (ad (ac 1) (ag))) (eL (mLe) (mLt) (tC (.int 0)) (ac 1) (ac 0))))
def DQ (K : W.Frag) (A : Adr) : TS := aB (tOp (jl) (tC (.int 1)) (tOp (eN) (qz K "int" qi (tOp (eN) (ac 0) (tC (.int 1)))) (tC (.int 1))))
def Dp (K : W.Frag) (A : Adr) : TS := av (aF (io (ag)) (aw 2)) (av (aF (tC (.int 0)) (aw 3)) (av (aF (ac 1) (aw 4)) (av (iD (aE (tOp (mGt) (ac 4) (tC (.int 1)))) (av (aF (ar (lL K A) (fun _ => E0) (ad (ac 4) (ag))) (aw 5)) (aR (aE (tOp (mLt) (ac 0) (tOp (bh K) (ac 3) (ac 5)))) (av (cX (tBM K "list" dj (ac 2) (ad (tC (.int 0)) (ag)))) (aF (ac 5) (aw 4))) (av (cX (tBM K "list" dj (ac 2) (ad (tC (.int 1)) (ag)))) (av (aF (tOp (bh K) (ac 3) (ac 5)) (aw 3)) (aF (tOp (eN) (ac 4) (ac 5)) (aw 4))))))) (aB (ac 2)))))
def Ef (K : W.Frag) (A : Adr) : TS := aB (cL (tCB (cT) (ad (ac 1) (ad (tC (.ty "tuple")) (ag)))) (cL (tOp (bn K) (tCB (bA K) (ad (ac 1) (ag))) (ac 0)) (tCB (vf) (ad (dS [] (gJ K (ac 1)) (fun _ H Q => Q true H) (ar (gA K A) (fun _ => E0) (ad (ac 0) (ag)))) (ag)))))
def Ee (K : W.Frag) (A : Adr) : TS := av (aR (mOr (cS (cn K (tCB (cT) (ad (ac 1) (ad (tC (.ty "tuple")) (ag)))))) (aE (tOp (cU K) (tCB (bA K) (ad (ac 1) (ag))) (tC (.int 2))))) (aB (tC (.bl false))) (aG)) (aB (cL (ar (gA K A) (fun _ => E0) (ad (tOp (aS K) (ac 1) (tC (.int 0))) (ag))) (ar (lO K A) (fun _ => E0) (ad (tCB (bA K) (ad (ac 0) (ag))) (ad (tOp (aS K) (ac 1) (tC (.int 1))) (ag))))))
def DA (K : W.Frag) (A : Adr) : TS := aB (mIf (aE (tOp (bn K) (ac 0) (tC (.int 0)))) (bw (ad (tC (.str "joint")) (ad (ac 1) (ad (ac 2) (ag))))) (bw (ad (tC (.str "joint")) (ad (ac 2) (ad (ac 1) (ag))))))
def Dq (K : W.Frag) (A : Adr) : TS := av (aR (cS (cn K (ar (lW K A) (fun _ => E0) (ad (ac 1) (ad (ac 2) (ag)))))) (fv) (aG)) (av (aF (ar (mj K A) (fun _ => E0) (ad (ac 2) (ad (ac 1) (ag)))) (aw 4)) (av (aR (cS (cn K (ar (lP K A) (fun _ => E0) (ad (ac 4) (ad (ac 3) (ag)))))) (fv) (aG)) (av (aF (io (ad (bw (ad (tC (.str "entry")) (ad (tOp (aS K) (ac 3) (tC (.int 0))) (ag)))) (ag))) (aw 5)) (av (iA (vW K (ad (tCB (mX K) (ad (ac 4) (ad (tOp (aS K) (ac 3) (tC (.int 1))) (ag)))) (ag))) (aw 6) (cX (tBM K "list" dj (ac 5) (ad (ar (lJ K A) (fun _ => E0) (ad (tOp (aS K) (ac 6) (tC (.int 0))) (ad (dB (dq K A) (fun _ => E0) (ac 0) (ad (tOp (aS K) (ac 5) (tUn du (tC (.int 1)))) (ag))) (ad (tOp (aS K) (ac 6) (tC (.int 1))) (ag))))) (ag))))) (av (cX (tBM K "list" dj (ac 5) (ad (bw (ad (tC (.str "row")) (ad (ac 1) (ad (dB (dq K A) (fun _ => E0) (ac 0) (ad (tOp (aS K) (ac 5) (tUn du (tC (.int 1)))) (ag))) (ag))))) (ag)))) (aB (ac 5)))))))
def T_8 (K : W.Frag) (A : Adr) : TS := av (aR (mOr (cS (cn K (tCB (cT) (ad (ac 0) (ad (tC (.ty "list")) (ag)))))) (aE (tOp (cU K) (tCB (bA K) (ad (ac 0) (ag))) (tCB (bA K) (ad (ac 1) (ag)))))) (aB (tC (.bl false))) (aG)) (av (iA (wn K (ad (ac 0) (ad (ac 1) (ag)))) (mK K 2 (eT (aw 2) (eT (aw 3) mx))) (aR (mOr (cS (cn K (tCB (cT) (ad (ac 2) (ad (tC (.ty "tuple")) (ag)))))) (mOr (aE (tOp (cU K) (ac 2) (ac 3))) (aE (tOp (cU K) (dS [] (gJ K (ac 2)) (cn K (tCB (cT) (ad (ac 0) (ad (tC (.ty "bool")) (ag))))) (ac 0)) (io (ag)))))) (aB (tC (.bl false))) (aG))) (aB (tC (.bl true))))
def Ez (K : W.Frag) (A : Adr) : TS := aB (dB (dq K A) (fun _ => E0) (ac 0) (ad (tOp (aS K) (ar (iT K A) (fun _ => E0) (ad (ac 0) (ad (ac 1) (ad (ac 2) (ad (ac 3) (ag)))))) (tUn du (tC (.int 1)))) (ag)))
def EC (K : W.Frag) (A : Adr) : TS := av (aF (ar (iT K A) (fun _ => E0) (ad (ac 0) (ad (ac 1) (ad (ac 2) (ad (ac 3) (ag)))))) (aw 5)) (av (aR (cS (cn K (ar (pE K A) (fun _ => E0) (ad (ac 5) (ad (ac 4) (ag)))))) (aB (tC (.bl false))) (aG)) (av (cX (qz K "list" rP (ac 5))) (av (aR (aE (tOp (cU K) (ar (jI K A) (fun _ => E0) (ad (ac 0) (ad (ac 1) (ad (ac 2) (ad (ac 3) (ag)))))) (dB (dq K A) (fun _ => E0) (ac 0) (ad (tOp (aS K) (ac 4) (tUn du (tC (.int 1)))) (ag))))) (aB (tC (.bl false))) (aG)) (aB (tOp (bn K) (ar (iT K A) (fun _ => E0) (ad (ac 0) (ad (ac 1) (ad (ac 2) (ad (ac 3) (ag)))))) (ac 4))))))
def DR (K : W.Frag) (A : Adr) : TS := aB (cL (tCB (cT) (ad (ac 0) (ad (tC (.ty "tuple")) (ag)))) (cL (tOp (bn K) (tCB (bA K) (ad (ac 0) (ag))) (tC (.int 2))) (cL (ar (jU K A) (fun _ => E0) (ad (tOp (aS K) (ac 0) (tC (.int 0))) (ag))) (ar (gA K A) (fun _ => E0) (ad (tOp (aS K) (ac 0) (tC (.int 1))) (ag))))))
def Ex (K : W.Frag) (A : Adr) : TS := aR (cS (cn K (ar (lI K A) (fun _ => E0) (ad (ac 0) (ag))))) (fv) (aG)
def T_0 (K : W.Frag) (A : Adr) : TS := av (qe K A.c_Broken (ac 0) (ac 1) "due") (qe K A.c_Broken (ac 0) (ac 2) "came")
def Af (K : W.Frag) (A : Adr) (E : XK) : TS := av (cX (ar (lM K A) (fun _ => E0) (ad (ac 1) (ag)))) (av (aF (ar (jI K A) (fun _ => E0) (ad (ac 0) (ad (tOp (aS K) (ac 1) (tC (.int 0))) (ad (ac 2) (ad (ac 3) (ag)))))) (aw 4)) (av (aR (aE (tOp (cU K) (ac 4) (tOp (aS K) (ac 1) (tC (.int 1))))) (og A.c_Broken (qJ K A) (fun _ => E) (ad (tOp (aS K) (ac 1) (tC (.int 1))) (ad (ac 4) (ag)))) (aG)) (aB (tOp (aS K) (ac 3) (tC (.int 0))))))
def DD (K : W.Frag) (A : Adr) : TS := av (aF (tC .non) (aw 4)) (av (aF (tC .non) (aw 5)) (av (yp K (fun EH => aF (ar (lR K A) EH (ad (ac 0) (ad (ac 1) (ad (ac 2) (ad (ac 3) (ag)))))) (aw 5)) (hAs K A.c_Broken 6 (aF (ac 6) (aw 4)) (wa)) (aG)) (av (aR (aE (tOp (ut) (ac 4) (tC .non))) (aB (bw (ad (tC (.str "entry")) (ad (ac 5) (ag))))) (aG)) (aB (bw (ad (tC (.str "broken")) (ad (pU K (ac 4) "due") (ad (pU K (ac 4) "came") (ag)))))))))
def Dw (K : W.Frag) (A : Adr) : TS := av (aF (hV) (aw 2)) (av (iA (gJ K (ac 1)) (aw 3) (av (aF (tBM K "dict" kg (ac 2) (ad (dB (dq K A) (fun _ => E0) (ac 0) (ad (ac 3) (ag))) (ad (ac 3) (ag)))) (aw 4)) (aR (aE (tOp (cU K) (ac 4) (ac 3))) (aB (bw (ad (ac 4) (ad (ac 3) (ag))))) (aG)))) (aB (tC .non)))
def T_7 (K : W.Frag) (A : Adr) : TS := av (aR (mOr (cS (cn K (tCB (cT) (ad (ac 2) (ad (tC (.ty "tuple")) (ag)))))) (mOr (aE (tOp (cU K) (tCB (bA K) (ad (ac 2) (ag))) (tC (.int 2)))) (aE (tOp (bn K) (tOp (aS K) (ac 2) (tC (.int 0))) (tOp (aS K) (ac 2) (tC (.int 1))))))) (aB (tC (.bl false))) (aG)) (av (aR (mOr (aE (tOp (fc K) (tOp (aS K) (ac 2) (tC (.int 0))) (ac 1))) (aE (tOp (fc K) (tOp (aS K) (ac 2) (tC (.int 1))) (ac 1)))) (aB (tC (.bl false))) (aG)) (aB (tOp (bn K) (dB (dq K A) (fun _ => E0) (ac 0) (ad (tOp (aS K) (ac 2) (tC (.int 0))) (ag))) (dB (dq K A) (fun _ => E0) (ac 0) (ad (tOp (aS K) (ac 2) (tC (.int 1))) (ag))))))
def xH (K : W.Frag) (A : Adr) : TS := aB (cL (tOp (mLt) (ac 1) (tC (.int 3))) (ar (mZ K A) (fun _ => E0) (ad (ac 4) (ad (ac 17) (ad (ar (gB K A) (fun _ => E0) (ad (ac 4) (ad (ac 17) (ag)))) (ag))))))
def xh (K : W.Frag) (A : Adr) : TS := av (aF (tOp (bh K) (ac 10) (ac 14)) (aw 17)) (xH K A)
def oO (K : W.Frag) (A : Adr) : TS := av (aR (aE (tOp (bn K) (ac 12) (ac 9))) (aB (tC (.bl true))) (aG)) (xh K A)
def wA (K : W.Frag) (A : Adr) : TS := av (aR (mOr (aE (tOp (cU K) (ac 16) (bw (ad (tC (.str "entry")) (ad (tOp (aS K) (ac 12) (tC (.int 0))) (ag)))))) (cn K (tCB (cT) (ad (tOp (aS K) (ac 16) (tC (.int 1))) (ad (tC (.ty "bool")) (ag)))))) (aB (tC (.bl false))) (aG)) (oO K A)
def pi (K : W.Frag) (A : Adr) : TS := av (aR (aE (tOp (cU K) (ac 15) (ac 11))) (aB (tOp (bn K) (ac 16) (bw (ad (tC (.str "broken")) (ad (ac 11) (ad (ac 15) (ag))))))) (aG)) (wA K A)
def oB (K : W.Frag) (A : Adr) : TS := av (aR (kr (aE (tOp (bn K) (ac 1) (tC (.int 3)))) (aE (tOp (lU) (ar (gB K A) (fun _ => E0) (ad (ac 4) (ad (tOp (bh K) (ac 10) (ac 14)) (ag)))) (tC .non)))) (aB (tC (.bl false))) (aG)) (pi K A)
def wQ (K : W.Frag) (A : Adr) : TS := av (aF (ar (gw K A) (fun _ => E0) (ad (ac 4) (ad (bw (ad (ac 5) (ad (ac 11) (ag)))) (ad (ac 6) (ad (ac 12) (ag)))))) (aw 16)) (oB K A)
def xm (K : W.Frag) (A : Adr) : TS := av (aR (aE (tOp (cU K) (ar (gw K A) (fun _ => E0) (ad (ac 4) (ad (bw (ad (ac 5) (ad (ac 11) (ag)))) (ad (ac 6) (ad (ac 9) (ag)))))) (bw (ad (tC (.str "entry")) (ad (tOp (aS K) (ac 9) (tC (.int 0))) (ag)))))) (aB (tC (.bl false))) (aG)) (wQ K A)
def xl (K : W.Frag) (A : Adr) : TS := av (aR (cS (cn K (ar (gN K A) (fun _ => E0) (ad (ac 4) (ad (ac 5) (ad (ac 6) (ad (ac 12) (ad (ac 14) (ag))))))))) (aB (tC (.bl false))) (aG)) (xm K A)
def oa (K : W.Frag) (A : Adr) : TS := av (aR (cS (cn K (ar (gN K A) (fun _ => E0) (ad (ac 4) (ad (ac 5) (ad (ac 6) (ad (ac 9) (ad (ac 10) (ag))))))))) (aB (tC (.bl false))) (aG)) (xl K A)
def xf (K : W.Frag) (A : Adr) : TS := av (aF (dB (dq K A) (fun _ => E0) (ac 4) (ad (tOp (aS K) (ac 14) (tUn du (tC (.int 1)))) (ag))) (aw 15)) (oa K A)
def oW (K : W.Frag) (A : Adr) : TS := av (aF (ar (ik K A) (fun _ => E0) (ad (ac 4) (ad (ac 5) (ad (ac 7) (ad (ac 12) (ad (tOp (bh K) (tCB (bA K) (ad (ac 7) (ag))) (tC (.int 1))) (ag))))))) (aw 14)) (xf K A)
def xF (K : W.Frag) (A : Adr) : TS := av (aR (aE (tOp (mLt) (ac 1) (tC (.int 2)))) (cX (ar (jA K A) (fun _ => E0) (ad (ac 2) (ad (ac 3) (ad (tOp (aS K) (ar (ik K A) (fun _ => E0) (ad (ac 4) (ad (ac 5) (ad (ac 7) (ad (ac 12) (ad (ac 13) (ag))))))) (tUn du (tC (.int 1)))) (ad (tOp (aS K) (ac 10) (ac 13)) (ag))))))) (aG)) (oW K A)
def Dn (K : W.Frag) (A : Adr) : TS := av (aF (tOp (bE) (ar (eP K A) (fun _ => E0) (ad (ac 0) (ad (tC (.int 0)) (ag)))) (tC (.int 4))) (aw 1)) (av (aF (hV) (aw 2)) (av (aF (hV) (aw 3)) (av (aF (ar (lH K A) (fun _ => E0) (ad (ac 1) (ad (tOp (bY) (ar (eP K A) (fun _ => E0) (ad (ac 0) (ad (tC (.int 0)) (ag)))) (tC (.int 4))) (ad (ac 2) (ad (ac 3) (ag)))))) (aw 4)) (av (aF (ar (pT K A) (fun _ => E0) (ad (ar (eP K A) (fun _ => E0) (ad (ac 0) (ad (tC (.int 1)) (ag)))) (ag))) (aw 5)) (av (aF (tOp (bE) (ar (eP K A) (fun _ => E0) (ad (ac 0) (ad (tC (.int 2)) (ag)))) (ac 5)) (aw 6)) (av (aF (ar (lY K A) (fun _ => E0) (ad (ac 6) (ad (ac 5) (ag)))) (aw 7)) (av (aF (dS [0] (iM (ad (tCB (bA K) (ad (ac 7) (ag))) (ag))) (fun _ H Q => Q true H) (ar (fG K A) (fun _ => E0) (ad (tOp (bh K) (ar (eP K A) (fun _ => E0) (ad (ac 1) (ad (tOp (bh K) (tC (.int 6)) (ac 0)) (ag)))) (tOp (eG) (tC (.int 5)) (ac 0))) (ag)))) (aw 8)) (av (aF (bw (ad (ar (fG K A) (fun _ => E0) (ad (ar (eP K A) (fun _ => E0) (ad (ac 0) (ad (tC (.int 3)) (ag)))) (ag))) (ad (tCB (sO K) (ad (ac 8) (ag))) (ag)))) (aw 9)) (av (aF (ar (ik K A) (fun _ => E0) (ad (ac 4) (ad (ac 5) (ad (ac 7) (ad (ac 9) (ad (tOp (bh K) (tCB (bA K) (ad (ac 7) (ag))) (tC (.int 1))) (ag))))))) (aw 10)) (av (aF (dB (dq K A) (fun _ => E0) (ac 4) (ad (tOp (aS K) (ac 10) (tUn du (tC (.int 1)))) (ag))) (aw 11)) (av (aF (ar (qf K A) (fun _ => E0) (ad (tOp (bE) (ar (eP K A) (fun _ => E0) (ad (ac 0) (ad (tC (.int 4)) (ag)))) (tC (.int 7))) (ad (tOp (bY) (ar (eP K A) (fun _ => E0) (ad (ac 0) (ad (tC (.int 4)) (ag)))) (tC (.int 7))) (ad (ac 9) (ag))))) (aw 12)) (av (aF (tOp (bE) (ar (eP K A) (fun _ => E0) (ad (ac 0) (ad (tC (.int 5)) (ag)))) (tCB (bA K) (ad (ac 10) (ag)))) (aw 13)) (av (aR (aE (tOp (mLt) (ac 1) (tC (.int 2)))) (cX (ar (jA K A) (fun _ => E0) (ad (ac 2) (ad (ac 3) (ad (tOp (aS K) (ar (ik K A) (fun _ => E0) (ad (ac 4) (ad (ac 5) (ad (ac 7) (ad (ac 12) (ad (ac 13) (ag))))))) (tUn du (tC (.int 1)))) (ad (tOp (aS K) (ac 10) (ac 13)) (ag))))))) (aG)) (av (aF (ar (ik K A) (fun _ => E0) (ad (ac 4) (ad (ac 5) (ad (ac 7) (ad (ac 12) (ad (tOp (bh K) (tCB (bA K) (ad (ac 7) (ag))) (tC (.int 1))) (ag))))))) (aw 14)) (av (aF (dB (dq K A) (fun _ => E0) (ac 4) (ad (tOp (aS K) (ac 14) (tUn du (tC (.int 1)))) (ag))) (aw 15)) (av (aR (cS (cn K (ar (gN K A) (fun _ => E0) (ad (ac 4) (ad (ac 5) (ad (ac 6) (ad (ac 9) (ad (ac 10) (ag))))))))) (aB (tC (.bl false))) (aG)) (av (aR (cS (cn K (ar (gN K A) (fun _ => E0) (ad (ac 4) (ad (ac 5) (ad (ac 6) (ad (ac 12) (ad (ac 14) (ag))))))))) (aB (tC (.bl false))) (aG)) (av (aR (aE (tOp (cU K) (ar (gw K A) (fun _ => E0) (ad (ac 4) (ad (bw (ad (ac 5) (ad (ac 11) (ag)))) (ad (ac 6) (ad (ac 9) (ag)))))) (bw (ad (tC (.str "entry")) (ad (tOp (aS K) (ac 9) (tC (.int 0))) (ag)))))) (aB (tC (.bl false))) (aG)) (av (aF (ar (gw K A) (fun _ => E0) (ad (ac 4) (ad (bw (ad (ac 5) (ad (ac 11) (ag)))) (ad (ac 6) (ad (ac 12) (ag)))))) (aw 16)) (av (aR (kr (aE (tOp (bn K) (ac 1) (tC (.int 3)))) (aE (tOp (lU) (ar (gB K A) (fun _ => E0) (ad (ac 4) (ad (tOp (bh K) (ac 10) (ac 14)) (ag)))) (tC .non)))) (aB (tC (.bl false))) (aG)) (av (aR (aE (tOp (cU K) (ac 15) (ac 11))) (aB (tOp (bn K) (ac 16) (bw (ad (tC (.str "broken")) (ad (ac 11) (ad (ac 15) (ag))))))) (aG)) (av (aR (mOr (aE (tOp (cU K) (ac 16) (bw (ad (tC (.str "entry")) (ad (tOp (aS K) (ac 12) (tC (.int 0))) (ag)))))) (cn K (tCB (cT) (ad (tOp (aS K) (ac 16) (tC (.int 1))) (ad (tC (.ty "bool")) (ag)))))) (aB (tC (.bl false))) (aG)) (av (aR (aE (tOp (bn K) (ac 12) (ac 9))) (aB (tC (.bl true))) (aG)) (av (aF (tOp (bh K) (ac 10) (ac 14)) (aw 17)) (aB (cL (tOp (mLt) (ac 1) (tC (.int 3))) (ar (mZ K A) (fun _ => E0) (ad (ac 4) (ad (ac 17) (ad (ar (gB K A) (fun _ => E0) (ad (ac 4) (ad (ac 17) (ag)))) (ag)))))))))))))))))))))))))))))))
end Rs
namespace Rs
open PySem PySem.Spec PyProof.Rows L2
def tyD : Dat → String
 | .non => "NoneType"
 | .bl _ => "bool"
 | .int _ => "int"
 | .str _ => "str"
 | .lst _ => "list"
 | .tup _ => "tuple"
 | .dic => "dict"
theorem db.ty {H : Hp} {v : V} {d : Dat} (h : db H v d) : tyN H v = some (tyD d) := by
 cases h with
 | lst e _ => unfold tyN; dsimp only; rw [e]; rfl
 | tup e _ => unfold tyN; dsimp only; rw [e]; rfl
 | dic e => unfold tyN; dsimp only; rcases e with ⟨kvs, e⟩ | ⟨kvs, e⟩ <;> rw [e] <;> rfl
 | _ => rfl
theorem sF {z : Str} (h : bX z = true) : PyData.strOk z = true := by
 unfold PyData.strOk
 unfold bX at h
 rw [Array.all_eq_true] at h ⊢
 intro i hi
 have := of_decide_eq_true (h i hi)
 exact decide_eq_true (by omega)
theorem ixT {K : W.Frag} {H : Hp} {Q : VK} {a : Addr} {xs : List V} {x : V} {i : Int} {j : Nat} (ha : H a = some (.tup xs)) (e : i = j) (hx : xs[j]? = some x) (q : Q x H) : aS K (.ref a) (.int i) H Q := by
 subst e
 refine .inl (.inr (.inl ⟨a, xs, j, x, rfl, rfl, SqT.of ha, ?_, q⟩))
 have hj := (List.getElem?_eq_some_iff.mp hx).1
 rw [si (by omega) (by omega)]
 simp [List.getD_eq_getElem?_getD, hx]
variable {K : W.Frag} {mg : Str → Option Value} {A : Adr}
theorem yz (K : W.Frag) (A : Adr) : Ln (gt K A) 1 := by rintro vs H Q E ⟨v, d, rfl, _⟩; rfl
theorem Bt (T : Txt K mg A) (vs : List V) (H : Hp) (Q : VK) (E : XK) (h : gt K A vs H Q E) : Dv K A { nx := fun _ H' => Q .non H', rt := Q } (start ["thing"] vs) H := by
 obtain ⟨v, d, rfl, w, q⟩ := h
 refine ⟨by decide, _, w.ty, ?_⟩
 cases d
 case int i => exact Sel.yes rfl ⟨by decide, _, w.ty, q⟩
 case bl b => exact Sel.yes rfl ⟨by decide, _, w.ty, q⟩
 all_goals exact Sel.no rfl q
theorem yL (K : W.Frag) (A : Adr) : Ln (gA K A) 1 := by rintro vs H Q E ⟨v, d, rfl, _⟩; rfl
theorem AV (T : Txt K mg A) (vs : List V) (H : Hp) (Q : VK) (E : XK) (h : gA K A vs H Q E) : Ds K A { nx := fun _ H' => Q .non H', rt := Q } (start ["thing"] vs) H := by
  obtain ⟨v, d, rfl, w, q⟩ := h
  refine ⟨v, d, rfl, w, ?_⟩
  cases w with
  | int i =>
    refine Sel.yes rfl (Sel.dec (fun h0 => ⟨⟨by decide, by decide, by decide⟩, ?_⟩) (fun h0 => ?_))
    · show Q (.bl (decide (i < 10 ^ ((60 : Int).toNat)))) H
      have e : fj (.int i) = decide (i < 10 ^ ((60 : Int).toNat)) := by
        show decide (0 ≤ i ∧ i < 10 ^ 60) = decide (i < 10 ^ 60)
        by_cases h1 : i < 10 ^ 60
        · rw [decide_eq_true h1, decide_eq_true ⟨h0, h1⟩]
        · rw [decide_eq_false h1, decide_eq_false fun z => h1 z.2]
      rw [← e]; exact q
    · have e : fj (.int i) = false := decide_eq_false fun z => h0 z.1
      rw [← e]; exact q
  | non => exact Sel.no rfl ⟨by decide, _, rfl, q⟩
  | bl b => exact Sel.no rfl ⟨by decide, _, rfl, q⟩
  | str z => exact Sel.no rfl ⟨by decide, _, rfl, q⟩
  | lst e r => exact Sel.no rfl ⟨by decide, _, (db.lst e r).ty, q⟩
  | tup e r => exact Sel.no rfl ⟨by decide, _, (db.tup e r).ty, q⟩
  | dic e => exact Sel.no rfl ⟨by decide, _, (db.dic e).ty, q⟩
end Rs
namespace Rs
open PySem PySem.Spec PyProof.Rows L2
theorem kQ {x y : Str} (h1 : bX x = true) (h2 : bX y = true) : bX (x ++ y) = true := by
 unfold bX at h1 h2 ⊢
 show (x.cps ++ y.cps).all _ = true
 rw [Array.all_append, h1, h2]; rfl
theorem rf (H : Hp) (m : Key) : db H (kV m) (kA m) := by cases m <;> constructor
end Rs
namespace Rs
open PySem PySem.Spec PyProof.Rows L2
theorem sU {K : W.Frag} {H : Hp} {Q : VK} {a b : Key} (q : Q (.bl (decide (a = b))) H) : bn K (kV a) (kV b) H Q := by
 cases a <;> cases b
 · rename_i i j
   have e : decide ((Sum.inl i : Key) = Sum.inl j) = decide (i = j) := by simp
   rw [e] at q; exact q
 · have e : ∀ (i : Int) (j : Str), decide ((Sum.inl i : Key) = Sum.inr j) = false := by simp
   rw [e] at q; exact q
 · have e : ∀ (i : Int) (j : Str), decide ((Sum.inr j : Key) = Sum.inl i) = false := by simp
   rw [e] at q; exact q
 · rename_i i j
   have e : decide ((Sum.inr i : Key) = Sum.inr j) = decide (i = j) := by simp
   rw [e] at q; exact q
theorem vd {K : W.Frag} {H : Hp} {Q : VK} {a : Key} (q : Q (.bl false) H) : cU K (kV a) (kV a) H Q := by
 cases a
 · rename_i i
   have e : (!decide (i = i)) = false := by simp
   rw [← e] at q; exact q
 · rename_i i
   have e : (!decide (i = i)) = false := by simp
   rw [← e] at q; exact q
variable {K : W.Frag} {mg : Str → Option Value} {A : Adr}
theorem rF {H : Hp} {ps : List Addr} {ts : List (List Key)} (h : PK H ps ts) : ∀ {i : Nat} {t : List Key}, ts[i]? = some t → ∃ p, ps[i]? = some p ∧ H p = some (.tup (t.map kV)) ∧ okT t = true := by
  induction h with
  | nil => intro i t e; cases e
  | cons r _ ih =>
    intro i t e
    cases i with
    | zero => cases e; exact ⟨_, rfl, r⟩
    | succ i => exact ih e
theorem de {H : Hp} {ps : List Addr} {ts : List (List Key)} (h : PK H ps ts) : ps.length = ts.length := Paired.length h
theorem kG {k : List Key} (h : okT k = true) : 1 ≤ k.length ∧ k.length ≤ 8 := by
 unfold okT at h
 simp only [Bool.and_eq_true] at h
 exact of_decide_eq_true h.1.1
end Rs
namespace Rs
open PySem PySem.Spec PyProof.Rows L2
theorem eC {k : List Key} (h : okT k = true) : k.all okP = true := by
 unfold okT at h
 rw [Bool.and_eq_true] at h
 exact h.2
theorem iH {k : List Key} {x : Key} (h : okT k = true) (hx : x ∈ k) : okP x = true := List.all_eq_true.mp (eC h) x hx
theorem vb {k : List Key} (h : okT k = true) : ∃ z r, k = .inr z :: r := by
  unfold okT at h
  simp only [Bool.and_eq_true] at h
  cases k with
  | nil => cases h.1.2
  | cons x r =>
    cases x with
    | inl i => cases h.1.2
    | inr z => exact ⟨z, r, rfl⟩
theorem tE {x : Key} (h : okP x = true) : fj (kA x) = true := by
 cases x with
 | inl i => exact h
 | inr z => rfl
theorem lm {i : Int} (h0 : 0 ≤ i) (h1 : i < 10 ^ 60) : i.natAbs.log2 < 1920 := by
 by_cases e : i.natAbs = 0
 · rw [e]; decide
 · refine (Nat.log2_lt e).mpr ?_
   have : i.natAbs < 10 ^ 60 := by omega
   exact Nat.lt_of_lt_of_le this (by decide +kernel)
theorem eU {i : Int} (h0 : 0 ≤ i) (h1 : i < 10 ^ 60) : ((toString i : String) : Str).length ≤ 61 := by
 have : i.natAbs < 10 ^ 60 := by omega
 have := int_text_length_le10 (k := 60) (by decide) this
 show (Str.ofString _).length ≤ _
 rw [PySem.ofString_length]; exact this
theorem gi (s : String) (h : s.length = 1 := by rfl) : (s : Str).length = 1 := by
 show (Str.ofString s).length = 1
 rw [PySem.ofString_length]; exact h
theorem la {x : Key} (h : okP x = true) : (cb x).length ≤ szK x := by
  cases x with
  | inl i =>
    have h := of_decide_eq_true h
    have := eU h.1 h.2
    show (((toString i : String) : Str) ++ ((";" : String) : Str)).length ≤ 62
    rw [strLen_append, gi ";"]; omega
  | inr z =>
    have h := of_decide_eq_true (Bool.and_eq_true_iff.mp h).2
    have := eU (i := (z.length : Int)) (by omega) (by omega)
    show (((toString (z.length : Int) : String) : Str) ++ ((":" : String) : Str) ++ z).length ≤ z.length + 62
    rw [strLen_append, strLen_append, gi ":"]; omega
theorem zi {x : Key} (h : okP x = true) : szK x ≤ 100062 := by
  cases x with
  | inl i => show 62 ≤ 100062; decide
  | inr z =>
    have h := of_decide_eq_true (Bool.and_eq_true_iff.mp h).2
    show z.length + 62 ≤ 100062; omega
theorem ni : ∀ xs : List Key, bT xs = (xs.map cb).foldr (· ++ ·) Str.empty
 | [] => rfl
 | x :: r => by show cb x ++ bT r = cb x ++ _; rw [ni r]
theorem kR : ∀ {k : List Key}, k.all okP = true → (bT k).length ≤ szT k
  | [], _ => by show Str.empty.length ≤ 0; decide
  | x :: r, h => by
    rw [List.all_cons, Bool.and_eq_true] at h
    have h1 := la h.1
    have h2 := kR h.2
    show (cb x ++ bT r).length ≤ ((x :: r).map szK).sum
    rw [strLen_append, List.map_cons, List.sum_cons]
    unfold szT at h2
    omega
theorem iJ {x y : Str} (h1 : bX x = true) (h2 : bX y = true) : bX (x ++ y) = true := kQ h1 h2
theorem ui {z : Str} (h : ∀ c ∈ z.cps.toList, c < 128) : bX z = true := by
 unfold bX
 rw [Array.all_eq_true]
 intro i hi
 exact decide_eq_true (h _ (by simp))
theorem wH (n : Nat) : bX ((toString (n : Int) : String) : Str) = true := by
 refine ui fun c hc => ?_
 rw [W.KIN.signs_num n] at hc
 obtain ⟨ch, hch, e⟩ := List.mem_map.mp hc
 have := digit_range (Nat.isDigit_of_mem_toDigits (by decide) (by decide) hch)
 rw [← e]; omega
theorem oU {i : Int} (h : 0 ≤ i) : bX ((toString i : String) : Str) = true := by
 obtain ⟨n, rfl⟩ := Int.eq_ofNat_of_zero_le h
 exact wH n
theorem sE {x : Key} (h : okP x = true) : bX (cb x) = true := by
  cases x with
  | inl i =>
    have h := of_decide_eq_true h
    exact iJ (oU h.1) (by decide +kernel)
  | inr z =>
    have h := (Bool.and_eq_true_iff.mp h).1
    exact iJ (iJ (oU (by omega)) (by decide +kernel)) h
theorem lg : ∀ {k : List Key}, k.all okP = true → bX (bT k) = true
  | [], _ => by decide +kernel
  | x :: r, h => by
    rw [List.all_cons, Bool.and_eq_true] at h
    exact iJ (sE h.1) (lg h.2)
theorem oy : ∀ {k : List Key}, k.all okP = true → szT k ≤ k.length * 100062
  | [], _ => by decide
  | x :: r, h => by
    rw [List.all_cons, Bool.and_eq_true] at h
    have h1 := zi h.1
    have h2 := oy h.2
    show ((x :: r).map szK).sum ≤ _
    rw [List.map_cons, List.sum_cons, List.length_cons, Nat.succ_mul]
    unfold szT at h2
    omega
theorem mW : ∀ {k : List Key}, k.all okP = true → ((k.map cb).map (·.length)).sum ≤ szT k
  | [], _ => by decide
  | x :: r, h => by
    rw [List.all_cons, Bool.and_eq_true] at h
    have h1 := la h.1
    have h2 := mW h.2
    show (((x :: r).map cb).map (·.length)).sum ≤ ((x :: r).map szK).sum
    rw [List.map_cons, List.map_cons, List.sum_cons, List.map_cons, List.sum_cons]
    unfold szT at h2
    omega
variable {K : W.Frag} {mg : Str → Option Value} {A : Adr}
theorem yS (K : W.Frag) (A : Adr) : Ln (jE K A) 1 := by rintro vs H Q E ⟨p, k, rfl, _⟩; rfl
theorem BW (T : Txt K mg A) : Rd (jE K A) (Dj K A) ["thing"] := by
 intro vs H Q E h
 obtain ⟨p, k, rfl, hp, ok, q⟩ := h
 obtain ⟨l1, l8⟩ := kG ok
 obtain ⟨z, r, hk⟩ := vb ok
 have ty : tyN H (.ref p) = some "tuple" := by unfold tyN; dsimp only; rw [hp]
 refine ⟨by decide, "tuple", ty, Sel.no rfl (.inl (.inr (.inl ⟨_, SqT.of hp, ?_⟩)))⟩
 refine Sel.dec (fun h1 => ?_) (fun h1 => absurd (by simp; omega) h1)
 refine Sel.ndec (fun h8 => absurd (by simp; omega) h8) (fun h8 => ?_)
 refine ixT (j := 0) hp rfl (by rw [hk]; rfl) ⟨by decide, "str", rfl, Sel.yes rfl ?_⟩
 refine ⟨p, rfl, .inr ⟨⟨_, SqT.of hp⟩, fun D hD => ?_⟩⟩
 have hne : p ≠ D := aq hp hD
 have hml : (k.map kV).length = k.length := by simp
 refine fe (cG.tuple (xs := k.map kV) .non) (fun i ys H2 => ys = (k.take i).map (fun x => V.bl true) ∧ H2 = upd H D (.lst ys)) (fun i ys H2 hi ⟨_, e2⟩ => ?_) ⟨rfl, rfl⟩ (fun i ys H2 hi ⟨e1, e2⟩ => ?_) (fun ys H2 ⟨e1, e2⟩ => ?_)
 · rw [e2]; exact SqT.of (by rw [aj hne]; exact hp)
 · subst e2
   have hi' : i < k.length := by omega
   obtain ⟨x, hx⟩ : ∃ x, k[i]? = some x := ⟨_, List.getElem?_eq_getElem hi'⟩
   have hg : (k.map kV).getD i .non = kV x := by rw [List.getD_eq_getElem?_getD, List.getElem?_map, hx]; rfl
   rw [hg]
   have hs := tE (iH ok (List.mem_of_getElem? hx))
   refine nk ⟨_, kA x, rfl, rf _ x, ?_⟩
   rw [hs]
   have hyl : ys.length = i := by rw [e1, List.length_map, List.length_take]; omega
   refine ⟨am, by rw [hyl]; exact bW (by omega), CWd.next hi ⟨?_, dI⟩⟩
   rw [e1, List.take_add_one, List.map_append, hx]; rfl
 · subst e2
   refine ⟨D, k.map fun _ => true, rfl, by rw [am, e1, hml, List.take_length, List.map_map]; rfl, ?_⟩
   have : (k.map fun _ => true).all id = true := by simp
   rw [this]; exact q _ (au.upd hD)
theorem yi (K : W.Frag) (A : Adr) : Ln (lK K A) 1 := by rintro vs H Q E ⟨v, rfl, _⟩; rfl
theorem CM (T : Txt K mg A) : Rd (lK K A) (DM K A) ["part", "signs"] := by
  intro vs H Q E h
  obtain ⟨v, rfl, hp, q⟩ := h
  cases v with
  | inl i =>
    have h := of_decide_eq_true hp
    have l := eU h.1 h.2
    refine ⟨.int i, .int i, rfl, .int i, Sel.t ?_⟩
    have e1 : Str.empty ++ ((toString i : String) : Str) = ((toString i : String) : Str) := Str.empty_append _
    have l2 : (((toString i : String) : Str) ++ ((";" : String) : Str)).length ≤ sizeLine := by rw [strLen_append, gi ";"]; exact aD (by omega)
    refine ⟨lm h.1 h.2, by rw [e1]; exact aD (by omega), ?_, ?_, ?_⟩ <;> rw [e1]
    · exact l2
    · exact l2
    · exact q
  | inr z =>
    have h := of_decide_eq_true (Bool.and_eq_true_iff.mp hp).2
    have l := eU (i := (z.length : Int)) (by omega) (by omega)
    refine ⟨.str z, .str z, rfl, .str z, Sel.f ?_⟩
    have e1 : Str.empty ++ ((toString (z.length : Int) : String) : Str) = ((toString (z.length : Int) : String) : Str) := Str.empty_append _
    have l2 : (((toString (z.length : Int) : String) : Str) ++ ((":" : String) : Str)).length ≤ sizeLine := by rw [strLen_append, gi ":"]; exact aD (by omega)
    have l3 : (((toString (z.length : Int) : String) : Str) ++ ((":" : String) : Str) ++ z).length ≤ sizeLine := by rw [strLen_append, strLen_append, gi ":"]; exact aD (by omega)
    refine .inl ⟨aD (by omega), lm (by omega) (by omega), by rw [e1]; exact aD (by omega), ?_, aD (by omega), ?_, ?_, ?_⟩ <;> rw [e1]
    · exact l2
    · exact l3
    · exact l3
    · exact q
theorem yK (K : W.Frag) (A : Adr) : Ln (jH K A) 1 := by rintro vs H Q E ⟨p, k, rfl, _⟩; rfl
theorem CF (T : Txt K mg A) : Rd (jH K A) (DW K A) ["term"] := by
 intro vs H Q E h
 obtain ⟨p, k, rfl, hp, ok, q⟩ := h
 refine ⟨p, k, rfl, hp, ok, fun H' s => Sel.no rfl ?_⟩
 have hp' := s _ _ hp
 have hml : (k.map kV).length = k.length := by simp
 obtain ⟨l1, l8⟩ := kG ok
 refine ⟨rfl, ⟨p, rfl, .inr ⟨⟨_, SqT.of hp'⟩, fun D hD => ?_⟩⟩⟩
 have hne : p ≠ D := aq hp' hD
 refine fe (cG.tuple (xs := k.map kV) .non) (fun i ys H2 => ys = (k.take i).map (fun x => V.str (cb x)) ∧ H2 = upd H' D (.lst ys)) (fun i ys H2 hi ⟨_, e2⟩ => ?_) ⟨rfl, rfl⟩ (fun i ys H2 hi ⟨e1, e2⟩ => ?_) (fun ys H2 ⟨e1, e2⟩ => ?_)
 · rw [e2]; exact SqT.of (by rw [aj hne]; exact hp')
 · subst e2
   have hi' : i < k.length := by omega
   obtain ⟨x, hx⟩ : ∃ x, k[i]? = some x := ⟨_, List.getElem?_eq_getElem hi'⟩
   have hg : (k.map kV).getD i .non = kV x := by rw [List.getD_eq_getElem?_getD, List.getElem?_map, hx]; rfl
   rw [hg]
   refine nk ⟨x, rfl, iH ok (List.mem_of_getElem? hx), ?_⟩
   have hyl : ys.length = i := by rw [e1, List.length_map, List.length_take]; omega
   refine ⟨am, by rw [hyl]; exact bW (by omega), CWd.next hi ⟨?_, dI⟩⟩
   rw [e1, List.take_add_one, List.map_append, hx]; rfl
 · subst e2
   refine ⟨"", D, k.map cb, rfl, rfl, by rw [am, e1, hml, List.take_length, List.map_map]; rfl, ?_, ?_⟩
   · have h1 := mW (eC ok)
     have h2 := oy (eC ok)
     have e0 : (("" : String) : Str).length = 0 := by decide
     rw [e0]
     have : k.length * 100062 ≤ 8 * 100062 := Nat.mul_le_mul_right _ l8
     omega
   · rw [kc, ← ni]
     exact q _ (s.trans (au.upd hD))
theorem BU (K : W.Frag) (A : Adr) : Ln (qM K A) 1 := by rintro vs H Q E ⟨x, dx, rfl, _⟩; rfl
theorem DB (T : Txt K mg A) : Rd (qM K A) (T_1 K A) ["self"] := by
 intro vs H Q E h
 obtain ⟨x, dx, rfl, hx, q⟩ := h
 exact .inr fun d hd => ⟨x, A.c_Numbers, dx, [], rfl, by rw [aj (aq hx hd)]; exact hx, T.cl_Numbers, T.na_Numbers_given, by decide, q d hd⟩
theorem eV.mono {H H' : Hp} {x d : Addr} {kvs : List (List Key × V)} (s : au H H') (n : eV A H x d kvs) : eV A H' x d kvs := by
 obtain ⟨⟨dx, h1⟩, h2⟩ := n
 exact ⟨⟨dx, s _ _ h1⟩, s _ _ h2⟩
theorem eV.hide {H : Hp} {x d : Addr} {kvs : List (List Key × V)} {cs : List Addr} {cvs : List V} (hc : bS H cs cvs) (n : eV A H x d kvs) : eV A (cg cs H) x d kvs := by
 obtain ⟨⟨dx, h1⟩, h2⟩ := n
 exact ⟨⟨dx, hc.hide h1 (fun _ z => nomatch z)⟩, hc.hide h2 (fun _ z => nomatch z)⟩
theorem AF (K : W.Frag) (A : Adr) : Ln (pQ K A) 2 := by rintro vs H Q E ⟨x, d, p, kvs, k, rfl, _⟩; rfl
theorem DE (T : Txt K mg A) : Rd (pQ K A) (T_2 K A) ["self", "term"] := by
  intro vs H Q E h
  obtain ⟨x, d, a, kvs, k, rfl, nu, hl, hp, ok, q⟩ := h
  refine ⟨a, k, rfl, hp, ok, fun H' s => Sel.no rfl ?_⟩
  have ta' := s _ _ hp
  obtain ⟨⟨dx, hx⟩, hd⟩ := nu.mono s
  have q := q H' s
  have g := cy.t hd ta'
  refine ⟨x, A.c_Numbers, dx, _, .ref d, rfl, hx, T.cl_Numbers, T.na_Numbers_given, rfl, .inl ⟨d, bi kvs k, rfl, g, ?_⟩⟩
  unfold gz gD at q
  cases e : bi kvs k with
  | some w =>
    rw [e] at q g
    have q : Q w H' := q
    exact Sel.no rfl ⟨x, A.c_Numbers, dx, _, .ref d, rfl, hx, T.cl_Numbers, T.na_Numbers_given, rfl, .inr ⟨d, w, rfl, g, q⟩⟩
  | none =>
    rw [e] at q g
    have q : Q (.int kvs.length) (upd H' d (.dT (bK kvs k (.int kvs.length)))) := q
    have hx' : upd H' d (.dT (bK kvs k (.int kvs.length))) x = some (.ins A.c_Numbers dx [("given", .ref d)]) := by rw [aj (bN hx hd (fun z => nomatch z))]; exact hx
    have ha' : upd H' d (.dT (bK kvs k (.int kvs.length))) a = some (.tup (k.map kV)) := by rw [aj (bN ta' hd (fun z => nomatch z))]; exact ta'
    refine Sel.yes rfl ⟨x, A.c_Numbers, dx, _, .ref d, rfl, hx, T.cl_Numbers, T.na_Numbers_given, rfl, .inr ⟨d, kvs, rfl, hd, x, A.c_Numbers, dx, _, .ref d, rfl, hx, T.cl_Numbers, T.na_Numbers_given, rfl, .inr ⟨d, _, rfl, .inr ⟨kvs, k, a, hd, rfl, ta', Nat.lt_of_le_of_lt hl (aD (n := 50001) (by decide)), rfl⟩, ?_⟩⟩⟩
    have g2 := cy.t (kvs := bK kvs k (.int kvs.length)) (k := k) am ha'
    rw [gI, if_pos rfl] at g2
    exact ⟨x, A.c_Numbers, dx, _, .ref d, rfl, hx', T.cl_Numbers, T.na_Numbers_given, rfl, .inr ⟨d, _, rfl, g2, q⟩⟩
theorem AY (T : Txt K mg A) (a0 : V) (H : Hp) (Q : VK) (E : XK) (h : pX K A [a0] H Q E) : Aw K A (cZ ["term"] [a0] []) H Q := h
theorem CH (T : Txt K mg A) (a0 b0 : V) (H : Hp) (Q : VK) (E : XK) (h : pq K A [a0, b0] H Q E) : Az K A (cZ ["term", "numbers"] [a0] [b0]) H Q := by
 obtain ⟨x, d, p, kvs, k, e, nu, hl, hp, ok, h⟩ := h
 cases e
 obtain ⟨dx, hx⟩ := nu.ob
 exact ⟨x, dx, _, rfl, hx, rfl, x, d, p, kvs, k, rfl, nu, hl, hp, ok, h⟩
theorem zW {H : Hp} {b p : Addr} {kvs : List (List Key × V)} {kk : List Key} {d : V} (hb : H b = some (.dT kvs)) (hp : H p = some (.tup (kk.map kV))) (hl : kvs.length ≤ 50000) :
  zl H b (.ref p) d (gz kvs kk d) (gD H b kvs kk d) := by
 unfold gz gD
 have g := cy.t hb hp
 cases e : bi kvs kk with
 | some v => rw [e] at g; exact .inl ⟨g, if_pos rfl⟩
 | none => rw [e] at g; exact .inr ⟨g, .inr ⟨kvs, kk, p, hb, rfl, hp, Nat.lt_of_le_of_lt hl (aD (n := 50001) (by decide)), if_neg (by decide)⟩, rfl⟩
theorem bq.trans {P : Addr} {H H1 H2 : Hp} (a : bq P H H1) (b : bq P H1 H2) : bq P H H2 := fun x o e n => b x o (a x o e n) n
theorem bq.new {P p : Addr} {H : Hp} {o : HO} (h : H p = none) : bq P H (upd H p o) := fun b u e _ => by rw [aj (aq e h)]; exact e
theorem bq.tab {P : Addr} {H : Hp} {o : HO} : bq P H (upd H P o) := fun b u e n => by rw [aj n]; exact e
theorem bR {H : Hp} {P q : Addr} {o : HO} (hP : H P = some o) (hq : H q = none) : q ≠ P := fun e => by rw [e, hP] at hq; cases hq
theorem dc {H : Hp} {p q : Addr} {o : HO} (h : upd H p o q = none) : q ≠ p ∧ H q = none := by
 by_cases e : q = p
 · subst e; rw [am] at h; cases h
 · rw [aj e] at h; exact ⟨e, h⟩
theorem wl {H : Hp} {P c f q : Addr} {o1 o2 : HO} {t : cw} {v : V} (hP : H P = some o1) (hc : H c = none) (hf : H f = none) (hne : c ≠ f) (hq : upd (upd (upd H P o2) c (bV c t.qual)) f (cx f t [q] c) q = none) :
  bq P H (upd (upd (upd (upd H P o2) c (bV c t.qual)) f (cx f t [q] c)) q (br q v)) ∧ cV (upd (upd (upd (upd H P o2) c (bV c t.qual)) f (cx f t [q] c)) q (br q v)) f t [q] [v] := by
 have c1 : upd H P o2 c = none := by rw [aj (bR hP hc)]; exact hc
 have f1 : upd (upd H P o2) c (bV c t.qual) f = none := by rw [aj (Ne.symm hne), aj (bR hP hf)]; exact hf
 have S3 := bq.new (P := P) (o := br q v) hq
 have S2 := (bq.new (P := P) (o := cx f t [q] c) f1).trans S3
 have S1 := (bq.new (P := P) (o := bV c t.qual) c1).trans S2
 exact ⟨bq.tab.trans S1, ⟨⟨c, S3 _ _ am (bR hP hf), S2 _ _ am (bR hP hc)⟩, .cons am .nil⟩⟩
theorem nq : eK [] := fun p hp => nomatch hp
theorem qo.of {P : Addr} {H H' : Hp} {ps : Array Value} (hP : H P = some (.tbl ps)) (k : bq P H H') : qo H H' := fun b o e n => k b o e fun z => by subst z; rw [hP] at e; cases e; exact n _ rfl
end Rs
namespace Rs
open PySem PySem.Spec PyProof.Rows L2
theorem qZ {x : Int} (h : x.natAbs < 2 ^ 64) : Builtin.Int.intBits x ≤ 64 := by
 unfold Builtin.Int.intBits
 split
 · decide
 · rename_i hx
   have hx : x ≠ 0 := by simpa using hx
   have : x.natAbs.log2 < 64 := (Nat.log2_lt (by omega)).mpr h
   omega
theorem xW {x y : Int} (h0 : 0 ≤ x) (h : x < 2 ^ 64) : IntMulOk x y := IntMulOk.of_left (qZ (by omega))
theorem Ep {x y : Int} (h0 : 0 ≤ y) (h : y < 2 ^ 64) : IntMulOk x y := IntMulOk.of_right (qZ (by omega))
variable {K : W.Frag} {mg : Str → Option Value} {A : Adr}
end Rs
namespace Rs
open PySem PySem.Spec PyProof.Rows L2
variable {K : W.Frag} {mg : Str → Option Value} {A : Adr}
theorem AS (T : Txt K mg A) (a0 b0 : V) (H : Hp) (Q : VK) (E : XK) (h : pI K A [a0, b0] H Q E) : An K A { nx := fun _ H' => Q .non H', rt := Q } (cZ ["_law_term", "_law_total", "_law_part", "_law_many"] [a0] [b0]) H := by
  obtain ⟨p, m, k, e, h1, h2, hp, ok, q⟩ := h
  cases e
  refine .inl (.inr (.inl ⟨_, SqT.of hp, ?_⟩))
  refine ⟨p, rfl, .inr ⟨⟨_, SqT.of hp⟩, ?_⟩⟩
  rw [List.length_map]
  refine wW (xs := k.map kV) (fun i σ H' => H' = H ∧ ∃ x2, σ = [some (.ref p), some (.int ((k.take i).foldl jK k.length)), x2, some (.int m)]) ⟨rfl, none, rfl⟩ ?_ ?_ ?_
  · rintro i σ _ _ ⟨rfl, _⟩; exact SqT.of hp
  · rintro i x σ _ hx ⟨rfl, x2, rfl⟩
    obtain ⟨kk, hk, rfl⟩ := gh hx
    have okk : okP kk = true := iH ok (List.mem_of_getElem? hk)
    have st := pV jK (k.length : Int) k i kk hk
    cases kk with
    | inl n =>
      refine ⟨by decide, "int", rfl, Sel.no rfl ⟨IntMulOk.of_left (by decide), rfl, some (.int n), ?_⟩⟩
      rw [st]; rfl
    | inr z =>
      refine ⟨by decide, "str", rfl, Sel.yes rfl ⟨IntMulOk.of_left (by decide), ?_⟩⟩
      obtain ⟨hz, hl⟩ := Bool.and_eq_true_iff.mp okk
      have hl := of_decide_eq_true hl
      refine .inl ⟨aD (by omega), rfl, some (.str z), ?_⟩
      rw [st]; rfl
  · rintro σ _ ⟨rfl, x2, rfl⟩
    have e : k.take (k.map kV).length = k := by rw [List.length_map, List.take_length]
    rw [e]
    exact ⟨by omega, q⟩
end Rs
namespace Rs
open PySem PySem.Spec PyProof.Rows L2
theorem Sub.rfl' {g : List Key → Option Key} : Sub g g := fun _ _ e => e
theorem Sub.trans {g g1 g2 : List Key → Option Key} (a : Sub g g1) (b : Sub g1 g2) : Sub g g2 := fun k v e => b k v (a k v e)
theorem Ext.of {g g' : List Key → Option Key} {h : List Key → Key} (s : Sub g g') (e : Ext g' h) : Ext g h := fun k v z => e k v (s k v z)
theorem iW (kvs : List (List Key × Key)) (k : List Key) : bi (ci kvs) k = (bI kvs k).map kV := by
 unfold bi ci bI
 rw [List.find?_map]
 simp only [Option.map_map]
 congr 1
theorem sL {kvs : List (List Key × Key)} {k : List Key} {v : Key} {x : List Key × Key} (h : bI kvs k = some v) : bI (kvs ++ [x]) k = some v := by
 unfold bI at h ⊢
 rw [List.find?_append]
 cases e : kvs.find? fun p => decide (p.1 = k) with
 | none => rw [e] at h; cases h
 | some y => rw [e] at h; exact h
theorem uT {kvs : List (List Key × Key)} {k : List Key} {d : Key} (h : bI kvs k = none) : bI (kvs ++ [(k, d)]) k = some d := by
 unfold bI at h ⊢
 rw [List.find?_append]
 cases e : kvs.find? fun p => decide (p.1 = k) with
 | none => simp
 | some y => rw [e] at h; cases h
theorem vx {kvs : List (List Key × Key)} {k : List Key} {v : Key} (h : bI kvs k = some v) : bi (ci kvs) k = some (kV v) := by rw [iW, h]; rfl
theorem sV {kvs : List (List Key × Key)} {k : List Key} {v : Key} (hs : eK kvs) (h : bI kvs k = some v) : gl v := by
  unfold bI at h
  cases e : kvs.find? fun p => decide (p.1 = k) with
  | none => rw [e] at h; cases h
  | some y =>
    rw [e] at h
    cases h
    exact hs y (List.mem_of_find?_eq_some e)
theorem nH {kvs : List (List Key × Key)} {x : List Key × Key} (h : eK kvs) (hx : gl x.2) : eK (kvs ++ [x]) := fun p hp => by
 rcases List.mem_append.mp hp with z | z
 · exact h p z
 · rw [List.mem_singleton.mp z]; exact hx
theorem jC {k : List Key} {v : Key} (hk : 1 ≤ k.length) (h : gl v) : qk k v := by
  cases v with
  | inl i => exact h
  | inr z =>
    refine ⟨h.1, Nat.le_trans h.2 ?_⟩
    cases k with
    | nil => simp at hk
    | cons x r =>
      show 62 ≤ ((x :: r).map szK).sum
      rw [List.map_cons, List.sum_cons]
      have : 62 ≤ szK x := by cases x with
        | inl i => exact Nat.le_refl 62
        | inr z => show 62 ≤ z.length + 62; omega
      omega
theorem ng {H : Hp} {b : Addr} {cs : List Addr} {cvs : List V} {kvs : List (List Key × Key)} (kk : List Key) (d : Key) (hs : eK kvs) (hd : gl d) (hb : H b = some (.dT (ci kvs))) (hc : bS H cs cvs) (H1 : Hp) (S : au (cg cs H) H1) :
    ∃ (kvs' : List (List Key × Key)) (v : Key) (H' : Hp), gz (ci kvs) kk (kV d) = kV v ∧ bL cs H (gD H1 b (ci kvs) kk (kV d)) = H' ∧ H' b = some (.dT (ci kvs')) ∧ (∀ x o, x ≠ b → H x = some o → H' x = some o) ∧ (kvs' = kvs ∨ kvs' = kvs ++ [(kk, d)]) ∧ eK kvs' ∧ bI kvs' kk = some v ∧ gl v ∧ ∀ k v, bI kvs k = some v → bI kvs' k = some v := by
  have hbc : b ∉ cs := hc.notin hb fun _ z => nomatch z
  have S2 := au.hide cs S
  cases e : bI kvs kk with
  | some v =>
    have ev := vx e
    refine ⟨kvs, v, bL cs H H1, by unfold gz; rw [ev]; rfl, ?_, S2 _ _ hb, fun _ _ _ h => S2 _ _ h, .inl rfl, hs, e, sV hs e, fun _ _ h => h⟩
    unfold gD; rw [ev]; rfl
  | none =>
    have ev : bi (ci kvs) kk = none := by rw [iW, e]; rfl
    refine ⟨kvs ++ [(kk, d)], d, upd (bL cs H H1) b (.dT (ci (kvs ++ [(kk, d)]))), by unfold gz; rw [ev]; rfl, ?_, am, fun x o n h => by rw [aj n]; exact S2 _ _ h, .inr rfl, nH hs hd, uT e, hd, fun _ _ h => sL h⟩
    unfold gD; rw [ev, if_neg (by decide), sq hbc, tL _ ev]
    unfold ci; rw [List.map_append]; rfl
theorem Lin.nil {a c : Int} : Lin a c [] := fun i p h => by cases i <;> cases h
theorem Lin.snoc {a c : Int} {kvs : List (List Key × Key)} (s : Lin a c kvs) (k : List Key) : Lin a c (kvs ++ [(k, .inl (a * (kvs.length : Int) + c))]) := fun i p h => by
 rcases Nat.lt_trichotomy i kvs.length with hi | hi | hi
 · rw [List.getElem?_append_left hi] at h; exact s i p h
 · rw [List.getElem?_append_right (by omega), hi, Nat.sub_self] at h
   cases h; rw [hi]
 · rw [List.getElem?_eq_none (by simp; omega)] at h; cases h
theorem Lin.step {a c : Int} {kvs kvs' : List (List Key × Key)} {kk : List Key} (s : Lin a c kvs) (h : kvs' = kvs ∨ kvs' = kvs ++ [(kk, .inl (a * (kvs.length : Int) + c))]) : Lin a c kvs' ∧ kvs'.length ≤ kvs.length + 1 := by
 rcases h with rfl | rfl
 · exact ⟨s, Nat.le_succ _⟩
 · exact ⟨s.snoc kk, by simp⟩
theorem oX {kvs : List (List Key × Key)} {k : List Key} {v : Key} (h : bI kvs k = some v) : ∃ i : Nat, kvs[i]? = some (k, v) := by
  unfold bI at h
  cases e : kvs.find? fun p => decide (p.1 = k) with
  | none => rw [e] at h; cases h
  | some p =>
    rw [e] at h
    obtain ⟨i, hi⟩ := List.mem_iff_getElem?.mp (List.mem_of_find?_eq_some e)
    have h1 : p.1 = k := by have := List.find?_some e; exact of_decide_eq_true this
    have h2 : p.2 = v := Option.some.inj h
    exact ⟨i, by rw [hi, ← h1, ← h2]⟩
theorem Lin.inj {a c : Int} {kvs : List (List Key × Key)} (ha : 1 ≤ a) (s : Lin a c kvs) {k k' : List Key} {v : Key} (h : bI kvs k = some v) (h' : bI kvs k' = some v) : k = k' := by
 obtain ⟨i, hi⟩ := oX h
 obtain ⟨j, hj⟩ := oX h'
 have e1 := s i _ hi
 have e2 := s j _ hj
 have e3 : a * (i : Int) + c = a * (j : Int) + c := Sum.inl.inj (e1.symm.trans e2)
 have e4 : (i : Int) = j := Int.eq_of_mul_eq_mul_left (by omega) (by omega : a * (i : Int) = a * j)
 have e5 : i = j := by omega
 subst e5
 rw [hi] at hj
 cases hj; rfl
variable {K : W.Frag} {mg : Str → Option Value} {A : Adr}
theorem m0 {x : cw × Sp} {l : List (cw × Sp)} : x ∈ x :: l := List.mem_cons_self
theorem mS {x y : cw × Sp} {l : List (cw × Sp)} (h : x ∈ l) : x ∈ y :: l := List.mem_cons_of_mem _ h
end Rs
namespace Rs
open PySem PySem.Spec PyProof.Rows L2
theorem aY.trans {b : Addr} {H H1 H2 : Hp} (a : aY b H H1) (c : aY b H1 H2) : aY b H H2 := fun x o n e => c x o n (a x o n e)
theorem aY.same {b : Addr} {H H' : Hp} (S : au H H') : aY b H H' := fun x o _ e => S x o e
variable {K : W.Frag} {mg : Str → Option Value} {A : Adr}
theorem yf (K : W.Frag) (A : Adr) : Ln (mm K A) 0 := by rintro vs H Q E ⟨rfl, _⟩; rfl
theorem Cf (T : Txt K mg A) (hnd : ([] : List Addr).Nodup) (vs : List V) (H : Hp) (Q : VK) (E : XK) (h : mm K A vs H Q E) : yq K A { nx := fun σ H' => (∀ p ∈ ([] : List (Nat × Addr)), H' p.2 = none) → Q .non (ck [] σ H'), rt := fun σ v H' => (∀ p ∈ ([] : List (Nat × Addr)), H' p.2 = none) → Q v (ck [] σ H') } (L2.start [] vs) H := by
 obtain ⟨rfl, hP, q⟩ := h
 refine ⟨#[], hP, trivial, .inl ⟨rfl, fun c f hc hf hne _ => ?_⟩⟩
 have cP := bR hP hc
 have fP := bR hP hf
 have c1 : ∀ o, upd H A.t_41 o c = none := fun o => by rw [aj cP]; exact hc
 have f1 : ∀ o, upd (upd H A.t_41 o) c (bV c eJ.qual) f = none := fun o => by rw [aj (Ne.symm hne), aj fP]; exact hf
 exact q f f _ _ (bq.tab.trans ((bq.new (c1 _)).trans (bq.new (f1 _)))) (.wri ⟨⟨c, am, (aj hne).trans am⟩, .nil⟩ rfl rfl rfl) hf
theorem yE (K : W.Frag) (A : Adr) : Ln (mq K A) 0 := by rintro vs H Q E ⟨rfl, _⟩; rfl
theorem Bz (T : Txt K mg A) (q0 : Addr) (hnd : ([q0] : List Addr).Nodup) (vs : List V) (H : Hp) (Q : VK) (E : XK) (h : mq K A vs H Q E) : zk K A q0 { nx := fun σ H' => (∀ p ∈ ([(0, q0)] : List (Nat × Addr)), H' p.2 = none) → Q .non (ck [(0, q0)] σ H'), rt := fun σ v H' => (∀ p ∈ ([(0, q0)] : List (Nat × Addr)), H' p.2 = none) → Q v (ck [(0, q0)] σ H') } (L2.start ["numbers"] vs) H := by
 obtain ⟨rfl, hP, q⟩ := h
 intro x dx hx hdx hne
 refine ⟨x, dx, rfl, am, fun d hd => ⟨rfl, ?_⟩⟩
 obtain ⟨dnx, hd1⟩ := dc hd
 obtain ⟨dndx, hd0⟩ := dc hd1
 have xP := bR hP hx
 have dxP := bR hP hdx
 have dP := bR hP hd0
 generalize e2 : upd (upd (upd (upd H dx (.own x)) x (.ins A.c_Numbers dx [])) d (.dT [])) x (.ins A.c_Numbers dx [("given", .ref d)]) = H2
 have S2 : bq A.t_24 H H2 := by
  intro b o e n
  have b1 := aq e hx
  have b2 := aq e hdx
  have b3 := aq e hd0
  rw [← e2, aj b1, aj b3, aj b1, aj b2]; exact e
 have hP2 : H2 A.t_24 = some (.tbl #[]) := by rw [← e2, aj (Ne.symm xP), aj (Ne.symm dP), aj (Ne.symm xP), aj (Ne.symm dxP)]; exact hP
 have hx2 : H2 x = some (.ins A.c_Numbers dx [("given", .ref d)]) := by rw [← e2, am]
 have hd2 : H2 d = some (.dT []) := by rw [← e2, aj dnx, am]
 refine ⟨#[], hP2, trivial, .inl ⟨rfl, fun c f hc hf hne hq => ?_⟩⟩
 obtain ⟨k, ca⟩ := wl (v := .ref x) hP2 hc hf hne (hq _ (List.mem_singleton.mpr rfl))
 exact q f d _ _ (S2.trans k) (.cnt q0 x [] ca ⟨⟨dx, k _ _ hx2 xP⟩, k _ _ hd2 dP⟩ (Nat.zero_le _) nq .nil rfl rfl) hd0
theorem At (K : W.Frag) (A : Adr) : Ln (lQ K A) 1 := by rintro vs H Q E ⟨m, rfl, _⟩; rfl
theorem BO (T : Txt K mg A) (q0 : Addr) (hnd : ([q0] : List Addr).Nodup) (vs : List V) (H : Hp) (Q : VK) (E : XK) (h : lQ K A vs H Q E) : zo K A q0 { nx := fun σ H' => (∀ p ∈ ([(0, q0)] : List (Nat × Addr)), H' p.2 = none) → Q .non (ck [(0, q0)] σ H'), rt := fun σ v H' => (∀ p ∈ ([(0, q0)] : List (Nat × Addr)), H' p.2 = none) → Q v (ck [(0, q0)] σ H') } (L2.start ["_law_many", "_law_stamp"] vs) H := by
 obtain ⟨m, rfl, m1, m2, hP, q⟩ := h
 refine ⟨#[], hP, trivial, .inl ⟨rfl, fun c f hc hf hne hq => ?_⟩⟩
 obtain ⟨k, ca⟩ := wl (v := .int m) hP hc hf hne (hq _ (List.mem_singleton.mpr rfl))
 exact q f f _ _ k (.wea q0 m m1 m2 ca rfl rfl rfl) hf
theorem Bw {H : Hp} {P c f q0 q1 q2 : Addr} {o1 o2 : HO} {t : cw} {v0 v1 v2 : V} (hP : H P = some o1) (hc : H c = none) (hf : H f = none) (hne : c ≠ f) (n01 : q0 ≠ q1) (n02 : q0 ≠ q2) (n12 : q1 ≠ q2) (h0 : upd (upd (upd H P o2) c (bV c t.qual)) f (cx f t [q2, q0, q1] c) q0 = none) (h1 : upd (upd (upd H P o2) c (bV c t.qual)) f (cx f t [q2, q0, q1] c) q1 = none) (h2 : upd (upd (upd H P o2) c (bV c t.qual)) f (cx f t [q2, q0, q1] c) q2 = none) :
  bq P H (upd (upd (upd (upd (upd (upd H P o2) c (bV c t.qual)) f (cx f t [q2, q0, q1] c)) q0 (br q0 v0)) q1 (br q1 v1)) q2 (br q2 v2)) ∧ cV (upd (upd (upd (upd (upd (upd H P o2) c (bV c t.qual)) f (cx f t [q2, q0, q1] c)) q0 (br q0 v0)) q1 (br q1 v1)) q2 (br q2 v2)) f t [q2, q0, q1] [v2, v0, v1] := by
 have c1 : upd H P o2 c = none := by rw [aj (bR hP hc)]; exact hc
 have f1 : upd (upd H P o2) c (bV c t.qual) f = none := by rw [aj (Ne.symm hne), aj (bR hP hf)]; exact hf
 have h1' : upd (upd (upd (upd H P o2) c (bV c t.qual)) f (cx f t [q2, q0, q1] c)) q0 (br q0 v0) q1 = none := by rw [aj (Ne.symm n01)]; exact h1
 have h2' : upd (upd (upd (upd (upd H P o2) c (bV c t.qual)) f (cx f t [q2, q0, q1] c)) q0 (br q0 v0)) q1 (br q1 v1) q2 = none := by rw [aj (Ne.symm n12), aj (Ne.symm n02)]; exact h2
 have S5 := bq.new (P := P) (o := br q2 v2) h2'
 have S4 := (bq.new (P := P) (o := br q1 v1) h1').trans S5
 have S3 := (bq.new (P := P) (o := br q0 v0) h0).trans S4
 have S2 := (bq.new (P := P) (o := cx f t [q2, q0, q1] c) f1).trans S3
 have S1 := (bq.new (P := P) (o := bV c t.qual) c1).trans S2
 exact ⟨bq.tab.trans S1, ⟨⟨c, S3 _ _ am (bR hP hf), S2 _ _ am (bR hP hc)⟩, .cons am (.cons (by rw [aj n02, aj n01]; exact am) (.cons (by rw [aj n12]; exact am) .nil))⟩⟩
theorem zr (K : W.Frag) (A : Adr) : Ln (lT K A) 3 := by rintro vs H Q E ⟨b, D, j, rfl, _⟩; rfl
theorem Bh (T : Txt K mg A) (q0 q1 q2 : Addr) (hnd : ([q0, q1, q2] : List Addr).Nodup) (vs : List V) (H : Hp) (Q : VK) (E : XK) (h : lT K A vs H Q E) : yH K A q0 q1 q2 { nx := fun σ H' => (∀ p ∈ ([(0, q0), (1, q1), (2, q2)] : List (Nat × Addr)), H' p.2 = none) → Q .non (ck [(0, q0), (1, q1), (2, q2)] σ H'), rt := fun σ v H' => (∀ p ∈ ([(0, q0), (1, q1), (2, q2)] : List (Nat × Addr)), H' p.2 = none) → Q v (ck [(0, q0), (1, q1), (2, q2)] σ H') } (L2.start ["_law_known", "_law_alias", "_law_step", "_law_stamp"] vs) H := by
 obtain ⟨b, D, j, rfl, j0, j1, hP, hb, hD, bD, q⟩ := h
 have n01 : q0 ≠ q1 := fun e => by simp [e] at hnd
 have n02 : q0 ≠ q2 := fun e => by simp [e] at hnd
 have n12 : q1 ≠ q2 := fun e => by simp [e] at hnd
 refine ⟨#[], hP, trivial, .inl ⟨rfl, fun c f hc hf hne hq => ?_⟩⟩
 obtain ⟨k, ca⟩ := Bw (v0 := .ref b) (v1 := .ref D) (v2 := .int j) hP hc hf hne n01 n02 n12 (hq (0, q0) (by simp)) (hq (1, q1) (by simp)) (hq (2, q2) (by simp))
 have nb : b ≠ A.t_12 := bN hb hP (fun z => nomatch z)
 have nD : D ≠ A.t_12 := bN hD hP (fun z => nomatch z)
 exact q f _ k (.pla q2 q0 q1 D j j0 j1 [] none ca (k _ _ hb nb) (k _ _ hD nD) bD (Nat.zero_le _) nq .nil rfl rfl)
theorem DF {H : Hp} {D p : Addr} {k : List Key} {al : Option (List Key × List Key)} (ha : iw H D al) (hp : H p = some (.tup (k.map kV))) : ∃ (o : Option V) (p' : Addr), cy H D (.ref p) o ∧ o.getD (.ref p) = .ref p' ∧ H p' = some (.tup ((alF al k).map kV)) := by
  cases al with
  | none => exact ⟨_, p, cy.t ha hp, rfl, hp⟩
  | some r =>
    obtain ⟨o, hD, ho, ok⟩ := ha
    by_cases e : k = r.1
    · refine ⟨_, o, cy.t hD hp, ?_, ?_⟩
      · unfold bi; simp [e]
      · show H o = some (.tup ((if k = r.1 then r.2 else k).map kV)); rw [if_pos e]; exact ho
    · refine ⟨_, p, cy.t hD hp, ?_, ?_⟩
      · unfold bi; simp [Ne.symm e]
      · show H p = some (.tup ((if k = r.1 then r.2 else k).map kV)); rw [if_neg e]; exact hp
theorem BY (T : Txt K mg A) (a0 b0 b1 b2 : V) (H : Hp) (Q : VK) (E : XK) (h : qC K A [a0, b0, b1, b2] H Q E) : Av K A { nx := fun _ H' => Q .non H', rt := Q } (cZ ["_law_term", "_law_step", "_law_known", "_law_alias"] [a0] [b0, b1, b2]) H := by
 obtain ⟨p, b, D, j, k, kvs, al, e, j0, j1, hp, hb, ha, hl, q⟩ := h
 cases e
 obtain ⟨o, p', hg, eo, hp'⟩ := DF ha hp
 have hD : ∃ kv, H D = some (.dT kv) := by
  cases al with
  | none => exact ⟨_, ha⟩
  | some r => obtain ⟨_, hD, _⟩ := ha; exact ⟨_, hD⟩
 refine ⟨.inr (.inr (.inl ⟨rfl, .inr ⟨_, hb⟩⟩)), .inr (.inr (.inl ⟨rfl, .inr hD⟩)), D, .ref p, .ref p, o, rfl, rfl, hg, ?_⟩
 rw [eo]
 exact .inr ⟨b, kvs, rfl, hb, xW j0 (by omega), b, .ref p', _, _, _, rfl, rfl, zW hb hp' hl, q⟩
theorem zy (K : W.Frag) (A : Adr) : Ln (lH K A) 4 := by rintro vs H Q E ⟨w, c, b, D, rfl, _⟩; rfl
theorem CN (T : Txt K mg A) : Rd (lH K A) (DU K A) ["_law_way_here", "_law_cell", "_law_known", "_law_alias"] := by
 intro vs H Q E h
 obtain ⟨w, c, b0, D, rfl, ⟨t2, t1, t3, t4, _⟩, hb, hD, bD, w0, w3, q⟩ := h
 refine Sel.dec (fun h => ?_) (fun h => ?_)
 · exact ⟨by decide, _, rfl, by omega, by omega, t2, fun f b g H' k s hn => q f b _ g H' (.of t2 k) s (.inr hn) (fun e => by omega) (fun e => by omega)⟩
 refine Sel.dec (fun h => ?_) (fun h => ?_)
 · refine ⟨by decide, Sel.dec (fun h2 => ?_) (fun h2 => ?_)⟩
   · exact ⟨rfl, t1, fun f b g H' k s hn => q f b _ g H' (.of t1 k) s (.inr hn) (fun _ => trivial) (fun e => by omega)⟩
   refine Sel.dec (fun h3 => ?_) (fun h3 => absurd h h3)
   refine ⟨by decide, Sel.dec (fun h4 => ?_) (fun h4 => ?_)⟩
   · exact ⟨rfl, t3, fun f b g H' k s hn => q f b _ g H' (.of t3 k) s (.inr hn) (fun _ => trivial) (fun e => by omega)⟩
   · exact ⟨by decide, b0, D, _, rfl, by omega, by omega, t4, hb, hD, bD, fun f H' k s => q f b0 _ _ H' (.of t4 k) s (.inl rfl) (fun _ => rfl) (fun _ => ⟨rfl, rfl⟩)⟩
 · refine Sel.no rfl ?_
   refine Sel.dec (fun h3 => absurd h3 h) (fun h3 => ?_)
   refine Sel.no rfl ?_
   exact ⟨by decide, b0, D, _, rfl, by omega, by omega, t4, hb, hD, bD, fun f H' k s => q f b0 _ _ H' (.of t4 k) s (.inl rfl) (fun _ => rfl) (fun _ => ⟨rfl, rfl⟩)⟩
theorem Stp.clo {H : Hp} {f b : Addr} {d : Kd} {g : List Key → Option Key} {n : Nat} (s : Stp A H f b d g n) : ∃ ts ∈ dq K A, ∃ cs cvs, cV H f ts.1 cs cvs := by
 cases s with
 | wri hc _ _ _ => exact ⟨_, m0, _, _, hc⟩
 | cnt _ _ _ hc => exact ⟨_, mS m0, _, _, hc⟩
 | wea _ _ _ _ hc => exact ⟨_, mS (mS m0), _, _, hc⟩
 | pla _ _ _ _ _ _ _ _ _ hc => exact ⟨_, mS (mS (mS m0)), _, _, hc⟩
theorem iw.keep {H H' : Hp} {D : Addr} {al : Option (List Key × List Key)} (h : iw H D al) (kd : ∀ xs, H D = some (.dT xs) → H' D = some (.dT xs)) (kt : ∀ o xs, H o = some (.tup xs) → H' o = some (.tup xs)) : iw H' D al := by
 cases al with
 | none => exact kd _ h
 | some r => obtain ⟨o, h1, h2, h3⟩ := h; exact ⟨o, kd _ h1, kt _ _ h2, h3⟩
theorem iw.dict {H : Hp} {D : Addr} {al : Option (List Key × List Key)} (ha : iw H D al) : ∃ kv, H D = some (.dT kv) := by
 cases al with
 | none => exact ⟨_, ha⟩
 | some r => obtain ⟨_, hD, _⟩ := ha; exact ⟨_, hD⟩
theorem Stp.same {H H' : Hp} {f b : Addr} {d : Kd} {g : List Key → Option Key} {n m : Nat} (s : Stp A H f b d g n) (hn : n ≤ m) (S : au H H') : Stp A H' f b d g m := by
  cases s with
  | wri hc hb hg ed => exact .wri (hc.keep fun x φ e => S _ _ e) hb hg ed
  | cnt q x kvs hc num hl hs st hg ed =>
    obtain ⟨⟨dx, h1⟩, h2⟩ := num
    exact .cnt q x kvs (hc.keep fun x φ e => S _ _ e) ⟨⟨dx, S _ _ h1⟩, S _ _ h2⟩ (Nat.le_trans hl hn) hs st hg ed
  | wea q m h1 h2 hc hb hg ed => exact .wea q m h1 h2 (hc.keep fun x φ e => S _ _ e) hb hg ed
  | pla q0 q1 q2 D j j0 j1 kvs al hc hb ha bD hl hs st hg ed => exact .pla q0 q1 q2 D j j0 j1 kvs al (hc.keep fun x φ e => S _ _ e) (S _ _ hb) (ha.keep (fun _ e => S _ _ e) (fun _ _ e => S _ _ e)) bD (Nat.le_trans hl hn) hs st hg ed
theorem dL {H : Hp} {f b p : Addr} {d : Kd} {g : List Key → Option Key} {n : Nat} {k : List Key} {R : VK} (s : Stp A H f b d g n) (hn : n ≤ 45000) (hp : H p = some (.tup (k.map kV))) (ok : okT k = true)
    (q : ∀ (v : Key) (H' : Hp) (g' : List Key → Option Key), aY b H H' → Stp A H' f b d g' (n + 1) → Sub g g' → g' k = some v → qk k v → R (kV v) H') : qu (dq K A) f [.ref p] H R E0 := by
  have s0 := s
  have hk := (kG ok).1
  have ll : ∀ kvs : List (List Key × Key), (ci kvs).length = kvs.length := fun kvs => by simp [ci]
  cases s with
  | wri hc hb hg ed =>
    refine ⟨_, m0, _, _, hc, rfl, p, k, rfl, hc.cells.hide hp (fun _ z => nomatch z), ok, fun H' S => ?_⟩
    have S := au.hide _ S
    exact q (.inr (bT k)) _ g (aY.same S) (s0.same (Nat.le_succ _) S) Sub.rfl' (by rw [hg]) ⟨lg (eC ok), kR (eC ok)⟩
  | wea c m h1 h2 hc hb hg ed =>
    refine ⟨_, mS (mS m0), _, _, hc, rfl, p, m, k, rfl, h1, h2, hc.cells.hide hp (fun _ z => nomatch z), ok, ?_⟩
    have S := au.hide [c] (.refl (cg [c] H))
    have r0 := Int.emod_nonneg (k.foldl jK k.length) (b := m) (by omega)
    have r1 := Int.emod_lt_of_pos (k.foldl jK k.length) (b := m) (by omega)
    have p60 : (9 : Int) < 10 ^ 60 := by decide +kernel
    exact q (pN m k) _ g (aY.same S) (s0.same (Nat.le_succ _) S) Sub.rfl' (by rw [hg]) (show 0 ≤ _ ∧ _ < _ from ⟨r0, by omega⟩)
  | cnt c x kvs hc num hl hs st hg ed =>
    have p60 : (50000 : Int) < 10 ^ 60 := by decide +kernel
    refine ⟨_, mS m0, _, _, hc, rfl, x, b, p, ci kvs, k, rfl, num.hide hc.cells, by rw [ll]; omega, hc.cells.hide hp (fun _ z => nomatch z), ok, fun H' S => ?_⟩
    obtain ⟨dx, hx⟩ := num.ob
    obtain ⟨kvs', v, H2, ev, eH, hb', keep, hl', hs', gv, sv, sub⟩ := ng k (.inl ((ci kvs).length : Int)) hs (show 0 ≤ _ ∧ _ < _ from ⟨by omega, by rw [ll]; omega⟩) num.di hc.cells H' S
    rw [show V.int ((ci kvs).length : Int) = kV (.inl ((ci kvs).length : Int)) from rfl, ev, eH]
    obtain ⟨st', hl2⟩ := st.step (kk := k) (by rw [show (1 : Int) * (kvs.length : Int) + 0 = ((ci kvs).length : Int) by rw [ll]; omega]; exact hl')
    refine q v H2 (bI kvs') (fun x o n e => keep x o n e)
      (.cnt c x kvs' (hc.keep fun x φ e => keep x _ (bN e num.di (fun z => nomatch z)) e) ⟨⟨dx, keep _ _ (bN hx num.di (fun z => nomatch z)) hx⟩, hb'⟩ (by omega) hs' st' rfl ed) ?_ gv (jC hk sv)
    rw [hg]; exact sub
  | pla q0 q1 q2 D j j0 j1 kvs al hc hb ha bD hl hs st hg ed =>
    have p60 : (50000000 : Int) < 10 ^ 60 := by decide +kernel
    have bd : 0 ≤ j * ((ci kvs).length : Int) + 5 ∧ j * ((ci kvs).length : Int) + 5 < 10 ^ 60 := by
      rw [ll]
      have h1 : j * (kvs.length : Int) ≤ 1000 * 45000 := Int.mul_le_mul (by omega) (by omega) (by omega) (by decide)
      have h2 : 0 ≤ j * (kvs.length : Int) := Int.mul_nonneg (by omega) (by omega)
      omega
    obtain ⟨kvs', v, H2, ev, eH, hb', keep, hl', hs', gv, sv, sub⟩ := ng (alF al k) (.inl (j * ((ci kvs).length : Int) + 5)) hs bd hb hc.cells _ (.refl _)
    obtain ⟨kD, hD⟩ := ha.dict
    refine ⟨_, mS (mS (mS m0)), _, _, hc, rfl, p, b, D, j, k, ci kvs, al, rfl, by omega, j1, hc.cells.hide hp (fun _ z => nomatch z), hc.cells.hide hb (fun _ z => nomatch z), ha.keep (fun _ e => hc.cells.hide e (fun _ z => nomatch z)) (fun _ _ e => hc.cells.hide e (fun _ z => nomatch z)), by rw [ll]; omega, ?_⟩
    dsimp only
    rw [show V.int (j * ((ci kvs).length : Int) + 5) = kV (.inl (j * ((ci kvs).length : Int) + 5)) from rfl, ev, eH]
    obtain ⟨st', hl2⟩ := st.step (kk := alF al k) (by rw [← ll kvs]; exact hl')
    refine q v H2 (fun k => bI kvs' (alF al k)) (fun x o n e => keep x o n e)
      (.pla q0 q1 q2 D j j0 j1 kvs' al (hc.keep fun x φ e => keep x _ (bN e hb (fun z => nomatch z)) e) hb' (ha.keep (fun _ e => keep _ _ (Ne.symm bD) e) (fun _ _ e => keep _ _ (bN e hb (fun z => nomatch z)) e)) bD (by omega) hs' st' rfl ed) ?_ gv (jC hk sv)
    rw [hg]; exact fun k v e => sub _ _ e
end Rs
namespace Rs
open PySem PySem.Spec PyProof.Rows L2
variable {K : W.Frag} {mg : Str → Option Value} {A : Adr}
theorem rh {H : Hp} (x : Key) : db H (kV x) (kA x) := by
 cases x with
 | inl i => exact .int i
 | inr z => exact .str z
theorem ixL {K : W.Frag} {H : Hp} {Q : VK} {a : Addr} {xs : List V} {x : V} {i : Int} {j : Nat} (ha : H a = some (.lst xs)) (e : i = j) (hx : xs[j]? = some x) (q : Q x H) : aS K (.ref a) (.int i) H Q := by
 subst e
 refine .inl (.inl ⟨a, xs, j, x, rfl, rfl, SqL.of ha, ?_, q⟩)
 have hj := (List.getElem?_eq_some_iff.mp hx).1
 rw [si (by omega) (by omega)]
 simp [List.getD_eq_getElem?_getD, hx]
theorem iG {e : Key} (h : okP e = true) : fj (kA e) = true := by
 cases e with
 | inl i => exact h
 | inr z => rfl
theorem AZ : (PySem.Str.length " !\"#$&'()*+,-./0123456789:;<=>?@ABCDEFGHIJKLMNOPQRSTUVWXYZ[\\]^_`" + PySem.Str.length "abcdefghijklmnopqrstuvwxyz{|}~") ≤ 1000000 := by decide +kernel
def sg1 : Str := " !\"#$&'()*+,-./0123456789:;<=>?@ABCDEFGHIJKLMNOPQRSTUVWXYZ[\\]^_`"
def sg2 : Str := "abcdefghijklmnopqrstuvwxyz{|}~"
theorem xV : (sg1 ++ sg2).length = 94 ∧ (sg1 ++ sg2).cps.toList.length = 94 ∧ (sg1 ++ sg2).cps.toList.all (· < 128) = true := by decide +kernel
theorem uw {zs : List Str} (h : ∀ z ∈ zs, bX z = true) : bX (Txt.join "" zs) = true := by
 rw [kc]
 induction zs with
 | nil => decide +kernel
 | cons z r ih => exact kQ (h z List.mem_cons_self) (ih fun y hy => h y (List.mem_cons_of_mem _ hy))
theorem zI (K : W.Frag) (A : Adr) : Ln (jU K A) 1 := by rintro vs H Q E ⟨i, rfl, _⟩; rfl
theorem Cb (T : Txt K mg A) : Rd (jU K A) (Do K A) ["thing"] := by
 intro vs H Q E h
 obtain ⟨i, rfl, h0, h1, q⟩ := h
 refine ⟨_, _, rfl, .int i, Sel.t (Sel.yes (decide_eq_true h0) ⟨by decide, ?_⟩)⟩
 have e : decide (i < 1 * 2 ^ (60 : Int).toNat) = true := decide_eq_true (by show i < 1 * 2 ^ 60; omega)
 show Q (.bl (decide (i < 1 * 2 ^ (60 : Int).toNat))) H
 rw [e]; exact q
theorem zu (K : W.Frag) (A : Adr) : Ln (lW K A) 2 := by rintro vs H Q E ⟨i, j, rfl, _⟩; rfl
theorem Ct (T : Txt K mg A) : Rd (lW K A) (Ek K A) ["count", "place"] := by
 intro vs H Q E h
 obtain ⟨c, p, rfl, h0, h1, h2, q⟩ := h
 refine ⟨c, rfl, by omega, h2, Sel.t ⟨_, _, rfl, .int p, Sel.t (Sel.yes (decide_eq_true h0) ?_)⟩⟩
 show Q (.bl (decide (p < c))) H
 rw [decide_eq_true h1]; exact q
theorem BP (K : W.Frag) (A : Adr) : Ln (eP K A) 2 := by rintro vs H Q E ⟨a, ns, k, rfl, _⟩; rfl
theorem DO (T : Txt K mg A) : Rd (eP K A) (T_3 K A) ["_law_script", "_law_k"] := by
 intro vs H Q E h
 obtain ⟨a, ns, k, rfl, hs, h0, q⟩ := h
 refine .inl (.inl ⟨_, hs, Sel.dec (fun h => ?_) (fun h => q 0)⟩)
 obtain ⟨v, hv⟩ := rA h0 h
 obtain ⟨j, _, hj, _⟩ := fZ hv
 obtain ⟨z, _, rfl⟩ := gh hj
 exact .inl (.inl ⟨a, _, k, _, rfl, rfl, hs, hv, q z⟩)
theorem Ae (K : W.Frag) (A : Adr) : Ln (mr K A) 1 := by rintro vs H Q E ⟨i, rfl, _⟩; rfl
theorem Bq (T : Txt K mg A) : Rd (mr K A) (Du K A) ["_law_cell", "_law_some"] := by
 intro vs H Q E h
 obtain ⟨c, rfl, q⟩ := h
 obtain ⟨g1, g2, g3⟩ := xV
 refine ⟨aD AZ, ?_⟩
 show yB K A _ [some (.int c), some (.str (sg1 ++ sg2))] H
 refine ⟨rfl, by decide, c % 5, rfl, by omega, by omega, fun D hD => ?_⟩
 refine fe (cG.range (lo := 0) (n := (c % 5).toNat)) (fun i ys H2 => ∃ zs : List Str, ys = zs.map V.str ∧ zs.length = i ∧ (∀ z ∈ zs, z.length = 1 ∧ bX z = true) ∧ H2 = upd H D (.lst ys)) (fun _ _ _ _ _ => trivial) ⟨[], rfl, rfl, (fun _ h => nomatch h), rfl⟩ (fun i ys H2 hi ⟨zs, e1, e2, e3, e4⟩ => ?_) ?_
 · subst e4
   refine nk ⟨⟨by decide, by decide⟩, ⟨by decide, by decide⟩, by decide, Ep (by omega) (by omega), by decide, ?_⟩
   generalize (c / 5 + _ : Int) = w
   obtain ⟨cc, hcc⟩ := rA (xs := (sg1 ++ sg2).cps.toList) (i := w % 94) (by omega) (by rw [g2]; omega)
   refine .inl (.inr (.inr ⟨_, _, cc, rfl, rfl, by rw [g1]; exact aD (by decide), hcc, ?_⟩))
   have hyl : ys.length = i := by rw [e1, List.length_map, e2]
   refine ⟨am, by rw [hyl]; exact bW (by omega), CWd.next hi ⟨zs ++ [⟨#[cc]⟩], by rw [e1, List.map_append]; rfl, by rw [List.length_append, e2]; rfl, fun z hz => ?_, dI⟩⟩
   rcases List.mem_append.mp hz with h | h
   · exact e3 z h
   · rw [List.mem_singleton.mp h]
     refine ⟨rfl, ?_⟩
     obtain ⟨j, _, hj, _⟩ := fZ hcc
     have := of_decide_eq_true (List.all_eq_true.mp g3 cc (List.mem_of_getElem? hj))
     unfold bX
     simp
     omega
 · rintro ys H2 ⟨zs, rfl, e2, e3, rfl⟩
   have hl : (Txt.join "" zs).length = zs.length := sX zs fun z hz => (e3 z hz).1
   refine ⟨_, _, zs, rfl, rfl, am, ?_, q _ _ (au.upd hD) (by rw [hl]; omega) (uw fun z hz => (e3 z hz).2)⟩
   have e0 : (("" : String) : Str).length = 0 := by decide
   rw [e0, jk zs fun z hz => (e3 z hz).1]
   omega
theorem yd (K : W.Frag) (A : Adr) : Ln (fG K A) 1 := by rintro vs H Q E ⟨i, rfl, _⟩; rfl
theorem CG (T : Txt K mg A) : Rd (fG K A) (Ea K A) ["_law_cell"] := by
 intro vs H Q E h
 obtain ⟨c, rfl, q⟩ := h
 have p60 : (7 : Int) < 10 ^ 60 := by decide +kernel
 have num : ∀ i : Int, 0 ≤ i → i < 10 ^ 60 → Q (.int i) H := fun i h0 h1 => q (.inl i) H (.refl _) ⟨decide_eq_true ⟨h0, h1⟩, show 62 ≤ 70 by decide⟩
 refine ⟨by decide, Sel.dec (fun h => ?_) (fun h => ?_)⟩
 · refine ⟨by decide, _, rfl, fun z H' S hz ha => q (.inr z) H' S ⟨?_, ?_⟩⟩
   · show (bX z && decide (z.length ≤ 100000)) = true
     rw [ha, decide_eq_true (by omega)]; rfl
   · show z.length + 62 ≤ 70
     omega
 refine ⟨by decide, Sel.dec (fun h => ?_) (fun h => ?_)⟩
 · refine ⟨by decide, ⟨by decide, by decide, by decide⟩, by decide +kernel, ?_⟩
   have p : (0 : Int) < 10 ^ 60 := by decide +kernel
   exact num (c / 4 % 10 ^ 60) (Int.emod_nonneg _ (Int.ne_of_gt p)) (Int.emod_lt_of_pos _ p)
 · exact ⟨by decide, by decide, num (c / 4 % 7) (by omega) (by omega)⟩
theorem dH {K : W.Frag} {H : Hp} {Q : VK} {L : Addr} {qs : List V} {p : V} (hL : H L = some (.lst (qs ++ [p]))) (q : Q p H) : aS K (.ref L) (.int (-1)) H Q :=
 .inl (.inl ⟨L, _, -1, p, rfl, rfl, SqL.of hL, tN _ _, q⟩)
theorem nj {w : Str} {r : List Key} (hw : okP (.inr w) = true) (hr : ∀ x ∈ r, okP x = true) (hl : r.length ≤ 7) : okT (.inr w :: r) = true := by
 show (decide (1 ≤ r.length + 1 ∧ r.length + 1 ≤ 8) && true && (okP (.inr w) && r.all okP)) = true
 rw [hw, List.all_eq_true.mpr hr, decide_eq_true (by omega)]; rfl
theorem wZ {k : List Key} {v : Key} (h : qk k v) : szK v ≤ szT k + 62 := by
 cases v with
 | inl i => exact Nat.le_add_left _ _
 | inr z => exact Nat.add_le_add_right h.2 _
theorem iP {k : List Key} {v : Key} (h : qk k v) (hs : szT k ≤ 100000) : okP v = true := by
  cases v with
  | inl i => exact decide_eq_true h
  | inr z =>
    show (bX z && decide (z.length ≤ 100000)) = true
    rw [h.1, decide_eq_true (Nat.le_trans h.2 hs)]; rfl
theorem okW : okP (.inr "void") = true ∧ okP (.inr "entry") = true ∧ okP (.inr "joint") = true ∧ okP (.inr "row") = true := by decide +kernel
theorem szW : szK (.inr "void") = 66 ∧ szK (.inr "entry") = 67 ∧ szK (.inr "joint") = 67 ∧ szK (.inr "row") = 65 := by decide +kernel
theorem sz2 (x y : Key) : szT [x, y] = szK x + szK y := by simp [szT]
theorem sz3 (x y z : Key) : szT [x, y, z] = szK x + (szK y + szK z) := by simp [szT]
theorem ir {e : Key} (h : okP e = true) : okT [.inr "entry", e] = true := nj okW.2.1 (fun x hx => by rw [List.mem_singleton.mp hx]; exact h) (show 1 ≤ 7 by decide)
theorem kI {x y : Key} (hx : okP x = true) (hy : okP y = true) : okT [.inr "joint", x, y] = true := nj okW.2.2.1 (fun z hz => by
 rcases List.mem_cons.mp hz with h | h
 · rw [h]; exact hx
 · rw [List.mem_singleton.mp h]; exact hy) (show 2 ≤ 7 by decide)
theorem xp {k : Nat} (h1 : 1 ≤ k) (h2 : k ≤ 59) : (2 : Int) ≤ 2 ^ k ∧ (2 : Int) ^ k ≤ 2 ^ 59 := by
 have a : (2:Nat) ^ 1 ≤ 2 ^ k := Nat.pow_le_pow_right (by decide) h1
 have b : (2:Nat) ^ k ≤ 2 ^ 59 := Nat.pow_le_pow_right (by decide) h2
 rw [← vK k]; omega
theorem nv {m : Nat} (h : 2 ≤ m) : aX m < m := by
 have := Nat.log2_self_le (n := m - 1) (by omega)
 unfold aX; omega
theorem nB {m : Nat} (h : 2 ≤ m) : m ≤ 2 * aX m := by
 have := Nat.lt_log2_self (n := m - 1)
 unfold aX; rw [Nat.pow_succ] at this; omega
theorem hU {m e : Nat} (h : 2 ≤ m) (he : m ≤ 2 ^ e) : ∃ k, aX m = 2 ^ k ∧ k < e := by
 refine ⟨Nat.log2 (m - 1), rfl, ?_⟩
 have h1 := Nat.log2_self_le (n := m - 1) (by omega)
 exact (Nat.pow_lt_pow_iff_right (by decide : 1 < 2)).mp (by omega : 2 ^ Nat.log2 (m - 1) < 2 ^ e)
theorem mH {m e : Nat} (h : 2 ≤ m) (he : m ≤ 2 ^ (e + 1)) : aX m ≤ 2 ^ e := by
 obtain ⟨k, e1, hk⟩ := hU h he
 rw [e1]; exact Nat.pow_le_pow_right (by decide) (by omega)
theorem ny {e p m : Nat} (h : m ≤ 1) : cf e p m = [] := by
 cases e with
 | zero => rfl
 | succ e => unfold cf; rw [if_pos h]
theorem kZ {e p m : Nat} (h : ¬ m ≤ 1) : cf (e + 1) p m = if p < aX m then 0 :: cf e p (aX m) else 1 :: cf e (p - aX m) (m - aX m) := by
 show (if m ≤ 1 then _ else _) = _
 rw [if_neg h]
theorem jm : ∀ e p m, (cf e p m).length ≤ e
  | 0, _, _ => Nat.zero_le _
  | e + 1, p, m => by
    unfold cf
    split
    · simp
    · split
      · have := jm e p (aX m); simp; omega
      · have := jm e (p - aX m) (m - aX m); simp; omega
theorem DS {Q : V → Prop} {i : Int} (q : ∀ m : Nat, 1 ≤ m → m < 2 ^ 60 → Q (.int m)) (h0 : 1 ≤ i) (h1 : i < 2 ^ 60) : Q (.int i) := by
 obtain ⟨m, rfl⟩ := Int.eq_ofNat_of_zero_le (by omega : 0 ≤ i)
 exact q m (by omega) (by omega)
theorem yD (K : W.Frag) (A : Adr) : Ln (lL K A) 1 := by rintro vs H Q E ⟨m, rfl, _⟩; rfl
theorem Ba (T : Txt K mg A) (vs : List V) (H : Hp) (Q : VK) (E : XK) (h : lL K A vs H Q E) : DQ K A { nx := fun _ H' => Q .non H', rt := Q } (start ["many"] vs) H := by
 obtain ⟨m, rfl, h2, h60, q⟩ := h
 obtain ⟨k, ek, hk⟩ := hU h2 h60
 have e : (Builtin.Int.intBits ((m : Int) - 1) : Int) - 1 = ((Nat.log2 (m - 1) : Nat) : Int) := by
  unfold Builtin.Int.intBits
  rw [if_neg (by simp; omega)]
  have : ((m : Int) - 1).natAbs = m - 1 := by omega
  rw [this]; omega
 have hl : Nat.log2 (m - 1) < 60 := by
  have h1 := Nat.log2_self_le (n := m - 1) (by omega)
  exact (Nat.pow_lt_pow_iff_right (by decide : 1 < 2)).mp (by omega : 2 ^ Nat.log2 (m - 1) < 2 ^ 60)
 refine ⟨rfl, ?_⟩
 show ((0 ≤ (Builtin.Int.intBits ((m : Int) - 1) : Int) - 1 ∧ _ ∧ _) ∧ Q (.int (1 * 2 ^ ((Builtin.Int.intBits ((m : Int) - 1) : Int) - 1).toNat)) H)
 rw [e]
 refine ⟨⟨by omega, by omega, by decide⟩, ?_⟩
 rw [Int.one_mul, Int.toNat_natCast, ← vK]
 exact q
theorem Cz (K : W.Frag) (A : Adr) : Ln (pT K A) 1 := by rintro vs H Q E ⟨m, rfl, _⟩; rfl
theorem Eo (T : Txt K mg A) (vs : List V) (H : Hp) (Q : VK) (E : XK) (h : pT K A vs H Q E) : T_6 K A { nx := fun _ H' => Q .non H', rt := Q } (start ["_law_cell"] vs) H := by
 obtain ⟨c, rfl, q⟩ := h
 have q' : ∀ i : Int, 1 ≤ i → i < 2 ^ 60 → Q (.int i) H := fun i h0 h1 => DS (Q := fun v => Q v H) q h0 h1
 refine ⟨by decide, ?_⟩
 refine Sel.dec (fun h => ?_) (fun h => ?_)
 · exact ⟨⟨by decide, by decide⟩, by decide, q' _ (by omega) (by omega)⟩
 · refine ⟨by decide, ?_⟩
   refine Sel.dec (fun h => ?_) (fun h => ?_)
   · refine ⟨⟨by decide, by decide⟩, by decide, ⟨by omega, by omega, by decide⟩, ⟨by decide, by decide⟩, by decide, ?_⟩
     have b := xp (k := (1 + c / 3 % 59).toNat) (by omega) (by omega)
     generalize (1 + c / 3 % 59).toNat = k at b ⊢
     show Q (.int (1 * 2 ^ k + c / 177 % 4 - 1)) H
     exact q' _ (by omega) (by omega)
   · refine ⟨⟨by decide, by decide⟩, ⟨by decide, by decide, by decide⟩, by decide, ?_⟩
     show Q (.int (1 + c / 3 % (1 * 2 ^ 60 - 1))) H
     exact q' _ (by omega) (by omega)
theorem yV (K : W.Frag) (A : Adr) : Ln (mj K A) 2 := by rintro vs H Q E ⟨p, m, rfl, _⟩; rfl
theorem De (T : Txt K mg A) (vs : List V) (H : Hp) (Q : VK) (E : XK) (h : mj K A vs H Q E) : Dp K A { nx := fun _ H' => Q .non H', rt := Q } (start ["place", "many", "turns", "first", "rest", "ahead"] vs) H := by
 obtain ⟨p, m, rfl, hp, hm, q⟩ := h
 refine ⟨by show 0 ≤ sizeLine; decide, fun D hD => ?_⟩
 have q' := q D hD
 refine ⟨fun e σ H2 => ∃ (f r : Nat) (ts : List Int) (ah : Option V), σ = [some (.int p), some (.int m), some (.ref D), some (.int f), some (.int r), ah] ∧ H2 = upd H D (.lst (ts.map V.int)) ∧
   f ≤ p ∧ p < f + r ∧ r ≤ 2 ^ e ∧ e ≤ 60 ∧ ts.length + e = 60 ∧ ts ++ cf e (p - f) r = cf 60 p m, ⟨60, 0, m, [], none, rfl, rfl, by omega, by omega, hm, by omega, rfl, by rw [List.nil_append, Nat.sub_zero]⟩, ?_⟩
 rintro e σ H2 ⟨f, r, ts, ah, rfl, rfl, hf, hr, he, h60, hl, hw⟩
 refine sR (fun h => ?_) (fun h => ?_)
 · have h2 : 2 ≤ r := by omega
   cases e with
   | zero => simp at he; omega
   | succ e =>
   have b1 := nv h2
   have b2 := nB h2
   have b3 := mH h2 he
   have hr60 : r ≤ 2 ^ 60 := Nat.le_trans he (Nat.pow_le_pow_right (by decide) h60)
   rw [kZ (by omega)] at hw
   refine ⟨fun σ' H' => ∃ (f r : Nat) (ts : List Int) (ah : Option V), σ' = [some (.int p), some (.int m), some (.ref D), some (.int f), some (.int r), ah] ∧ H' = upd H D (.lst (ts.map V.int)) ∧
     f ≤ p ∧ p < f + r ∧ r ≤ 2 ^ e ∧ e ≤ 60 ∧ ts.length + e = 60 ∧ ts ++ cf e (p - f) r = cf 60 p m, fun σ' H' w => ⟨e, by omega, w⟩, ?_⟩
   refine ⟨r, rfl, h2, hr60, ?_⟩
   refine Sel.dec (fun hlt => ?_) (fun hlt => ?_)
   · rw [if_pos (by omega)] at hw
     refine ⟨.inl ⟨rfl, _, SqL.of am⟩, D, _, _, rfl, rfl, am, by rw [List.length_map]; exact bW (by omega), ?_⟩
     refine ⟨f, aX r, ts ++ [0], _, rfl, by rw [List.map_append]; exact dI, hf, by omega, b3, by omega, by rw [List.length_append]; simp; omega, ?_⟩
     rw [List.append_assoc]; exact hw
   · rw [if_neg (by omega)] at hw
     refine ⟨.inl ⟨rfl, _, SqL.of am⟩, D, _, _, rfl, rfl, am, by rw [List.length_map]; exact bW (by omega), ?_⟩
     refine ⟨f + aX r, r - aX r, ts ++ [1], some (.int (aX r)), ?_, by rw [List.map_append]; exact dI, by omega, by omega, by omega, by omega, by rw [List.length_append]; simp; omega, ?_⟩
     · show [some (V.int p), some (V.int m), some (V.ref D), some (V.int ((f : Int) + (aX r : Int))), some (V.int ((r : Int) - (aX r : Int))), some (V.int (aX r))] = _
       rw [show ((f : Int) + (aX r : Int)) = ((f + aX r : Nat) : Int) by omega, show ((r : Int) - (aX r : Int)) = ((r - aX r : Nat) : Int) by omega]
     · rw [List.append_assoc, show p - (f + aX r) = p - f - aX r by omega]; exact hw
 · rw [ny (by omega), List.append_nil] at hw
   show Q (.ref D) (upd H D (.lst (ts.map V.int)))
   rw [hw]; exact q'
theorem Ad (K : W.Frag) (A : Adr) : Ln (lJ K A) 3 := by rintro vs H Q E ⟨t, o, a, rfl, _⟩; rfl
theorem BK (T : Txt K mg A) : Rd (lJ K A) (DA K A) ["turn", "own", "aside"] := by
 intro vs H Q E h
 obtain ⟨t, o, a, rfl, q⟩ := h
 unfold jtT at q
 refine Sel.dec (fun h => ⟨aD (show 3 ≤ 1000000 by decide), fun p hp => ?_⟩) (fun h => ⟨aD (show 3 ≤ 1000000 by decide), fun p hp => ?_⟩)
 · rw [if_pos h] at q; exact q p hp
 · rw [if_neg h] at q; exact q p hp
theorem zU (K : W.Frag) (A : Adr) : Ln (lI K A) 1 := by rintro vs H Q E ⟨p, c, v, rfl, _⟩; rfl
theorem AB (T : Txt K mg A) : Rd (lI K A) (DR K A) ["thing"] := by
 intro vs H Q E h
 obtain ⟨p, c, v, rfl, hp, hc, okv, q⟩ := h
 have ty : tyN H (.ref p) = some "tuple" := by unfold tyN; dsimp only; rw [hp]
 refine ⟨by decide, "tuple", ty, Sel.t (.inl (.inr (.inl ⟨_, SqT.of hp, Sel.t (ixT (j := 0) hp rfl rfl ⟨c, rfl, by omega, by omega, Sel.t (ixT (j := 1) hp rfl rfl ⟨_, _, rfl, rh v, ?_⟩)⟩)⟩)))⟩
 rw [iG okv]; exact q
theorem yP (K : W.Frag) (A : Adr) : Ln (lM K A) 1 := by rintro vs H Q E ⟨p, c, v, rfl, _⟩; rfl
theorem Co (T : Txt K mg A) : Rd (lM K A) (Ex K A) ["thing"] := by
 intro vs H Q E h
 obtain ⟨p, c, v, rfl, hp, hc, okv, q⟩ := h
 exact ⟨p, c, v, rfl, hp, hc, okv, Sel.no rfl q⟩
theorem Ay (K : W.Frag) (A : Adr) : Ln (lO K A) 2 := by rintro vs H Q E ⟨p, ks, rfl, _⟩; rfl
theorem Cu (T : Txt K mg A) : Rd (lO K A) (Ef K A) ["many", "thing"] := by
 intro vs H Q E h
 obtain ⟨p, k, rfl, hp, ok, l5, q⟩ := h
 have ty : tyN H (.ref p) = some "tuple" := by unfold tyN; dsimp only; rw [hp]
 have hml : (k.map kV).length = k.length := by simp
 refine ⟨by decide, "tuple", ty, Sel.t (.inl (.inr (.inl ⟨_, SqT.of hp, ?_⟩)))⟩
 rw [hml]
 refine Sel.dec (fun _ => ?_) (fun h => absurd rfl h)
 refine ⟨p, rfl, .inr ⟨⟨_, SqT.of hp⟩, fun D hD => ?_⟩⟩
 have hne : p ≠ D := aq hp hD
 refine fe (cG.tuple (xs := k.map kV) .non) (fun i ys H2 => ys = (k.take i).map (fun x => V.bl true) ∧ H2 = upd H D (.lst ys)) (fun i ys H2 hi ⟨_, e2⟩ => ?_) ⟨rfl, rfl⟩ (fun i ys H2 hi ⟨e1, e2⟩ => ?_) (fun ys H2 ⟨e1, e2⟩ => ?_)
 · rw [e2]; exact SqT.of (by rw [aj hne]; exact hp)
 · subst e2
   have hi' : i < k.length := by omega
   obtain ⟨x, hx⟩ : ∃ x, k[i]? = some x := ⟨_, List.getElem?_eq_getElem hi'⟩
   have hg : (k.map kV).getD i .non = kV x := by rw [List.getD_eq_getElem?_getD, List.getElem?_map, hx]; rfl
   rw [hg]
   have hs := iG (ok x (List.mem_of_getElem? hx))
   refine nk ⟨_, kA x, rfl, rf _ x, ?_⟩
   rw [hs]
   have hyl : ys.length = i := by rw [e1, List.length_map, List.length_take]; omega
   refine ⟨am, by rw [hyl]; exact bW (by omega), CWd.next hi ⟨?_, dI⟩⟩
   rw [e1, List.take_add_one, List.map_append, hx]; rfl
 · subst e2
   refine ⟨D, k.map fun _ => true, rfl, by rw [am, e1, hml, List.take_length, List.map_map]; rfl, ?_⟩
   have : (k.map fun _ => true).all id = true := by simp
   rw [this]; exact q _ (au.upd hD)
theorem dO.same {H H' : Hp} {P T : Addr} {e : Key} {ks : List Key} (w : dO H P T e ks) (S : au H H') : dO H' P T e ks := ⟨S _ _ w.hP, S _ _ w.hT⟩
theorem yT (K : W.Frag) (A : Adr) : Ln (lP K A) 2 := by rintro vs H Q E ⟨L, P, T, ts, e, ks, rfl, _⟩; rfl
theorem BZ (T : Txt K mg A) : Rd (lP K A) (Ee K A) ["turns", "thing"] := by
 intro vs H Q E h
 obtain ⟨L, P, TT, ts, e, ks, rfl, hL, w, oke, okk, hl, l5, q⟩ := h
 have ty : tyN H (.ref P) = some "tuple" := by unfold tyN; dsimp only; rw [w.hP]
 refine ⟨by decide, "tuple", ty, Sel.no rfl (.inl (.inr (.inl ⟨_, SqT.of w.hP, Sel.no (by simp) (ixT (j := 0) w.hP rfl rfl ⟨_, _, rfl, rh e, ?_⟩)⟩)))⟩
 rw [iG oke]
 refine Sel.t (.inl (.inl ⟨_, SqL.of hL, ixT (j := 1) w.hP rfl rfl ⟨TT, ks, ?_, w.hT, okk, l5, q⟩⟩))
 rw [List.length_map, hl]
end Rs
namespace Rs
open PySem PySem.Spec PyProof.Rows L2
def cO (c : Int) (st : List (Int × Key)) (i : Nat) (v : Key) : List Key := match st[i]? with
 | some x => jtT x.1 v x.2
 | none => [.inr "row", .inl c, v]
theorem ip (h : List Key → Key) (c : Int) (e : Key) (st : List (Int × Key)) (i : Nat) : cj h c e st (i + 1) = cO c st i (h (cj h c e st i)) := rfl
theorem lj (h : List Key → Key) (c : Int) (e : Key) (st : List (Int × Key)) (m : Nat) : cD h c e st (m + 1) = cD h c e st m ++ [cj h c e st m] := by
 unfold cD; rw [List.range_succ, List.map_append]; rfl
theorem uG (h : List Key → Key) (c : Int) (e : Key) (st : List (Int × Key)) {m i : Nat} (hi : i < m) : (cD h c e st m)[i]? = some (cj h c e st i) := by
 unfold cD; rw [List.getElem?_map, List.getElem?_range hi]; rfl
theorem Ext.refl' (g : List Key → Option Key) : Ext g (fun k => (g k).getD (.inl 0)) := fun k v e => by show (g k).getD _ = v; rw [e]; rfl
theorem fz {g : List Key → Option Key} {c : Int} {e : Key} {st : List (Int × Key)} {m : Nat} {tt : List (List Key)} {t : List Key} (H1 : ∀ h, Ext g h → tt ++ [t] = cD h c e st (m + 1)) {h : List Key → Key} (eh : Ext g h) : t = cj h c e st m := by
 have := H1 h eh
 rw [lj] at this
 exact List.singleton_inj.mp (List.append_inj' this rfl).2
theorem vg {g g' : List Key → Option Key} {c : Int} {e : Key} {st : List (Int × Key)} {m : Nat} {tt : List (List Key)} {t : List Key} {v : Key} (H1 : ∀ h, Ext g h → tt ++ [t] = cD h c e st (m + 1)) (sub : Sub g g') (gv : g' t = some v) :
  ∀ h, Ext g' h → (tt ++ [t]) ++ [cO c st m v] = cD h c e st (m + 2) := fun h eh => by
 have e1 := Ext.of sub eh
 rw [lj, ← H1 h e1, ip, ← fz H1 e1, eh _ _ gv]
theorem dZ {g g' : List Key → Option Key} {c : Int} {e : Key} {st : List (Int × Key)} {m : Nat} {tt : List (List Key)} (H1 : ∀ h, Ext g h → tt = cD h c e st m) (sub : Sub g g') : ∀ h, Ext g' h → tt = cD h c e st m := fun h eh => H1 h (Ext.of sub eh)
theorem okC {c : Nat} (h : c < 2 ^ 60) : okP (.inl (c : Int)) = true := by
 have p60 : (2 : Int) ^ 60 < 10 ^ 60 := by decide +kernel
 have k : ∀ i : Int, 0 ≤ i → i < 10 ^ 60 → okP (.inl i) = true := fun i h0 h1 => decide_eq_true ⟨h0, h1⟩
 exact k _ (by omega) (by omega)
theorem Bg {t : Int} {v a : Key} (hv : okP v = true) (ha : okP a = true) : okT (jtT t v a) = true := by
 unfold jtT; split
 · exact kI hv ha
 · exact kI ha hv
theorem AW {t : Int} {v a : Key} : szT (jtT t v a) = 67 + szK v + szK a := by
 unfold jtT; split
 · rw [sz3, szW.2.2.1]; omega
 · rw [sz3, szW.2.2.1]; omega
theorem yt {c : Nat} {st : List (Int × Key)} {i B : Nat} {v : Key} (hc : c < 2 ^ 60) (hm : ∀ x ∈ st, enK x.2) (ov : okP v = true) (sv : szK v ≤ B + 62) : okT (cO c st i v) = true ∧ szT (cO c st i v) ≤ B + 200 := by
  unfold cO
  cases e : st[i]? with
  | some x =>
    have hx := hm x (List.mem_of_getElem? e)
    exact ⟨Bg ov hx.1, by rw [AW]; have := hx.2; omega⟩
  | none =>
    refine ⟨nj okW.2.2.2 (fun z hz => ?_) (show 2 ≤ 7 by decide), ?_⟩
    · rcases List.mem_cons.mp hz with rfl | hz
      · exact okC hc
      · rw [List.mem_singleton.mp hz]; exact ov
    · show szT [.inr "row", .inl (c : Int), v] ≤ _
      rw [sz3, szW.2.2.2]; show 65 + (62 + szK v) ≤ _; omega
theorem zS {t : Int} {v v' a a' : Key} (h : jtT t v a = jtT t v' a') : v = v' ∧ a = a' := by
 unfold jtT at h
 split at h
 · cases h; exact ⟨rfl, rfl⟩
 · cases h; exact ⟨rfl, rfl⟩
theorem wx {h : List Key → Key} {c : Int} {e e' : Key} {st st' : List (Int × Key)} (ht : st.map (·.1) = st'.map (·.1)) (n : Nat) (hn : n ≤ st.length + 1)
    (hc : ∀ i, i < n → h (cj h c e st i) = h (cj h c e' st' i) → cj h c e st i = cj h c e' st' i) (hl : cj h c e st n = cj h c e' st' n) : e = e' ∧ ∀ j, j < n → st[j]? = st'[j]? := by
  have hlen : st.length = st'.length := by have := congrArg List.length ht; simpa using this
  induction n with
  | zero => exact ⟨by cases hl; rfl, fun j hj => absurd hj (Nat.not_lt_zero _)⟩
  | succ n ih =>
    rw [ip, ip] at hl
    by_cases hn2 : n < st.length
    · have e1 : st[n]? = some st[n] := List.getElem?_eq_getElem hn2
      have e2 : st'[n]? = some (st'[n]'(by omega)) := List.getElem?_eq_getElem (by omega)
      have et : (st[n]).1 = (st'[n]'(by omega)).1 := by
        have := congrArg (fun l => l[n]?) ht
        simp only [List.getElem?_map, e1, e2, Option.map_some, Option.some.injEq] at this
        exact this
      unfold cO at hl
      rw [e1, e2] at hl
      dsimp only at hl
      rw [← et] at hl
      obtain ⟨hv, ha⟩ := zS hl
      obtain ⟨r1, r2⟩ := ih (by omega) (fun i hi => hc i (by omega)) (hc n (by omega) hv)
      refine ⟨r1, fun j hj => ?_⟩
      rcases Nat.lt_or_ge j n with h1 | h1
      · exact r2 j h1
      · have : j = n := by omega
        subst this
        rw [e1, e2]
        exact congrArg some (Prod.ext et ha)
    · have e1 : st[n]? = none := List.getElem?_eq_none (by omega)
      have e2 : st'[n]? = none := List.getElem?_eq_none (by omega)
      unfold cO at hl
      rw [e1, e2] at hl
      have hv : h (cj h c e st n) = h (cj h c e' st' n) := by injection hl with _ hl; injection hl with _ hl; injection hl
      obtain ⟨r1, r2⟩ := ih (by omega) (fun i hi => hc i (by omega)) (hc n (by omega) hv)
      refine ⟨r1, fun j hj => ?_⟩
      rcases Nat.lt_or_ge j n with h1 | h1
      · exact r2 j h1
      · have : j = n := by omega
        subst this
        rw [e1, e2]
theorem df {ts : List Int} {ks : List Key} (h : ks.length = ts.length) : (stR ts ks).length = ts.length := by unfold stR; simp [List.length_zip, h]
theorem wB {ts : List Int} {ks ks' : List Key} (h : ks.length = ts.length) (h' : ks'.length = ts.length) : (stR ts ks).map (·.1) = (stR ts ks').map (·.1) := by
 unfold stR
 rw [List.map_reverse, List.map_reverse]
 congr 1
 have z : ∀ (l : List Key), l.length = ts.length → (ts.zip l).map (·.1) = ts := fun l hl => by
  rw [show (fun x : Int × Key => x.1) = Prod.fst from rfl, List.map_fst_zip (by omega)]
 rw [z _ h, z _ h']
theorem xb {ts : List Int} {ks ks' : List Key} (h : ks.length = ts.length) (h' : ks'.length = ts.length) (e : ∀ j, j < ts.length + 1 → (stR ts ks)[j]? = (stR ts ks')[j]?) : ks = ks' := by
 have e1 : stR ts ks = stR ts ks' := by
  refine List.ext_getElem? fun j => ?_
  rcases Nat.lt_or_ge j (ts.length + 1) with hj | hj
  · exact e j hj
  · rw [List.getElem?_eq_none (by rw [df h]; omega), List.getElem?_eq_none (by rw [df h']; omega)]
 have e2 : ts.zip ks = ts.zip ks' := by unfold stR at e1; exact List.reverse_inj.mp e1
 have z : ∀ (l : List Key), l.length = ts.length → (ts.zip l).map (·.2) = l := fun l hl => by
  rw [show (fun x : Int × Key => x.2) = Prod.snd from rfl, List.map_snd_zip (by omega)]
 rw [← z _ h, e2, z _ h']
theorem xw {ts : List Int} {ks : List Key} {x : Int × Key} (h : x ∈ stR ts ks) : x.1 ∈ ts ∧ x.2 ∈ ks := by
 unfold stR at h
 rw [List.mem_reverse] at h
 obtain ⟨a, b⟩ := x
 exact ⟨(List.of_mem_zip h).1, (List.of_mem_zip h).2⟩
theorem oF {ts : List Int} {ks : List Key} (h : ks.length = ts.length) {i : Nat} (hi : i < ts.length) : ∃ t k, ts[ts.length - 1 - i]? = some t ∧ ks[ts.length - 1 - i]? = some k ∧ (stR ts ks)[i]? = some (t, k) := by
 refine ⟨ts[ts.length - 1 - i]'(by omega), ks[ts.length - 1 - i]'(by omega), List.getElem?_eq_getElem (by omega), List.getElem?_eq_getElem (by omega), ?_⟩
 unfold stR
 rw [List.getElem?_reverse (by rw [List.length_zip]; omega)]
 have e : (ts.zip ks).length - 1 - i = ts.length - 1 - i := by rw [List.length_zip]; omega
 rw [e, List.getElem?_eq_getElem (by rw [List.length_zip]; omega), List.getElem_zip]
theorem sN {h : List Key → Key} {c : Int} {e e' : Key} {ts : List Int} {ks ks' : List Key} (l1 : ks.length = ts.length) (l2 : ks'.length = ts.length)
  (hc : ∀ a b, a ∈ cD h c e (stR ts ks) (ts.length + 2) → b ∈ cD h c e' (stR ts ks') (ts.length + 2) → h a = h b → a = b)
  (hl : h (cj h c e (stR ts ks) (ts.length + 1)) = h (cj h c e' (stR ts ks') (ts.length + 1))) : e = e' ∧ ks = ks' := by
 have m : ∀ (e : Key) (ks : List Key) (i : Nat), i ≤ ts.length + 1 → cj h c e (stR ts ks) i ∈ cD h c e (stR ts ks) (ts.length + 2) := fun e ks i hi => List.mem_of_getElem? (uG h c e (stR ts ks) (by omega : i < ts.length + 2))
 obtain ⟨r1, r2⟩ := wx (wB l1 l2) (ts.length + 1) (by rw [df l1]; omega) (fun i hi q => hc _ _ (m _ _ i (by omega)) (m _ _ i (by omega)) q) (hc _ _ (m _ _ _ (Nat.le_refl _)) (m _ _ _ (Nat.le_refl _)) hl)
 exact ⟨r1, xb l1 l2 r2⟩
theorem jS : ∀ (f p m : Nat), ∀ t ∈ cf f p m, t = 0 ∨ t = 1
  | 0, _, _, t, h => nomatch h
  | f + 1, p, m, t, h => by
    rw [cf] at h
    split at h
    · cases h
    · split at h
      · rcases List.mem_cons.mp h with rfl | h
        · exact .inl rfl
        · exact jS f _ _ t h
      · rcases List.mem_cons.mp h with rfl | h
        · exact .inr rfl
        · exact jS f _ _ t h
variable {A : Adr}
theorem Stp.bb {H : Hp} {f b : Addr} {d : Kd} {g : List Key → Option Key} {n : Nat} (s : Stp A H f b d g n) : (∃ φ, H b = some (.ext φ)) ∨ ∃ kvs, H b = some (.dT kvs) := by
 cases s with
 | wri hc hb hg => obtain ⟨c, h1, _⟩ := hc.ex; exact .inl ⟨_, by rw [hb]; exact h1⟩
 | cnt q x kvs hc num => exact .inr ⟨_, num.di⟩
 | wea q m h1 h2 hc hb hg => obtain ⟨c, h1, _⟩ := hc.ex; exact .inl ⟨_, by rw [hb]; exact h1⟩
 | pla q0 q1 q2 D j j0 j1 kvs al hc hb => exact .inr ⟨_, hb⟩
theorem Stp.nb {H : Hp} {f b z : Addr} {d : Kd} {g : List Key → Option Key} {n : Nat} {o : HO} (s : Stp A H f b d g n) (h : H z = some o) (h1 : ∀ φ, o ≠ .ext φ) (h2 : ∀ kvs, o ≠ .dT kvs) : z ≠ b := fun e => by
 subst e
 rcases s.bb with ⟨φ, e⟩ | ⟨kvs, e⟩
 · rw [h] at e; exact h1 _ (Option.some.inj e)
 · rw [h] at e; exact h2 _ (Option.some.inj e)
theorem Stp.setL {H : Hp} {f b L : Addr} {d : Kd} {g : List Key → Option Key} {n : Nat} {xs : List V} {o : HO} (s : Stp A H f b d g n) (hL : H L = some (.lst xs)) : Stp A (upd H L o) f b d g n := by
  have kx : ∀ z (u : HO), H z = some u → (∀ xs, u ≠ .lst xs) → upd H L o z = some u := fun z u e hu => by rw [aj (bN e hL (hu _))]; exact e
  cases s with
  | wri hc hb hg ed => exact .wri (hc.keep fun x φ e => kx _ _ e (fun _ z => nomatch z)) hb hg ed
  | cnt q x kvs hc num hl hs st hg ed =>
    obtain ⟨⟨dx, h1⟩, h2⟩ := num
    exact .cnt q x kvs (hc.keep fun x φ e => kx _ _ e (fun _ z => nomatch z)) ⟨⟨dx, kx _ _ h1 (fun _ z => nomatch z)⟩, kx _ _ h2 (fun _ z => nomatch z)⟩ hl hs st hg ed
  | wea q m h1 h2 hc hb hg ed => exact .wea q m h1 h2 (hc.keep fun x φ e => kx _ _ e (fun _ z => nomatch z)) hb hg ed
  | pla q0 q1 q2 D j j0 j1 kvs al hc hb ha bD hl hs st hg ed => exact .pla q0 q1 q2 D j j0 j1 kvs al (hc.keep fun x φ e => kx _ _ e (fun _ z => nomatch z)) (kx _ _ hb (fun _ z => nomatch z)) (ha.keep (fun _ e => kx _ _ e (fun _ z => nomatch z)) (fun _ _ e => kx _ _ e (fun _ z => nomatch z))) bD hl hs st hg ed
theorem dO.kb {H H' : Hp} {P T f b : Addr} {d : Kd} {e : Key} {ks : List Key} {g : List Key → Option Key} {n : Nat} (w : dO H P T e ks) (s : Stp A H f b d g n) (k : aY b H H') : dO H' P T e ks :=
 ⟨k _ _ (s.nb w.hP (fun _ z => nomatch z) (fun _ z => nomatch z)) w.hP, k _ _ (s.nb w.hT (fun _ z => nomatch z) (fun _ z => nomatch z)) w.hT⟩
theorem bx.same {H H' : Hp} {f b P T : Addr} {d : Kd} {c : Nat} {ts : List Int} {ks : List Key} {e : Key} {g : List Key → Option Key} {n : Nat} (p : bx A H f b P T d c ts ks e g n) (S : au H H') : bx A H' f b P T d c ts ks e g n :=
 ⟨p.s.same (Nat.le_refl _) S, p.hn, p.c1, p.c2, p.tl, p.t01, p.kl, p.ee, p.ke, p.w.same S⟩
theorem bx.kb {H H' : Hp} {f b P T : Addr} {d : Kd} {c : Nat} {ts : List Int} {ks : List Key} {e : Key} {g g' : List Key → Option Key} {n m : Nat} (p : bx A H f b P T d c ts ks e g n) (k : aY b H H') (s : Stp A H' f b d g' m) (hm : m + 200 ≤ 40000) : bx A H' f b P T d c ts ks e g' m :=
 ⟨s, hm, p.c1, p.c2, p.tl, p.t01, p.kl, p.ee, p.ke, p.w.kb p.s k⟩
end Rs
namespace Rs
open PySem PySem.Spec PyProof.Rows L2
variable {K : W.Frag} {mg : Str → Option Value} {A : Adr}
theorem zB (K : W.Frag) (A : Adr) : Ln (lY K A) 2 := by rintro vs H Q E ⟨p, m, rfl, _⟩; rfl
theorem AA (T : Txt K mg A) : Rd (lY K A) (Dr K A) ["_law_place", "_law_many", "_law_turns", "_law_cut"] := by
 intro vs H Q E h
 obtain ⟨p, m, rfl, hp, hm, q⟩ := h
 refine ⟨by show 0 ≤ sizeLine; decide, fun D hD => ?_⟩
 have q' := q D hD
 refine ⟨⟨by decide, by decide, by decide⟩, ?_⟩
 show ∃ _, _
 refine ⟨fun e σ H2 => ∃ (f r c : Nat) (ts : List Int), σ = [some (.int (f : Int)), some (.int (r : Int)), some (.ref D), some (.int ((2 ^ c : Nat) : Int))] ∧ H2 = upd H D (.lst (ts.map V.int)) ∧
   f < r ∧ r ≤ 2 ^ e ∧ r ≤ 2 ^ c ∧ e ≤ 60 ∧ ts.length + e = 60 ∧ ts ++ cf e f r = cf 60 p m, ⟨60, p, m, 60, [], rfl, rfl, hp, hm, hm, Nat.le_refl _, rfl, by rw [List.nil_append]⟩, ?_⟩
 rintro e σ H2 ⟨f, r, c, ts, rfl, rfl, hf, he, hc, h60, hl, hw⟩
 refine sR (fun h => ?_) (fun h => ?_)
 · have h2 : 2 ≤ r := by have h : (1 : Int) < (r : Int) := h; omega
   cases e with
   | zero => simp at he; omega
   | succ e =>
   have b1 := nv h2
   have b2 := nB h2
   have b3 := mH h2 he
   obtain ⟨k, ek, hk⟩ := hU h2 hc
   rw [kZ (by omega)] at hw
   refine ⟨fun σ' H' => ∃ (f r c : Nat) (ts : List Int), σ' = [some (.int (f : Int)), some (.int (r : Int)), some (.ref D), some (.int ((2 ^ c : Nat) : Int))] ∧ H' = upd H D (.lst (ts.map V.int)) ∧
     f < r ∧ r ≤ 2 ^ e ∧ r ≤ 2 ^ c ∧ e ≤ 60 ∧ ts.length + e = 60 ∧ ts ++ cf e f r = cf 60 p m, fun σ' H' w => ⟨e, by omega, w⟩, ?_⟩
   refine ⟨fun g σ' H' => ∃ d : Nat, σ' = [some (.int (f : Int)), some (.int (r : Int)), some (.ref D), some (.int ((2 ^ d : Nat) : Int))] ∧ H' = upd H D (.lst (ts.map V.int)) ∧ g = d ∧ k ≤ d, ⟨c, c, rfl, rfl, rfl, by omega⟩, ?_⟩
   rintro g σ' H' ⟨d, rfl, rfl, rfl, hd⟩
   refine sR (fun h => ?_) (fun h => ?_)
   · have h : (r : Int) ≤ ((2 ^ g : Nat) : Int) := h
     have hkd : k < g := by
       rcases Nat.lt_or_ge k g with h' | h'
       · exact h'
       · have : k = g := by omega
         subst this
         omega
     cases g with
     | zero => omega
     | succ g =>
     refine ⟨fun σ'' H'' => ∃ d : Nat, σ'' = [some (.int (f : Int)), some (.int (r : Int)), some (.ref D), some (.int ((2 ^ d : Nat) : Int))] ∧ H'' = upd H D (.lst (ts.map V.int)) ∧ g = d ∧ k ≤ d, fun _ _ w => ⟨g, by omega, w⟩, ?_⟩
     refine ⟨⟨by decide, by decide⟩, g, ?_, rfl, rfl, by omega⟩
     have hp2 : 2 ^ (g + 1) = 2 * 2 ^ g := by rw [Nat.pow_succ]; omega
     show [some (V.int f), some (V.int r), some (V.ref D), some (V.int (((2 ^ (g + 1) : Nat) : Int) / 2))] = _
     rw [show (((2 ^ (g + 1) : Nat) : Int) / 2) = ((2 ^ g : Nat) : Int) by omega]
   · have h : ¬ (r : Int) ≤ ((2 ^ g : Nat) : Int) := h
     have hgk : g = k := by
       rcases Nat.lt_or_ge k g with h' | h'
       · have : 2 ^ (k + 1) ≤ 2 ^ g := Nat.pow_le_pow_right (by decide) h'
         rw [Nat.pow_succ] at this
         omega
       · omega
     subst hgk
     rw [← ek] at h ⊢
     refine ⟨.inl ⟨rfl, _, SqL.of am⟩, D, _, _, rfl, rfl, am, by rw [List.length_map]; exact bW (by omega), ?_⟩
     refine Sel.dec (fun hlt => ?_) (fun hlt => ?_)
     · have hlt : ((aX r : Nat) : Int) ≤ (f : Int) := hlt
       rw [if_neg (by omega)] at hw
       refine ⟨f - aX r, r - aX r, g, ts ++ [1], ?_, ?_, by omega, by omega, by omega, by omega, by rw [List.length_append]; simp; omega, by rw [List.append_assoc]; exact hw⟩
       · rw [← ek]
         show [some (V.int ((f : Int) - (aX r : Int))), some (V.int ((r : Int) - (aX r : Int))), some (V.ref D), some (V.int (aX r))] = _
         rw [show ((f : Int) - (aX r : Int)) = ((f - aX r : Nat) : Int) by omega, show ((r : Int) - (aX r : Int)) = ((r - aX r : Nat) : Int) by omega]
       · rw [dI, List.map_append, decide_eq_true hlt]; rfl
     · have hlt : ¬ ((aX r : Nat) : Int) ≤ (f : Int) := hlt
       rw [if_pos (by omega)] at hw
       refine ⟨f, aX r, g, ts ++ [0], by rw [ek]; rfl, ?_, by omega, b3, by omega, by omega, by rw [List.length_append]; simp; omega, by rw [List.append_assoc]; exact hw⟩
       · rw [dI, List.map_append, decide_eq_false hlt]; rfl
 · have h : ¬ (1 : Int) < (r : Int) := h
   rw [ny (by omega), List.append_nil] at hw
   rw [hw]; exact q'
end Rs
namespace Rs
open PySem PySem.Spec PyProof.Rows L2
variable {K : W.Frag} {mg : Str → Option Value} {A : Adr}
theorem PK.keep {H H' : Hp} {ps : List Addr} {tt : List (List Key)} (h : PK H ps tt) (k : ∀ x xs, H x = some (.tup xs) → H' x = some (.tup xs)) : PK H' ps tt := Paired.mapP h fun p t ⟨h1, h2⟩ => ⟨k _ _ h1, h2⟩
theorem jb {α β : Type} {F : α → β → Prop} : ∀ {l₁ : List α} {l₂ : List β} {a : α} {b : β}, Paired F l₁ l₂ → F a b → Paired F (l₁ ++ [a]) (l₂ ++ [b])
 | _, _, _, _, .nil, h => .cons h .nil
 | _, _, _, _, .cons r t, h => .cons r (jb t h)
theorem aY.tup {H H' : Hp} {f b : Addr} {d : Kd} {g : List Key → Option Key} {n : Nat} (s : Stp A H f b d g n) (k : aY b H H') : ∀ x xs, H x = some (.tup xs) → H' x = some (.tup xs) := fun x xs e => k _ _ (s.nb e (fun _ z => nomatch z) (fun _ z => nomatch z)) e
structure Ld (A : Adr) (H H' : Hp) (f b M : Addr) (d : Kd) (c : Nat) (e : Key) (st : List (Int × Key)) (i : Nat) (g g' : List Key → Option Key) (n : Nat) (ps : List Addr) (p : Addr) (tt : List (List Key)) (t : List Key) : Prop where
 kb : aY b H H'
 s : Stp A H' f b d g' (n + i)
 sub : Sub g g'
 hM : H' M = some (.lst (ps.map V.ref ++ [.ref p]))
 pk : PK H' (ps ++ [p]) (tt ++ [t])
 len : tt.length = i
 sz : ∀ k ∈ tt ++ [t], szT k ≤ 200 * (i + 1)
 eq : ∀ h, Ext g' h → tt ++ [t] = cD h c e st (i + 1)
theorem eA {H : Hp} {p : Addr} {t : List Key} : ∀ {ps : List Addr} {tt : List (List Key)}, ps.length = tt.length → PK H (ps ++ [p]) (tt ++ [t]) → H p = some (.tup (t.map kV)) ∧ okT t = true
 | [], [], _, .cons h _ => h
 | _ :: _, _ :: _, hl, .cons _ r => eA (Nat.succ.inj hl) r
 | [], _ :: _, hl, _ => nomatch hl
 | _ :: _, [], hl, _ => nomatch hl
theorem dk {H : Hp} {p : Addr} {t : List Key} {ps : List Addr} {tt : List (List Key)} (h : PK H (ps ++ [p]) (tt ++ [t])) : ps.length = tt.length := by
 have := de h
 simp at this; exact this
theorem Ld.step {H H5 : Hp} {f b M : Addr} {d : Kd} {c : Nat} {e : Key} {st : List (Int × Key)} {i : Nat} {g g5 : List Key → Option Key} {n : Nat} {ps : List Addr} {p : Addr} {tt : List (List Key)} {t : List Key} {R : VK}
   (l : Ld A H H5 f b M d c e st i g g5 n ps p tt t) (hM : H M = none) (hc : c < 2 ^ 60) (hm : ∀ x ∈ st, enK x.2) (hi : i ≤ 61) (hn : n + i ≤ 45000)
   (q : ∀ (v : Key) (H6 : Hp) (g6 : List Key → Option Key), aY b H5 H6 → H6 M = some (.lst (ps.map V.ref ++ [.ref p])) → (∀ p7, H6 p7 = none → Ld A H (upd (upd H6 p7 (.tup ((cO c st i v).map kV))) M (.lst (ps.map V.ref ++ [.ref p] ++ [.ref p7]))) f b M d c e st (i + 1) g g6 n (ps ++ [p]) p7 (tt ++ [t]) (cO c st i v)) → R (kV v) H6) : qu (dq K A) f [.ref p] H5 R E0 := by
 obtain ⟨kb, s5, sub, hM5, pk, len, sz, eq⟩ := l
 obtain ⟨hp, ok⟩ := eA (dk pk) pk
 have nM : M ≠ b := s5.nb hM5 (fun _ z => nomatch z) (fun _ z => nomatch z)
 refine dL s5 hn hp ok fun v H6 g6 kb6 s6 sub6 gv st6 => ?_
 have hM6 := kb6 _ _ nM hM5
 have szt := sz t (by simp)
 have ov := iP st6 (by omega)
 have sv := wZ st6
 obtain ⟨ok7, sz7⟩ := yt (i := i) (B := 200 * (i + 1)) hc hm ov (by omega)
 refine q v H6 g6 kb6 hM6 fun p7 hp7 => ?_
 have L7 : p7 ≠ M := Ne.symm (aq hM6 hp7)
 have hM7 : upd H6 p7 (.tup ((cO c st i v).map kV)) M = some (.lst (ps.map V.ref ++ [.ref p])) := au.upd hp7 _ _ hM6
 have kt : ∀ x xs, H6 x = some (.tup xs) → upd (upd H6 p7 (.tup ((cO c st i v).map kV))) M (.lst (ps.map V.ref ++ [.ref p] ++ [.ref p7])) x = some (.tup xs) := fun x xs ex => by
   rw [aj (bN ex hM6 (fun z => nomatch z))]; exact au.upd hp7 _ _ ex
 refine ⟨fun z o nz ez => ?_, ?_, sub.trans sub6, by rw [am, List.map_append]; rfl, jb ((pk.keep (aY.tup s5 kb6)).keep kt) ⟨by rw [aj L7]; exact am, ok7⟩, by rw [List.length_append, len]; rfl, fun k hk => ?_, vg eq sub6 gv⟩
 · rw [aj (aq ez hM)]; exact au.upd hp7 _ _ (kb6 _ _ nz (kb _ _ nz ez))
 · exact (s6.same (Nat.le_refl _) (au.upd hp7)).setL hM7
 · rcases List.mem_append.mp hk with h | h
   · have := sz k h; omega
   · rw [List.mem_singleton.mp h]; omega
theorem Ld.start {H H3 : Hp} {f b M t0 : Addr} {d : Kd} {c : Nat} {e : Key} {st : List (Int × Key)} {g : List Key → Option Key} {n : Nat} (s : Stp A H f b d g n) (S : au H H3) (he : enK e) (ht : H3 t0 = some (.tup [.str "entry", kV e])) (hM : H3 M = some (.lst [.ref t0])) : Ld A H H3 f b M d c e st 0 g g n [] t0 [] [.inr "entry", e] :=
 ⟨aY.same S, s.same (Nat.le_refl _) S, Sub.rfl', hM, .cons ⟨ht, ir he.1⟩ .nil, rfl, fun k hk => by
  rw [List.mem_singleton.mp hk, sz2, szW.2.1]; have := he.2; omega, fun h _ => rfl⟩
theorem Ld.done {H H' : Hp} {f b M : Addr} {d : Kd} {c : Nat} {e : Key} {st : List (Int × Key)} {i m : Nat} {g g' : List Key → Option Key} {n : Nat} {ps : List Addr} {p : Addr} {tt : List (List Key)} {t : List Key} {Q : VK}
  (l : Ld A H H' f b M d c e st i g g' n ps p tt t) (hM : H M = none) (hi : i ≤ 62) (em : m = i + 1) (q : gF A f b d c st e m g n H Q) : Q (.ref M) H' := by
 subst em
 have nM : M ≠ b := l.s.nb l.hM (fun _ z => nomatch z) (fun _ z => nomatch z)
 refine q M (ps ++ [p]) (tt ++ [t]) g' H' l.kb (l.s.same (by omega) (.refl _)) l.sub hM nM (by rw [l.hM, List.map_append]; rfl) l.pk (fun x hx => ?_) (by rw [List.length_append, l.len]; rfl) (fun k hk => by have := l.sz k hk; omega) l.eq
 obtain ⟨j, hj⟩ := List.mem_iff_getElem?.mp hx
 have hlt : j < (tt ++ [t]).length := by rw [← de l.pk]; exact (List.getElem?_eq_some_iff.mp hj).1
 obtain ⟨p', h1, h2, _⟩ := rF l.pk (List.getElem?_eq_getElem hlt)
 rw [hj] at h1
 cases h1
 exact l.s.nb h2 (fun _ z => nomatch z) (fun _ z => nomatch z)
theorem Br (K : W.Frag) (A : Adr) : Ln (ik K A) 5 := by rintro vs H Q E ⟨f, b, L, P, T, d, c, ts, ks, e, g, n, j, rfl, _⟩; rfl
theorem mF {ts : List Int} {ks : List Key} (h : ∀ k ∈ ks, enK k) : ∀ x ∈ stR ts ks, enK x.2 := fun x hx => h _ (xw hx).2
theorem ixB {K : W.Frag} {H : Hp} {Q : VK} {a : Addr} {xs : List V} {x : V} {i : Nat} (ha : H a = some (.lst xs)) (hi : i < xs.length) (hx : xs[xs.length - 1 - i]? = some x) (q : Q x H) : aS K (.ref a) (.int (-1 - (i : Int))) H Q := by
 refine .inl (.inl ⟨a, xs, -1 - (i : Int), x, rfl, rfl, SqL.of ha, ?_, q⟩)
 unfold atI L2.ixN
 rw [if_neg (by omega), if_pos (by omega)]
 show xs[(-1 - (i : Int) + (xs.length : Int)).toNat]? = _
 have : (-1 - (i : Int) + (xs.length : Int)).toNat = xs.length - 1 - i := by omega
 rw [this]; exact hx
theorem Ed {K : W.Frag} {H : Hp} {Q : VK} {a : Addr} {xs : List V} {x : V} {i : Nat} (ha : H a = some (.tup xs)) (hi : i < xs.length) (hx : xs[xs.length - 1 - i]? = some x) (q : Q x H) : aS K (.ref a) (.int (-1 - (i : Int))) H Q := by
 refine .inl (.inr (.inl ⟨a, xs, -1 - (i : Int), x, rfl, rfl, SqT.of ha, ?_, q⟩))
 unfold atI L2.ixN
 rw [if_neg (by omega), if_pos (by omega)]
 show xs[(-1 - (i : Int) + (xs.length : Int)).toNat]? = _
 have : (-1 - (i : Int) + (xs.length : Int)).toNat = xs.length - 1 - i := by omega
 rw [this]; exact hx
theorem Eg (T : Txt K mg A) : Rd (ik K A) (T_5 K A) ["_law_stamper_here", "_law_count", "_law_turns", "_law_paper", "_law_height", "_law_terms", "_law_k", "_law_below"] := by
 intro vs H Q E h
 obtain ⟨f, b, L, P, TT, d, c, ts, ks, e, g, n, j, rfl, pp, hL, hj, q⟩ := h
 obtain ⟨s, hn, c1, c2, tl, t01, kl, ee, ke, w⟩ := pp
 have nL : L ≠ b := s.nb hL (fun _ z => nomatch z) (fun _ z => nomatch z)
 refine ixT (j := 0) w.hP rfl rfl ⟨aD (show 2 ≤ 1000000 by decide), fun t ht => ⟨aD (show 1 ≤ 1000000 by decide), fun M hM => ?_⟩⟩
 have S3 : au H (upd (upd H t (.tup [.str "entry", kV e])) M (.lst [.ref t])) := (au.upd ht).trans (au.upd hM)
 have hM3 : upd (upd H t (.tup [.str "entry", kV e])) M (.lst [.ref t]) M = some (.lst [.ref t]) := am
 have ht3 : upd (upd H t (.tup [.str "entry", kV e])) M (.lst [.ref t]) t = some (.tup [.str "entry", kV e]) := au.upd hM _ _ am
 have hMn : H M = none := (dc hM).2
 generalize upd (upd H t (.tup [.str "entry", kV e])) M (.lst [.ref t]) = H3 at S3 hM3 ht3
 refine ⟨_, rfl, by omega, by omega, ?_⟩
 rw [Int.toNat_natCast]
 refine qV (fun i σ H' => ∃ x6 x7 g' ps p tt t, σ = [some (.ref f), some (.int (c : Int)), some (.ref L), some (.ref P), some (.int (j : Int)), some (.ref M), x6, x7] ∧ Ld A H H' f b M d c e (stR ts ks) i g g' n ps p tt t)
   ⟨none, none, g, _, _, _, _, rfl, Ld.start s S3 ee ht3 hM3⟩ ?_ ?_
 · rintro i σ H5 hi ⟨x6, x7, g5, ps, p, tt, t5, rfl, l⟩
   have kb := l.kb
   refine ⟨f, rfl, l.s.clo, dH l.hM ?_⟩
   dsimp only [ag]
   refine l.step hMn c2 (mF ke) (by omega) (by omega) fun v H6 g6 kb6 hM6 nx => ?_
   have hL6 := kb6 _ _ nL (kb _ _ nL hL)
   have w6 := (w.kb s kb).kb l.s kb6
   have hlen : (ps.map V.ref ++ [V.ref p]).length < sizeLine := by
     have := dk l.pk
     have := l.len
     rw [List.length_append, List.length_map]; exact bW (by show ps.length + 1 ≤ _; omega)
   refine .inl (.inl ⟨_, SqL.of hL6, ?_⟩)
   rw [List.length_map]
   refine Sel.dec (fun h => ?_) (fun h => ?_)
   · have h : (0 : Int) + (i : Int) = (ts.length : Int) := h
     have e0 : (stR ts ks)[i]? = none := List.getElem?_eq_none (by rw [df kl]; omega)
     have en : cO c (stR ts ks) i v = [.inr "row", .inl (c : Int), v] := by unfold cO; rw [e0]
     refine ⟨.inl ⟨rfl, _, SqL.of hM6⟩, aD (show 3 ≤ 1000000 by decide), fun p7 hp7 => ⟨M, _, .ref p7, rfl, rfl, au.upd hp7 _ _ hM6, hlen, ?_⟩⟩
     have := nx p7 hp7
     rw [en] at this
     exact ⟨_, _, g6, _, _, _, _, rfl, this⟩
   · have h : ¬ (0 : Int) + (i : Int) = (ts.length : Int) := h
     obtain ⟨tn, k, h1, h2, h3⟩ := oF kl (i := i) (by omega)
     have en : cO c (stR ts ks) i v = jtT tn v k := by unfold cO; rw [h3]
     rw [show (0 : Int) + (i : Int) = (i : Int) by omega]
     refine ixB (i := i) hL6 (by rw [List.length_map]; omega) (x := .int tn) (by rw [List.length_map, List.getElem?_map, h1]; rfl) ?_
     have ix : ∀ {R : VK}, R (kV k) H6 → aS K (.ref P) (.int 1) H6 fun x H7 => aS K x (.int (-1 - (i : Int))) H7 R := fun r => ixT (j := 1) w6.hP rfl rfl (Ed (i := i) w6.hT (by rw [List.length_map]; omega) (by rw [List.length_map, List.getElem?_map, kl, h2]; rfl) r)
     refine Sel.dec (fun h5 => ?_) (fun h5 => ?_)
     · have h5 : tn = 1 := h5
       refine ⟨.inl ⟨rfl, _, SqL.of hM6⟩, ix ⟨aD (show 3 ≤ 1000000 by decide), fun p7 hp7 => ⟨M, _, .ref p7, rfl, rfl, au.upd hp7 _ _ hM6, hlen, ?_⟩⟩⟩
       have := nx p7 hp7
       rw [en] at this
       unfold jtT at this
       rw [if_neg (by omega)] at this
       exact ⟨_, _, g6, _, _, _, _, rfl, this⟩
     · have h5 : ¬ tn = 1 := h5
       have t0 : tn = 0 := (t01 tn (List.mem_of_getElem? h1)).resolve_right h5
       refine ⟨.inl ⟨rfl, _, SqL.of hM6⟩, ix ⟨aD (show 3 ≤ 1000000 by decide), fun p7 hp7 => ⟨M, _, .ref p7, rfl, rfl, au.upd hp7 _ _ hM6, hlen, ?_⟩⟩⟩
       have := nx p7 hp7
       rw [en] at this
       unfold jtT at this
       rw [if_pos t0] at this
       exact ⟨_, _, g6, _, _, _, _, rfl, this⟩
 · rintro σ H5 ⟨x6, x7, g5, ps, p, tt, t5, rfl, l⟩
   exact l.done hMn (by omega) rfl q
end Rs
namespace Rs
open PySem PySem.Spec PyProof.Rows L2
variable {K : W.Frag} {mg : Str → Option Value} {A : Adr}
theorem zc (K : W.Frag) (A : Adr) : Ln (iT K A) 4 := by rintro vs H Q E ⟨f, b, P, T, d, c, p, ks, e, g, n, rfl, _⟩; rfl
theorem Bk (T : Txt K mg A) : Rd (iT K A) (Dq K A) ["stamper", "count", "place", "paper", "turns", "terms", "step"] := by
 intro vs H Q E h
 obtain ⟨f, b, P, TT, d, c, p, ks, e, g, n, rfl, pp, lt, q⟩ := h
 obtain ⟨s, hn, c1, c2, tl, t01, kl, ee, ke, w⟩ := pp
 refine ⟨_, _, rfl, by omega, by omega, by omega, Sel.no rfl ⟨p, c, rfl, lt, by omega, fun W hWn => ?_⟩⟩
 have S1 : au H (upd H W (.lst ((aQ c p).map V.int))) := au.upd hWn
 have hW : upd H W (.lst ((aQ c p).map V.int)) W = some (.lst ((aQ c p).map V.int)) := am
 generalize upd H W (.lst ((aQ c p).map V.int)) = H1 at S1 hW
 generalize hts : aQ c p = ts at *
 refine ⟨W, P, TT, _, e, ks, rfl, hW, w.same S1, ee.1, fun k hk => (ke k hk).1, kl, by omega, fun H2 S2 => Sel.no rfl ?_⟩
 have w2 := (w.same S1).same S2
 refine ixT (j := 0) w2.hP rfl rfl ⟨aD (show 2 ≤ 1000000 by decide), fun t ht => ⟨aD (show 1 ≤ 1000000 by decide), fun L hL => ?_⟩⟩
 have S3 : au H2 (upd (upd H2 t (.tup [.str "entry", kV e])) L (.lst [.ref t])) := (au.upd ht).trans (au.upd hL)
 have hL3 : upd (upd H2 t (.tup [.str "entry", kV e])) L (.lst [.ref t]) L = some (.lst [.ref t]) := am
 have ht3 : upd (upd H2 t (.tup [.str "entry", kV e])) L (.lst [.ref t]) t = some (.tup [.str "entry", kV e]) := au.upd hL _ _ am
 have hLn : H2 L = none := (dc hL).2
 generalize upd (upd H2 t (.tup [.str "entry", kV e])) L (.lst [.ref t]) = H3 at S3 hL3 ht3
 have w3 := w2.same S3
 have hLH : H L = none := by
   cases z : H L with
   | none => rfl
   | some o => rw [S2 _ _ (S1 _ _ z)] at hLn; cases hLn
 refine ixT (j := 1) w3.hP rfl rfl ⟨W, TT, _, _, rfl, SqL.of (S3 _ _ (S2 _ _ hW)), SqT.of w3.hT, by rw [List.length_map, List.length_map, kl], fun Z ps H4 hZn S4 lp hps hZ => ⟨Z, _, rfl, .inl ⟨SqL.of hZ, ?_⟩⟩⟩
 have S : au H H4 := S1.trans (S2.trans (S3.trans S4))
 have lps : ps.length = ts.length := by rw [lp, List.length_map]
 have hp4 : ∀ (j : Nat) (p : Addr) (tn : Int) (k : Key), ps[j]? = some p → ts[j]? = some tn → ks[j]? = some k → H4 p = some (.tup [.int tn, kV k]) := fun j p' tn k h1 h2 h3 => hps j p' _ _ h1 (by rw [List.getElem?_map, h2]; rfl) (by rw [List.getElem?_map, h3]; rfl)
 have LZ : Z ≠ L := Ne.symm (aq hL3 hZn)
 have hL4 := S4 _ _ hL3
 refine yG (cG.revL (xs := ps.map V.ref) .non) (fun i σ H' => ∃ x6 g' qs pr tt t', σ = [some (.ref f), some (.int (c : Int)), some (.int (p : Int)), some (.ref P), some (.ref W), some (.ref L), x6] ∧ Ld A H H' f b L d c e (stR ts ks) i g g' n qs pr tt t' ∧ H' Z = some (.lst (ps.map V.ref)) ∧
    ∀ (j : Nat) (p : Addr) (tn : Int) (k : Key), ps[j]? = some p → ts[j]? = some tn → ks[j]? = some k → H' p = some (.tup [.int tn, kV k]))
   ⟨none, g, _, _, _, _, rfl, Ld.start s S ee (S4 _ _ ht3) hL4, hZ, hp4⟩
   (fun i σ H' _ h => ?_) (fun i σ H5 hi h => ?_) (fun σ H5 h => ?_)
 · obtain ⟨_, _, _, _, _, _, _, _, x, _⟩ := h
   exact SqL.of x
 · obtain ⟨x6, g5, qs, pr, tt, t5, rfl, l, hZ5, hp5⟩ := h
   have hi : i < ts.length := by rw [List.length_map, lps] at hi; exact hi
   obtain ⟨tn, k, h1, h2, h3⟩ := oF kl (i := i) hi
   obtain ⟨pj, hpj⟩ : ∃ pj, ps[ts.length - 1 - i]? = some pj := ⟨_, List.getElem?_eq_getElem (by omega)⟩
   have hg : (ps.map V.ref).reverse.getD i .non = .ref pj := by
    rw [List.getD_eq_getElem?_getD, List.getElem?_reverse (by rw [List.length_map]; omega), List.length_map, lps, List.getElem?_map, hpj]; rfl
   rw [hg]
   have hpp := hp5 _ _ _ _ hpj h1 h2
   have s5 := l.s
   have npj : pj ≠ b := s5.nb hpp (fun _ z => nomatch z) (fun _ z => nomatch z)
   have nZ : Z ≠ b := s5.nb hZ5 (fun _ z => nomatch z) (fun _ z => nomatch z)
   have en : ∀ v, cO c (stR ts ks) i v = jtT tn v k := fun v => by unfold cO; rw [h3]
   have hlen : (qs.map V.ref ++ [V.ref pr]).length < sizeLine := by
    have := dk l.pk
    have := l.len
    rw [List.length_append, List.length_map]; exact bW (by show qs.length + 1 ≤ _; omega)
   refine ⟨.inl ⟨rfl, _, SqL.of l.hM⟩, ixT (j := 0) hpp rfl rfl ⟨f, rfl, s5.clo, dH l.hM ?_⟩⟩
   dsimp only [ag]
   refine l.step hLH c2 (mF ke) (by omega) (by omega) fun v H6 g6 kb6 hL6 nx => ?_
   refine ixT (j := 1) (kb6 _ _ npj hpp) rfl rfl ⟨tn, v, k, rfl, fun p7 hp7 => ⟨L, _, .ref p7, rfl, rfl, au.upd hp7 _ _ hL6, hlen, ?_⟩⟩
   have l7 := nx p7 hp7
   rw [en v] at l7
   have Sx : ∀ z o, z ≠ L → H6 z = some o → upd (upd H6 p7 (.tup ((jtT tn v k).map kV))) L (.lst (qs.map V.ref ++ [.ref pr] ++ [.ref p7])) z = some o := fun z o nz ez => by rw [aj nz]; exact au.upd hp7 _ _ ez
   refine ⟨_, g6, _, _, _, _, rfl, l7, Sx _ _ LZ (kb6 _ _ nZ hZ5), fun j p' tn' k' a1 a2 a3 => ?_⟩
   have h5 := hp5 j p' tn' k' a1 a2 a3
   exact Sx _ _ (bN h5 l.hM (fun z => nomatch z)) (kb6 _ _ (s5.nb h5 (fun _ z => nomatch z) (fun _ z => nomatch z)) h5)
 · obtain ⟨x6, g5, qs, pr, tt, t5, rfl, l, hZ5, hp5⟩ := h
   rw [List.length_map, lps] at l
   have e0 : ∀ v, cO c (stR ts ks) ts.length v = [.inr "row", .inl (c : Int), v] := fun v => by unfold cO; rw [List.getElem?_eq_none (by rw [df kl]; omega)]
   have hlen : (qs.map V.ref ++ [V.ref pr]).length < sizeLine := by
    have := dk l.pk
    have := l.len
    rw [List.length_append, List.length_map]; exact bW (by show qs.length + 1 ≤ _; omega)
   refine ⟨.inl ⟨rfl, _, SqL.of l.hM⟩, f, rfl, l.s.clo, dH l.hM ?_⟩
   dsimp only [ag]
   refine l.step hLH c2 (mF ke) (by omega) (by omega) fun v H6 g6 kb6 hL6 nx => ?_
   refine ⟨aD (show 3 ≤ 1000000 by decide), fun p7 hp7 => ⟨L, _, .ref p7, rfl, rfl, au.upd hp7 _ _ hL6, hlen, ?_⟩⟩
   have l7 := nx p7 hp7
   rw [e0 v] at l7
   exact l7.done hLH (by omega) rfl q
theorem gF.last {tt : List (List Key)} {m : Nat} (h : tt.length = m + 1) : ∃ r t, tt = r ++ [t] := by
 cases e : tt.reverse with
 | nil => have := congrArg List.length e; rw [List.length_reverse, h] at this; simp at this
 | cons x r => exact ⟨r.reverse, x, by rw [← List.reverse_reverse tt, e, List.reverse_cons]⟩
theorem fm {H : Hp} {ps : List Addr} {r : List (List Key)} {t : List Key} (h : PK H ps (r ++ [t])) : ∃ qs p, ps = qs ++ [p] ∧ PK H (qs ++ [p]) (r ++ [t]) := by
  have hl := de h
  cases e : ps.reverse with
  | nil => have := congrArg List.length e; rw [List.length_reverse, hl] at this; simp at this
  | cons x q =>
    have e2 : ps = q.reverse ++ [x] := by rw [← List.reverse_reverse ps, e, List.reverse_cons]
    exact ⟨_, _, e2, by rw [← e2]; exact h⟩
theorem yA (K : W.Frag) (A : Adr) : Ln (jI K A) 4 := by rintro vs H Q E ⟨f, b, P, T, d, c, p, ks, e, g, n, rfl, _⟩; rfl
theorem Bj (T : Txt K mg A) : Rd (jI K A) (Ez K A) ["stamper", "count", "place", "paper"] := by
 intro vs H Q E h
 obtain ⟨f, b, P, TT, d, c, p, ks, e, g, n, rfl, pp, lt, q⟩ := h
 have hn := pp.hn
 refine ⟨f, rfl, pp.s.clo, f, b, P, TT, d, c, p, ks, e, g, n, rfl, pp, lt, fun M ps tt g1 H1 k1 s1 sub1 hMn nM hM pk npb tl sz eq => ?_⟩
 obtain ⟨r, t, rfl⟩ := gF.last tl
 obtain ⟨qs, p1, rfl, pk1⟩ := fm pk
 obtain ⟨hp, ok⟩ := eA (dk pk1) pk1
 rw [List.map_append] at hM
 refine dH hM ?_
 dsimp only [ag]
 refine dL s1 (by omega) hp ok fun v H2 g2 kb s2 sub2 gv st => ?_
 have szt := sz t (by simp)
 refine q v g2 H2 (k1.trans kb) s2 (sub1.trans sub2) (iP st (by omega)) fun h eh => ?_
 rw [df pp.kl, ← fz eq (Ext.of sub2 eh), eh _ _ gv]
theorem BL (K : W.Frag) (A : Adr) : Ln (qJ K A) 3 := by rintro vs H Q E ⟨a, x, y, rfl, _⟩; rfl
theorem Dy (T : Txt K mg A) : Rd (qJ K A) (T_0 K A) ["self", "due", "came"] := by
 intro vs H Q E h
 obtain ⟨a, x, y, rfl, ha, q⟩ := h
 refine ⟨a, rfl, T.ef_Broken_due, .inl ⟨ha, fun dx hdx ne => ?_⟩⟩
 refine ⟨a, rfl, T.ef_Broken_came, .inr ⟨dx, _, by rw [aj (Ne.symm ne)]; exact am, am, ne, by show 1 < 1000; decide, ?_⟩⟩
 exact q dx hdx
theorem ye (K : W.Frag) (A : Adr) : Ln (lR K A) 4 := by rintro vs H Q E ⟨f, b, hd, P, T, d, c, p, ks, e, mk, g, n, rfl, _⟩; rfl
theorem kM {K : W.Frag} {H : Hp} {Q : VK} {a b : Key} (q : Q (.bl (!decide (a = b))) H) : cU K (kV a) (kV b) H Q := by
 cases a <;> cases b
 · rename_i i j
   have e : decide ((Sum.inl i : Key) = Sum.inl j) = decide (i = j) := by simp
   rw [e] at q; exact q
 · have e : ∀ (i : Int) (j : Str), decide ((Sum.inl i : Key) = Sum.inr j) = false := by simp
   rw [e] at q; exact q
 · have e : ∀ (i : Int) (j : Str), decide ((Sum.inr j : Key) = Sum.inl i) = false := by simp
   rw [e] at q; exact q
 · rename_i i j
   have e : decide ((Sum.inr i : Key) = Sum.inr j) = decide (i = j) := by simp
   rw [e] at q; exact q
theorem AX (T : Txt K mg A) (vs : List V) (H : Hp) (Q : VK) (E : XK) (h : lR K A vs H Q E) : Af K A E { nx := fun _ H' => Q .non H', rt := Q } (L2.start ["stamper", "head", "place", "paper", "came"] vs) H := by
 obtain ⟨f, b, hd, P, TT, d, c, p, ks, e, mk, g, n, rfl, pp, lt, hh, okm, q⟩ := h
 have nh : hd ≠ b := pp.s.nb hh (fun _ z => nomatch z) (fun _ z => nomatch z)
 refine ⟨hd, c, mk, rfl, hh, pp.c2, okm, ixT (j := 0) hh rfl rfl ?_⟩
 refine ⟨f, b, P, TT, d, c, p, ks, e, g, n, rfl, pp, lt, fun w g1 H1 k1 s1 sub1 okw ew => ?_⟩
 obtain ⟨q1, q2⟩ := q w g1 H1 k1 s1 sub1 okw ew
 have hh1 := k1 _ _ nh hh
 refine ixT (j := 1) hh1 rfl rfl (kM ?_)
 by_cases ewm : w = mk
 · refine Sel.no (by rw [decide_eq_true ewm]; rfl) ?_
   exact ixT (j := 0) (pp.w.kb pp.s k1).hP rfl rfl (q1 ewm)
 · refine Sel.yes (by rw [decide_eq_false ewm]; rfl) ?_
   refine ixT (j := 1) hh1 rfl rfl fun a ha => ⟨a, kV mk, kV w, rfl, am, fun dx hdx => ⟨rfl, some dx, ?_, ?_⟩⟩
   · obtain ⟨nd, _⟩ := dc hdx
     rw [aj (Ne.symm nd), aj (Ne.symm nd)]; exact am
   · obtain ⟨nd, hd0⟩ := dc hdx
     refine q2 ewm dx _ (fun z o ez => ?_) (by rw [dg nd]; exact am)
     have na := aq ez ha
     have nz := aq ez hd0
     rw [dg na, aj nz, aj nz, aj na, aj na]; exact ez
end Rs
namespace Rs
open PySem PySem.Spec PyProof.Rows L2
variable {K : W.Frag} {mg : Str → Option Value} {A : Adr}
theorem Ai (K : W.Frag) (A : Adr) : Ln (gw K A) 4 := by rintro vs H Q E ⟨f, b, hd, P, T, d, c, p, ks, e, mk, g, n, rfl, _⟩; rfl
theorem CD (T : Txt K mg A) : Rd (gw K A) (DD K A) ["_law_stamper_here", "_law_head", "_law_place", "_law_paper", "_law_caught", "_law_answer", "e"] := by
 intro vs H Q E h
 obtain ⟨f, b, hd, P, TT, d, c, p, ks, e, mk, g, n, rfl, pp, lt, hh, okm, q⟩ := h
 refine ⟨f, b, hd, P, TT, d, c, p, ks, e, mk, g, n, rfl, pp, lt, hh, okm, fun w g1 H1 k1 s1 sub1 okw ew => ⟨fun em => ?_, fun em dx H2 S2 hdx => ?_⟩⟩
 · refine Sel.yes rfl ⟨aD (show 2 ≤ 1000000 by decide), fun r hr => ?_⟩
   refine q w g1 H1 k1 s1 sub1 okw ew r _ (au.upd hr) ?_
   unfold dQ; rw [if_pos em]; exact am
 · refine ⟨A.c_Broken, rfl, T.eo_Broken, true, T.sb_Broken_Broken, Sel.t fun a ha => ?_⟩
   have nd : dx ≠ a := aq hdx ha
   have hx : upd H2 a (kh A.c_Broken (some dx) a) dx = some (fL (cF "came" (kV w) [("due", kV mk)]) dx) := by rw [aj nd]; exact hdx
   refine Sel.no rfl ⟨a, A.c_Broken, dx, _, kV mk, rfl, am, hx, T.ef_Broken_due, rfl, a, A.c_Broken, dx, _, kV w, rfl, am, hx, T.ef_Broken_came, rfl, aD (show 3 ≤ 1000000 by decide), fun r hr => ?_⟩
   refine q w g1 H1 k1 s1 sub1 okw ew r _ (S2.trans ((au.upd ha).trans (au.upd hr))) ?_
   unfold dQ; rw [if_neg em]; exact am
end Rs
namespace Rs
open PySem PySem.Spec PyProof.Rows L2
variable {K : W.Frag} {mg : Str → Option Value} {A : Adr}
theorem li (xs : List V) (j : Nat) (hj : j ≤ xs.length) : eu xs none (some (j : Int)) = xs.take j := by
 unfold eu
 rw [HT.ou, HT.mB, List.drop_zero, Nat.sub_zero, Nat.min_eq_left hj]
theorem mI (xs : List V) (j : Nat) (hj : j ≤ xs.length) : eu xs (some (j : Int)) none = xs.drop j := by
 unfold eu
 rw [HT.ou, HT.mB, Nat.min_eq_left hj, List.take_of_length_le (by rw [List.length_drop]; omega)]
theorem Eu : ∀ n : Fin 9, (okP (.inr (PySem.Txt.mul "z" ((n : Nat) : Int))) = true ∧ (PySem.Txt.mul "z" ((n : Nat) : Int)).length ≤ 8) ∧ okP (.inr (PySem.Txt.mul "y" ((n : Nat) : Int))) = true ∧ (PySem.Txt.mul "y" ((n : Nat) : Int)).length ≤ 8 := by decide +kernel
theorem Ah {w : Str} {n : Nat} (hw : w = "z" ∨ w = "y") (hn : n ≤ 8) : enK (.inr (PySem.Txt.mul w (n : Int))) := by
 have h := Eu ⟨n, by omega⟩
 dsimp only at h
 rcases hw with rfl | rfl
 · exact ⟨h.1.1, by show _ + 62 ≤ 70; have := h.1.2; omega⟩
 · exact ⟨h.2.1, by show _ + 62 ≤ 70; have := h.2.2; omega⟩
theorem CO (K : W.Frag) (A : Adr) : Ln (iu K A) 1 := by rintro vs H Q E ⟨m, rfl, _⟩; rfl
theorem Dt (T : Txt K mg A) : Rd (iu K A) (T_9 K A) ["_law_mark"] := by
  intro vs H Q E h
  obtain ⟨m, rfl, en, q⟩ := h
  cases m with
  | inl i =>
    refine ⟨by decide, "int", rfl, Sel.no rfl ?_⟩
    have r0 := Int.emod_nonneg (i + 2520) (b := 10 ^ 60) (by decide +kernel)
    have r1 := Int.emod_lt_of_pos (i + 2520) (b := 10 ^ 60) (by decide +kernel)
    have k : ∀ i : Int, 0 ≤ i → i < 10 ^ 60 → okP (.inl i) = true := fun i h0 h1 => decide_eq_true ⟨h0, h1⟩
    refine ⟨⟨by decide, by decide⟩, by decide, ?_⟩
    exact q (.inl ((i + 2520) % 10 ^ 60)) H (.refl H) ⟨k _ r0 r1, by show 62 ≤ 70; decide⟩
  | inr z =>
    have hz : z.length ≤ 8 := by have : z.length + 62 ≤ 70 := en.2; omega
    refine ⟨by decide, "str", rfl, Sel.yes rfl ⟨aD (show 2 ≤ 1000000 by decide), fun p hp => ⟨1, rfl, .inr ⟨z, rfl, Nat.le_of_lt (aD (by omega)), ?_⟩⟩⟩⟩
    have fin : ∀ w : Str, (w = "z" ∨ w = "y") → eG (.str w) (.int (z.length : Int)) (upd H p (.lst [.str "z", .str "y"])) Q := fun w hw => by
      refine ⟨⟨by omega, by omega, by rcases hw with rfl | rfl <;> decide⟩, q (.inr (PySem.Txt.mul w (z.length : Int))) _ (au.upd hp) (Ah hw hz)⟩
    by_cases e : PySem.Txt.slice z none (some 1) = "z"
    · show aS K (.ref p) (.int (if decide (PySem.Txt.slice z none (some 1) = "z") = true then 1 else 0)) _ _
      rw [if_pos (decide_eq_true e)]
      exact ixL (j := 1) am rfl rfl (.inl ⟨Nat.le_of_lt (aD (by omega)), fin _ (.inr rfl)⟩)
    · show aS K (.ref p) (.int (if decide (PySem.Txt.slice z none (some 1) = "z") = true then 1 else 0)) _ _
      rw [if_neg (by rw [decide_eq_false e]; decide)]
      exact ixL (j := 0) am rfl rfl (.inl ⟨Nat.le_of_lt (aD (by omega)), fin _ (.inl rfl)⟩)
end Rs
namespace Rs
open PySem PySem.Spec PyProof.Rows L2
variable {K : W.Frag} {mg : Str → Option Value} {A : Adr}
theorem Ap (K : W.Frag) (A : Adr) : Ln (jA K A) 4 := by rintro vs H Q E ⟨f, b, D, o1, o2, k1, k2, g, n, rfl, _⟩; rfl
theorem Cn (T : Txt K mg A) : Rd (jA K A) (Dh K A) ["_law_known", "_law_alias", "_law_new", "_law_old"] := by
  intro vs H Q E h
  obtain ⟨f, b, D, o1, o2, k1, k2, g, n, rfl, s, hn, h1, h2, ok1, ok2, q⟩ := h
  have s0 := s
  cases s with
  | wri _ _ _ ed => cases ed
  | cnt _ _ _ _ _ _ _ _ _ ed => cases ed
  | wea _ _ _ _ _ _ _ ed => cases ed
  | pla q0 q1 q2 D' j j0 j1 kvs al hc hb ha bD hl hs st hg ed =>
    obtain ⟨rfl, rfl⟩ : D = D' ∧ none = al := by cases ed; exact ⟨rfl, rfl⟩
    have hD : H D = some (.dT []) := ha
    refine .inl ⟨b, _, rfl, cy.t hb h1, ?_⟩
    cases e : bI kvs k1 with
    | some v =>
      rw [iW, e]
      exact Sel.no rfl (q none g H (fun x o _ e => e) s0 Sub.rfl')
    | none =>
      rw [iW, e]
      refine Sel.yes rfl (.inr ⟨D, upd H D (.dT (bK [] k1 (.ref o2))), rfl, .inr ⟨[], k1, o1, hD, rfl, h1, by decide, rfl⟩, ?_⟩)
      have kx : ∀ z (u : HO), z ≠ D → H z = some u → upd H D (.dT (bK [] k1 (.ref o2))) z = some u := fun z u nz ez => by rw [aj nz]; exact ez
      refine q (some (k1, k2)) (fun k => bI kvs (alF (some (k1, k2)) k)) _ (fun x o n e => kx x o n e) (.pla q0 q1 q2 D j j0 j1 kvs (some (k1, k2)) (hc.keep fun x φ e => kx _ _ (bN e hD (fun z => nomatch z)) e) (kx _ _ bD hb) ⟨o2, am, kx _ _ (bN h2 hD (fun z => nomatch z)) h2, ok2⟩ bD hl hs st rfl rfl) fun k v gk => ?_
      rw [hg] at gk
      have gk : bI kvs k = some v := gk
      show bI kvs (if k = k1 then k2 else k) = some v
      rw [if_neg (fun z => by rw [z, e] at gk; cases gk)]; exact gk
theorem AU (K : W.Frag) (A : Adr) : Ln (qf K A) 3 := by rintro vs H Q E ⟨k, c, P, T, e, ks, rfl, _⟩; rfl
theorem jO {H : Hp} {Q : VK} {T' : Addr} {e' : Key} {ks ks' : List Key} (hT : H T' = some (.tup (ks'.map kV))) (ee : enK e') (ke : ∀ x ∈ ks', enK x) (kl : ks'.length = ks.length)
  (q : ∀ (P' T' : Addr) (e' : Key) (ks' : List Key) (H' : Hp), au H H' → dO H' P' T' e' ks' → enK e' → (∀ x ∈ ks', enK x) → ks'.length = ks.length → Q (.ref P') H') : ([kV e', V.ref T'] : List V).length ≤ sizeLine ∧ ∀ p, H p = none → Q (.ref p) (upd H p (.tup [kV e', .ref T'])) :=
 ⟨(by show 2 ≤ sizeLine; decide), fun p hp => q p T' e' ks' _ (au.upd hp) ⟨am, au.upd hp _ _ hT⟩ ee ke kl⟩
theorem EA (T : Txt K mg A) : Rd (qf K A) (T_4 K A) ["_law_kind", "_law_cell", "_law_paper", "_law_entry", "_law_marks", "_law_spot", "_law_thing"] := by
 intro vs H Q E h
 obtain ⟨k, c, P, TT, e, ks, rfl, w, ee, ke, l60, q⟩ := h
 have qS : ∀ {H1 : Hp}, au H H1 → ∀ (P' T' : Addr) (e' : Key) (ks' : List Key) (H' : Hp), au H1 H' → dO H' P' T' e' ks' → enK e' → (∀ x ∈ ks', enK x) → ks'.length = ks.length → Q (.ref P') H' := fun S P' T' e' ks' H' S' w' a b c => q P' T' e' ks' H' (S.trans S') w' a b c
 refine ⟨P, [kV e, .ref TT], rfl, SqT.of w.hP, rfl, _, _, rfl, _, _, rfl, rfl, ?_⟩
 refine Sel.dec (fun h => ?_) (fun h0 => ?_)
 · exact ⟨e, rfl, ee, fun e' H1 S1 ee' => jO (S1 _ _ w.hT) ee' ke rfl (qS S1)⟩
 have one : ∀ (c' : Int), fG K A [.int c'] H (fun v H1 => ([v, V.ref TT] : List V).length ≤ sizeLine ∧ ∀ p, H1 p = none → Q (.ref p) (upd H1 p (.tup [v, .ref TT]))) E0 := fun c' => ⟨c', rfl, fun e' H1 S1 ee' => jO (S1 _ _ w.hT) ee' ke rfl (qS S1)⟩
 refine Sel.dec (fun h => Sel.yes rfl (one c)) (fun h1 => .inl (.inr (.inl ⟨_, SqT.of w.hT, ?_⟩)))
 rw [List.length_map]
 refine Sel.dec (fun h => one c) (fun h2 => ?_)
 have kpos : 0 < ks.length := by have h2 : ¬ (ks.length : Int) = 0 := h2; omega
 refine Sel.dec (fun h => ?_) (fun h3 => ?_)
 · refine ⟨TT, _, rfl, SqT.of w.hT, fun l hl => ?_⟩
   rw [← List.map_reverse]
   exact jO am ee (fun x hx => ke x (List.mem_reverse.mp hx)) (List.length_reverse ..) (qS (au.upd hl))
 have l1 : (ks.map kV).length = ks.length := List.length_map ..
 have lz : ∀ m : Nat, m ≤ 200 → m ≤ sizeLine := fun m hm => Nat.le_of_lt (aD (by omega))
 refine Sel.dec (fun h => ?_) (fun h4 => ?_)
 · refine ⟨e, rfl, ee, fun e' H1 S1 ee' => ?_⟩
   refine ⟨1, rfl, .inl (.inr ⟨TT, _, rfl, S1 _ _ w.hT, fun p1 H2 S2 hp1 => ?_⟩)⟩
   refine ⟨1, rfl, .inl (.inr ⟨TT, _, rfl, S2 _ _ (S1 _ _ w.hT), fun p2 H3 S3 hp2 => ?_⟩)⟩
   have hp1 : H3 p1 = some (.tup ((ks.drop 1).map kV)) := by rw [S3 _ _ hp1, List.map_drop]; exact congrArg (fun z => some (HO.tup z)) (mI _ 1 (by omega))
   have hp2 : H3 p2 = some (.tup ((ks.take 1).map kV)) := by rw [hp2, List.map_take]; exact congrArg (fun z => some (HO.tup z)) (li _ 1 (by omega))
   refine .inr ⟨p1, p2, _, _, rfl, rfl, hp1, hp2, lz _ (by simp; omega), fun p3 H4 S4 hp3 => ?_⟩
   rw [← List.map_append] at hp3
   refine jO hp3 ee' (fun x hx => ?_) (by simp; omega) (qS (((S1.trans S2).trans S3).trans S4))
   rcases List.mem_append.mp hx with h | h
   · exact ke x (List.mem_of_mem_drop h)
   · exact ke x (List.mem_of_mem_take h)
 refine .inl (.inr (.inl ⟨_, SqT.of w.hT, ?_⟩))
 rw [List.length_map]
 have r0 := Int.emod_nonneg c (b := (ks.length : Int)) (by omega)
 have r1 := Int.emod_lt_of_pos c (b := (ks.length : Int)) (by omega)
 refine ⟨by omega, ?_⟩
 obtain ⟨sp, hsp⟩ := Int.eq_ofNat_of_zero_le r0
 rw [hsp]
 have spl : sp < ks.length := by omega
 obtain ⟨kk, hkk⟩ : ∃ kk, ks[sp]? = some kk := ⟨_, List.getElem?_eq_getElem spl⟩
 have ekk := ke kk (List.mem_of_getElem? hkk)
 refine ixT (j := sp) w.hT rfl (by rw [List.getElem?_map, hkk]; rfl) ⟨kk, rfl, ekk, fun t1 H1 S1 et1 => ?_⟩
 have last : ∀ {H2 : Hp} (t e' : Key), au H H2 → enK t → enK e' → wk K A { nx := fun _ H' => Q .non H', rt := Q } [some (.int k), some (.int c), some (.ref P), some (kV e'), some (.ref TT), some (.int (sp : Int)), some (kV t)] H2 := by
   intro H2 t e' S2 et ee'
   refine ⟨(sp : Int), rfl, .inl (.inr ⟨TT, _, rfl, S2 _ _ w.hT, fun p1 H3 S3 hp1 => ?_⟩)⟩
   refine ⟨by show 1 ≤ sizeLine; decide, fun t4 h4 => ?_⟩
   have S4 := au.upd (o := .tup [kV t]) h4
   have hp1 : upd H3 t4 (.tup [kV t]) p1 = some (.tup ((ks.take sp).map kV)) := by rw [S4 _ _ hp1, List.map_take]; exact congrArg (fun z => some (HO.tup z)) (li _ sp (by omega))
   refine .inr ⟨p1, t4, _, [kV t], rfl, rfl, hp1, am, lz _ (by simp; omega), fun p5 H5 S5 hp5 => ?_⟩
   have S15 := (((S2.trans S3).trans S4).trans S5)
   refine ⟨(sp : Int) + 1, rfl, .inl (.inr ⟨TT, _, rfl, S15 _ _ w.hT, fun p6 H6 S6 hp6 => ?_⟩)⟩
   have hp6 : H6 p6 = some (.tup ((ks.drop (sp + 1)).map kV)) := by rw [hp6, List.map_drop]; exact congrArg (fun z => some (HO.tup z)) (mI _ (sp + 1) (by omega))
   refine .inr ⟨p5, p6, _, _, rfl, rfl, S6 _ _ hp5, hp6, lz _ (by simp; omega), fun p7 H7 S7 hp7 => ?_⟩
   have e7 : (ks.take sp).map kV ++ [kV t] ++ (ks.drop (sp + 1)).map kV = (ks.take sp ++ [t] ++ ks.drop (sp + 1)).map kV := by simp
   rw [e7] at hp7
   refine jO hp7 ee' (fun x hx => ?_) (by simp; omega) (qS ((S15.trans S6).trans S7))
   rcases List.mem_append.mp hx with h | h
   · rcases List.mem_append.mp h with h | h
     · exact ke x (List.mem_of_mem_take h)
     · rw [List.mem_singleton.mp h]; exact et
   · exact ke x (List.mem_of_mem_drop h)
 have mid : ∀ {H2 : Hp} (t : Key), au H H2 → enK t → AN K A { nx := fun _ H' => Q .non H', rt := Q } [some (.int k), some (.int c), some (.ref P), some (kV e), some (.ref TT), some (.int (sp : Int)), some (kV t)] H2 := by
   intro H2 t S2 et
   refine Sel.dec (fun h => ?_) (fun h => ?_)
   · exact ⟨e, rfl, ee, fun e' H3 S3 ee' => last t e' (S2.trans S3) et ee'⟩
   · exact last t e S2 et ee
 refine Sel.dec (fun h => ?_) (fun h => ?_)
 · exact ⟨⟨by decide, by decide⟩, _, rfl, fun t2 H2 S2 et2 => mid t2 (S1.trans S2) et2⟩
 · exact mid t1 S1 et1
end Rs
namespace Rs
open PySem PySem.Spec PyProof.Rows L2
theorem vv {α : Type} {ks : List α} {a : α} : ∀ (j : Nat), ks[j]? = some a → ∃ j0, j0 ≤ j ∧ ks[j0]? = some a ∧ ∀ j', j' < j0 → ks[j']? ≠ some a := by
  intro j
  induction j using Nat.strongRecOn with
  | ind j ih =>
    intro h
    by_cases e : ∃ j', j' < j ∧ ks[j']? = some a
    · obtain ⟨j', h1, h2⟩ := e
      obtain ⟨j0, h3, h4, h5⟩ := ih j' h1 h2
      exact ⟨j0, by omega, h4, h5⟩
    · exact ⟨j, Nat.le_refl _, h, fun j' h1 h2 => e ⟨j', h1, h2⟩⟩
theorem cR {k : List Key} (h : okT k = true) : k.all fS = true := by
 rw [List.all_eq_true]
 intro x hx
 have := iH h hx
 cases x with
 | inl i => rfl
 | inr z => exact sF (Bool.and_eq_true_iff.mp this).1
theorem qB {H : Hp} {ps : List Addr} {ts : List (List Key)} (h : PK H ps ts) : ∀ {i : Nat} {p : Addr}, ps[i]? = some p → ∃ t, ts[i]? = some t ∧ H p = some (.tup (t.map kV)) ∧ okT t = true := by
  induction h with
  | nil => intro i t e; cases e
  | cons r _ ih =>
    intro i t e
    cases i with
    | zero => cases e; exact ⟨_, rfl, r⟩
    | succ i => exact ih e
variable {K : W.Frag} {mg : Str → Option Value} {A : Adr}
theorem Stp.keep {H H' : Hp} {f b : Addr} {d : Kd} {g : List Key → Option Key} {n m : Nat} (s : Stp A H f b d g n) (hn : n ≤ m) (k : ∀ z o, H z = some o → (∀ xs, o ≠ .dK xs) → (∀ xs, o ≠ .lst xs) → H' z = some o) : Stp A H' f b d g m := by
  have kx : ∀ z φ, H z = some (.ext φ) → H' z = some (.ext φ) := fun z φ e => k z _ e (fun _ z => nomatch z) (fun _ z => nomatch z)
  have kd : ∀ z xs, H z = some (.dT xs) → H' z = some (.dT xs) := fun z φ e => k z _ e (fun _ z => nomatch z) (fun _ z => nomatch z)
  cases s with
  | wri hc hb hg ed => exact .wri (hc.keep kx) hb hg ed
  | cnt q x kvs hc num hl hs st hg ed =>
    obtain ⟨⟨dx, h1⟩, h2⟩ := num
    exact .cnt q x kvs (hc.keep kx) ⟨⟨dx, k _ _ h1 (fun _ z => nomatch z) (fun _ z => nomatch z)⟩, kd _ _ h2⟩ (Nat.le_trans hl hn) hs st hg ed
  | wea q m h1 h2 hc hb hg ed => exact .wea q m h1 h2 (hc.keep kx) hb hg ed
  | pla q0 q1 q2 D j j0 j1 kvs al hc hb ha bD hl hs st hg ed => exact .pla q0 q1 q2 D j j0 j1 kvs al (hc.keep kx) (kd _ _ hb) (ha.keep (fun _ e => kd _ _ e) (fun _ _ e => k _ _ e (fun _ z => nomatch z) (fun _ z => nomatch z))) bD (Nat.le_trans hl hn) hs st hg ed
theorem aY.obj {H H' : Hp} {b x : Addr} {o : HO} (k : aY b H H') (hb : (∃ φ, H b = some (.ext φ)) ∨ ∃ kvs, H b = some (.dT kvs)) (e : H x = some o) (h : ∀ kvs, o ≠ .dT kvs) (h2 : ∀ φ, o ≠ .ext φ := by intro _ z; cases z) : H' x = some o := k _ _ (fun z => by
 subst z
 rcases hb with ⟨φ, hb⟩ | ⟨kvs, hb⟩
 · rw [e] at hb; exact h2 _ (Option.some.inj hb)
 · rw [e] at hb; exact h _ (Option.some.inj hb)) e
theorem zC (K : W.Frag) (A : Adr) : Ln (gB K A) 2 := by rintro vs H Q E ⟨f, bb, L, dd, ps, ks, g, n, rfl, _⟩; rfl
theorem BI (T : Txt K mg A) : Rd (gB K A) (Dw K A) ["stamper", "terms", "firsts", "term", "ahead"] := by
  intro vs H Q E h
  obtain ⟨f, bb, L, dd, ps, ks, g, n, rfl, s, hL, pk, hk9, hn, q⟩ := h
  have sdd := s.bb
  have pl := de pk
  refine .inl fun d hd => ?_
  have S0 := au.upd (o := .dK []) hd
  refine ⟨L, rfl, .inl ⟨⟨_, SqL.of (S0 _ _ hL)⟩, ?_⟩⟩
  have noc : ∀ (i : Nat) (H' : Hp) (g' : List Key → Option Key) (kvs : List (Key × V)), (∀ j a, j < i → ks[j]? = some a → ∃ v p, g' a = some v ∧ bi kvs v = some (.ref p) ∧ H' p = some (.tup (a.map kV))) → ∀ (h : List Key → Key), Ext g' h → ∀ (j k : Nat) a b, j < k → k < i → ks[j]? = some a → ks[k]? = some b → h a = h b → a = b := by
    intro i H' g' kvs I1 h hh j k a b h1 h2 h3 h4 h5
    obtain ⟨v, p, e1, e2, e3⟩ := I1 j a (by omega) h3
    obtain ⟨v', p', e1', e2', e3'⟩ := I1 k b h2 h4
    have : v = v' := by rw [hh _ _ e1, hh _ _ e1'] at h5; exact h5
    subst this
    rw [e2] at e2'; cases e2'
    rw [e3] at e3'
    injection e3' with e; injection e with e
    exact fO e
  refine vo (xs := ps.map V.ref) (fun i σ H' => ∃ x3 x4 g' kvs, σ = [some (.ref f), some (.ref L), some (.ref d), x3, x4] ∧ aY bb H H' ∧ Stp A H' f bb dd g' (n + i) ∧ Sub g g' ∧ H' d = some (.dK kvs) ∧ kvs.length ≤ i ∧
      (∀ j a, j < i → ks[j]? = some a → ∃ v p, g' a = some v ∧ bi kvs v = some (.ref p) ∧ H' p = some (.tup (a.map kV))) ∧
      ∀ v x, bi kvs v = some x → ∃ j a p, j < i ∧ ks[j]? = some a ∧ x = .ref p ∧ H' p = some (.tup (a.map kV)) ∧ okT a = true ∧ g' a = some v)
    ⟨none, none, g, [], rfl, aY.same S0, s.same (Nat.le_refl _) S0, fun _ _ e => e, am, Nat.le_refl _, fun j a hj => by omega, fun v x e => by cases e⟩ ?_ ?_ ?_
  · rintro i σ H' _ ⟨x3, x4, g', kvs, rfl, kp, _⟩; exact SqL.of (kp.obj sdd hL (fun _ z => nomatch z))
  · rintro i x σ H' hx ⟨x3, x4, g', kvs, rfl, kp, s', sub, hd', hl, I1, I2⟩
    obtain ⟨p, hp, rfl⟩ := gh hx
    obtain ⟨k, hk, hpk, ok⟩ := qB pk hp
    have hi : i < ks.length := (List.getElem?_eq_some_iff.mp hk).1
    refine ⟨.inr (.inr (.inl ⟨rfl, .inl ⟨_, hd'⟩⟩)), f, rfl, s'.clo, tc1 rfl (dL s' (by omega) (kp.obj sdd hpk (fun _ z => nomatch z)) ok fun v H3 g3 k3 s3 sub3 gv _ => tc1 rfl ?_)⟩
    have hp3 : H3 p = some (.tup (k.map kV)) := k3.obj s'.bb (kp.obj sdd hpk (fun _ z => nomatch z)) (fun _ z => nomatch z)
    have hd3 := k3.obj s'.bb hd' (fun _ z => nomatch z)
    have J1 : ∀ j a, j < i → ks[j]? = some a → ∃ v p, g3 a = some v ∧ bi kvs v = some (.ref p) ∧ H3 p = some (.tup (a.map kV)) := fun j a hj e => by
      obtain ⟨v, p, e1, e2, e3⟩ := I1 j a hj e
      exact ⟨v, p, sub3 _ _ e1, e2, k3.obj s'.bb e3 (fun _ z => nomatch z)⟩
    have J2 : ∀ v x, bi kvs v = some x → ∃ j a p, j < i ∧ ks[j]? = some a ∧ x = .ref p ∧ H3 p = some (.tup (a.map kV)) ∧ okT a = true ∧ g3 a = some v := fun v x e => by
      obtain ⟨j, a, p, e1, e2, e3, e4, e5, e6⟩ := I2 v x e
      exact ⟨j, a, p, e1, e2, e3, k3.obj s'.bb e4 (fun _ z => nomatch z), e5, sub3 _ _ e6⟩
    have kp3 := kp.trans k3
    have sub' : Sub g g3 := fun a b e => sub3 a b (sub a b e)
    have gd := cy.k (k := v) hd3
    cases ev : bi kvs v with
    | some x =>
      rw [ev] at gd
      obtain ⟨j0, a0, p0, hj0, ha0, rfl, hp0, ok0, g0⟩ := J2 v x ev
      refine ⟨d, kV v, .ref p, .ref p0, H3, rfl, rfl, .inl ⟨gd, rfl⟩, ?_⟩
      refine ⟨_, _, bQ hp0, bQ hp3, be (cR ok0), be (cR ok), mR _, Sel.mk (fun t => ?_) (fun t => ?_)⟩
      · have ne := iE t
        refine ⟨aD (n := 2) (by decide), fun r hr => ?_⟩
        have S := au.upd (o := .tup [V.ref p0, V.ref p]) hr
        refine q _ _ g3 (some (a0, k)) (kp3.trans (aY.same S)) (s3.same (by omega) S) sub' ⟨r, p0, p, rfl, am, S _ _ hp0, S _ _ hp3, ok0, ok⟩ (fun h hh => ?_)
        obtain ⟨j1, hj1, hb1, hmin⟩ := vv j0 ha0
        refine ⟨j1, i, by omega, hb1, hk, ne, by rw [hh _ _ g0, hh _ _ gv], noc i H3 g3 kvs J1 h hh, fun j' a hj' ha he => ?_⟩
        obtain ⟨v1, p1, e1, e2, e3⟩ := J1 j' a (by omega) ha
        have : v1 = v := by rw [hh _ _ e1, hh _ _ gv] at he; exact he
        subst this
        rw [ev] at e2; cases e2
        rw [hp0] at e3
        injection e3 with e; injection e with e
        have := fO e
        subst this
        exact (hmin j' hj' ha).elim
      · have e := yU t
        subst e
        refine ⟨_, _, g3, kvs, rfl, kp3, s3, sub', hd3, by omega, fun j a hj ha => ?_, fun w x e => ?_⟩
        · by_cases e : j = i
          · subst e; rw [hk] at ha; cases ha
            exact ⟨v, p0, gv, ev, hp0⟩
          · exact J1 j a (by omega) ha
        · obtain ⟨j, a, r, e1, e2⟩ := J2 w x e
          exact ⟨j, a, r, by omega, e2⟩
    | none =>
      rw [ev] at gd
      refine ⟨d, kV v, .ref p, .ref p, upd H3 d (.dK (bK kvs v (.ref p))), rfl, rfl, .inr ⟨gd, kC.k hd3 (Nat.lt_of_le_of_lt hl (aD (n := i + 1) (by omega))), rfl⟩, ?_⟩
      have dn : ∀ b o, H3 b = some o → (∀ kvs, o ≠ .dK kvs) → upd H3 d (.dK (bK kvs v (.ref p))) b = some o := fun b o e nd => by rw [aj (fun z => by subst z; rw [hd3] at e; cases e; exact nd _ rfl)]; exact e
      have hp4 := dn _ _ hp3 (fun _ z => nomatch z)
      refine ⟨_, _, bQ hp4, bQ hp4, be (cR ok), be (cR ok), mR _, Sel.mk (fun t => (iE t rfl).elim) (fun t => ?_)⟩
      refine ⟨_, _, g3, bK kvs v (.ref p), rfl, ?_, s3.keep (Nat.le_refl _) (fun b o e nd _ => dn b o e nd), sub', am, Nat.le_trans (dy _ _ _) (by omega), fun j a hj ha => ?_, fun w x e => ?_⟩
      · intro b o nb e
        rw [aj (aq e hd)]
        exact kp3 _ _ nb e
      · by_cases e : j = i
        · subst e; rw [hk] at ha; cases ha
          exact ⟨v, p, gv, by rw [gI, if_pos rfl], hp4⟩
        · obtain ⟨w, r, e1, e2, e3⟩ := J1 j a (by omega) ha
          exact ⟨w, r, e1, by rw [gI, if_neg (fun z => by subst z; rw [ev] at e2; cases e2)]; exact e2, dn _ _ e3 (fun _ z => nomatch z)⟩
      · rw [gI] at e
        by_cases ew : w = v
        · subst ew
          rw [if_pos rfl] at e; cases e
          exact ⟨i, k, p, by omega, hk, rfl, hp4, ok, gv⟩
        · rw [if_neg ew] at e
          obtain ⟨j, a, r, e1, e2, e3, e4, e5⟩ := J2 w x e
          exact ⟨j, a, r, by omega, e2, e3, dn _ _ e4 (fun _ z => nomatch z), e5⟩
  · rintro σ H' ⟨x3, x4, g', kvs, rfl, kp, s', sub, hd', hl, I1, I2⟩
    have el : (ps.map V.ref).length = ks.length := by rw [List.length_map, pl]
    rw [el] at s' I1
    refine q _ _ g' none kp s' sub rfl fun h hh => ?_
    exact fun j k a b h1 h2 h3 h4 => noc ks.length H' g' kvs I1 h hh j k a b h1 (List.getElem?_eq_some_iff.mp h3).1 h2 h3 h4
end Rs
namespace Rs
open PySem PySem.Spec PyProof.Rows L2
variable {K : W.Frag} {mg : Str → Option Value} {A : Adr}
theorem kY {H : Hp} {Q : VK} {a b : Addr} {k l : List Key} (ha : H a = some (.tup (k.map kV))) (hb : H b = some (.tup (l.map kV))) (q : Q (.bl (decide (k = l))) H) : bn K (.ref a) (.ref b) H Q := by
 refine .inl ⟨a, b, _, _, rfl, rfl, SqT.of ha, SqT.of hb, kS _, kS _, ?_⟩
 by_cases e : k = l
 · subst e; rw [decide_eq_true rfl] at q ⊢; exact q
 · rw [decide_eq_false e] at q; rw [decide_eq_false fun z => e (fO z)]; exact q
theorem fJ {K : W.Frag} {H : Hp} {ps : List Addr} {tt : List (List Key)} (h : PK H ps tt) : DatVs K H (ps.map V.ref) (tt.map fun t => PyData.tuple (t.map aT)) := by
 induction h with
 | nil => exact .nil
 | cons r _ ih => exact .cons (bQ r.1) ih
theorem lf {H : Hp} {ps : List Addr} {tt : List (List Key)} (h : PK H ps tt) : PyData.canLayAll0 (tt.map fun t => PyData.tuple (t.map aT)) = true ∧ PyData.depthAll (tt.map fun t => PyData.tuple (t.map aT)) ≤ 1 := by
  induction h with
  | nil => exact ⟨rfl, Nat.zero_le _⟩
  | @cons p t l1 l2 r _ ih =>
    refine ⟨?_, ?_⟩
    · show (PyData.canLayAll0 (t.map aT) && PyData.canLayAll0 _) = true
      rw [be (cR r.2), ih.1]; rfl
    · show max (PyData.depthAll (t.map aT) + 1) (PyData.depthAll _) ≤ 1
      rw [cJ]; have := ih.2; omega
theorem lc : ∀ tt : List (List Key), PyData.eqvAll (tt.map fun t => PyData.tuple (t.map aT)) (tt.map fun t => PyData.tuple (t.map aT)) = true
  | [] => rfl
  | t :: r => by
    show (PyData.eqvAll (t.map aT) (t.map aT) && PyData.eqvAll _ _) = true
    rw [cC, lc r, decide_eq_true rfl]; rfl
theorem sk {tt : List (List Key)} {t : List Key} (h : t ∈ tt) : ((tt.map fun t => PyData.tuple (t.map aT)).any fun e => e.eqv (PyData.tuple (t.map aT))) = true := by
 rw [List.any_eq_true]
 refine ⟨_, List.mem_map.mpr ⟨t, h, rfl⟩, ?_⟩
 show PyData.eqvAll (t.map aT) (t.map aT) = true
 rw [cC]; exact decide_eq_true rfl
theorem AI (K : W.Frag) (A : Adr) : Ln (pE K A) 2 := by rintro vs H Q E ⟨L, M, ps, rs, tt, rfl, _⟩; rfl
theorem Ey (T : Txt K mg A) : Rd (pE K A) (T_8 K A) ["_law_found", "_law_due", "_law_one", "_law_other"] := by
 intro vs H Q E h
 obtain ⟨L, M, ps, rs, tt, rfl, hL, hM, w1, w2, hl, q⟩ := h
 have l1 := de w1
 have l2 := de w2
 have ty : tyN H (.ref L) = some "list" := by unfold tyN; dsimp only; rw [hL]
 refine ⟨by decide, "list", ty, Sel.no rfl (.inl (.inl ⟨_, SqL.of hL, .inl (.inl ⟨_, SqL.of hM, ?_⟩)⟩))⟩
 refine Sel.no (by simp; omega) (.inr ⟨L, M, ps.map V.ref, rs.map V.ref, rfl, SqL.of hL, SqL.of hM, ?_⟩)
 refine sZ (xs := ps.map V.ref) (ys := rs.map V.ref) (fun i σ H' => ∃ x2 x3, σ = [some (.ref L), some (.ref M), x2, x3] ∧ au H H') ⟨none, none, rfl, .refl H⟩ (fun i σ H' _ h => ?_) (by simp; omega) (fun i x y σ H' t hx hy h ht => ?_) (fun σ H' h => ?_)
 · obtain ⟨_, _, _, S⟩ := h
   exact ⟨SqL.of (S _ _ hL), SqL.of (S _ _ hM)⟩
 · obtain ⟨x2, x3, rfl, S⟩ := h
   obtain ⟨p, hp, rfl⟩ := gh hx
   obtain ⟨r, hr, rfl⟩ := gh hy
   obtain ⟨k, hk, hpk, ok⟩ := qB w1 hp
   obtain ⟨k', hk', hrk, ok'⟩ := qB w2 hr
   obtain rfl : k = k' := Option.some.inj (hk.symm.trans hk')
   have S1 := S.trans (au.upd (o := .tup [.ref p, .ref r]) ht)
   have hp1 := S1 _ _ hpk
   have hr1 := S1 _ _ hrk
   have ht1 : upd H' t (.tup [.ref p, .ref r]) t = some (.tup [.ref p, .ref r]) := am
   generalize upd H' t (.tup [.ref p, .ref r]) = H1 at S1 hp1 hr1 ht1
   have ty1 : tyN H1 (.ref p) = some "tuple" := by unfold tyN; dsimp only; rw [hp1]
   refine ⟨t, [.ref p, .ref r], rfl, SqT.of ht1, rfl, _, _, rfl, _, _, rfl, rfl, by decide, "tuple", ty1, Sel.no rfl ⟨_, _, bQ hp1, bQ hr1, be (cR ok), be (cR ok), mR _, Sel.mk (fun z => (iE z rfl).elim) (fun _ => ?_)⟩⟩
   refine ⟨p, rfl, .inr ⟨⟨_, SqT.of hp1⟩, fun D hD => ?_⟩⟩
   have hne : p ≠ D := aq hp1 hD
   refine fe (cG.tuple (xs := k.map kV) .non) (fun i ys H2 => ys = [] ∧ H2 = upd H1 D (.lst [])) (fun i ys H2 hi ⟨_, e2⟩ => ?_) ⟨rfl, rfl⟩ (fun i ys H2 hi ⟨e1, e2⟩ => ?_) (fun ys H2 ⟨e1, e2⟩ => ?_)
   · rw [e2]; exact SqT.of (by rw [aj hne]; exact hp1)
   · subst e1 e2
     have hi' : i < k.length := by rw [List.length_map] at hi; exact hi
     obtain ⟨x, hx⟩ : ∃ x, k[i]? = some x := ⟨_, List.getElem?_eq_getElem hi'⟩
     have hg : (k.map kV).getD i .non = kV x := by rw [List.getD_eq_getElem?_getD, List.getElem?_map, hx]; rfl
     rw [hg]
     cases x with
     | inl n => exact ⟨by decide, "int", rfl, (by show if false = true then _ else _; exact CWd.next hi ⟨rfl, rfl⟩)⟩
     | inr z => exact ⟨by decide, "str", rfl, (by show if false = true then _ else _; exact CWd.next hi ⟨rfl, rfl⟩)⟩
   · subst e1 e2
     refine ⟨aD (n := 0) (by decide), fun D2 hD2 => ⟨_, _, .lst (SqL.of (au.upd hD2 _ _ am)) .nil, .lst (SqL.of am) .nil, rfl, rfl, by decide, Sel.no rfl ⟨_, _, rfl, S1.trans ((au.upd hD).trans (au.upd hD2))⟩⟩⟩
 · obtain ⟨x2, x3, rfl, S⟩ := h
   exact q H' S
theorem CB (K : W.Frag) (A : Adr) : Ln (mZ K A) 3 := by rintro vs H Q E ⟨f, b, L, d, ps, ks, r, v, g, n, rfl, _⟩; rfl
theorem Eb (T : Txt K mg A) : Rd (mZ K A) (T_7 K A) ["_law_stamper_here", "_law_terms", "_law_found"] := by
 intro vs H Q E h
 obtain ⟨f, b, L, d, ps, ks, r, v, g, n, rfl, s, hL, pk, hk9, hn, ⟨p, a1, a2, rfl, hp, h1, h2, ok1, ok2⟩, m1, m2, ne, eqh, q⟩ := h
 have ty : tyN H (.ref p) = some "tuple" := by unfold tyN; dsimp only; rw [hp]
 obtain ⟨cl, dl⟩ := lf pk
 have no : ∀ (a : Addr) (k : List Key) (R : VK), H a = some (.tup (k.map kV)) → okT k = true → k ∈ ks → R (.bl false) H → fc K (.ref a) (.ref L) H R := fun a k R ha ok hm hR =>
  .inr ⟨_, _, bQ ha, .inl (.lst (SqL.of hL) (fJ pk)), cl, be (cR ok), by show PyData.depthAll (k.map aT) + 1 ≤ 140; rw [cJ]; decide, by rw [sk hm]; exact hR⟩
 refine ⟨by decide, "tuple", ty, Sel.no rfl (.inl (.inr (.inl ⟨_, SqT.of hp, Sel.no rfl ?_⟩)))⟩
 refine ixT (j := 0) hp rfl rfl (ixT (j := 1) hp rfl rfl (kY h1 h2 (Sel.no (decide_eq_false ne) ?_)))
 refine ixT (j := 0) hp rfl rfl (no _ _ _ h1 ok1 m1 (Sel.no rfl (ixT (j := 1) hp rfl rfl (no _ _ _ h2 ok2 m2 (Sel.no rfl ?_)))))
 refine ⟨f, rfl, s.clo, ixT (j := 0) hp rfl rfl ?_⟩
 dsimp only [ag]
 refine dL s (by omega) h1 ok1 fun v1 H1 g1 kb1 s1 sub1 gv1 st1 => ?_
 have hp1 := kb1.obj s.bb hp (fun _ z => nomatch z)
 refine ⟨f, rfl, s1.clo, ixT (j := 1) hp1 rfl rfl ?_⟩
 dsimp only [ag]
 refine dL s1 (by omega) (kb1.obj s.bb h2 (fun _ z => nomatch z)) ok2 fun v2 H2 g2 kb2 s2 sub2 gv2 st2 => ?_
 have e : v1 = v2 := by
  have x := Ext.refl' g2
  rw [← x _ _ (sub2 _ _ gv1), ← x _ _ gv2]
  exact eqh _ (Ext.of (sub1.trans sub2) x)
 subst e
 refine sU ?_
 rw [decide_eq_true rfl]; exact q _
end Rs
namespace Rs
open PySem PySem.Spec PyProof.Rows L2
variable {K : W.Frag} {mg : Str → Option Value} {A : Adr}
theorem zD (K : W.Frag) (A : Adr) : Ln (gN K A) 5 := by rintro vs H Q E ⟨f, b, P, T, M, d, c, p, ks, e, ps, tt, g, n, rfl, _⟩; rfl
theorem BC (T : Txt K mg A) : Rd (gN K A) (EC K A) ["_law_stamper_here", "_law_count", "_law_place", "_law_paper", "_law_due", "_law_found"] := by
 intro vs H Q E h
 obtain ⟨f, b, P, TT, M, d, c, p, ks, e, ps, tt, g, n, rfl, pp, lt, hM, pk, eq, hn, q⟩ := h
 have tl60 := pp.tl
 refine ⟨f, b, P, TT, d, c, p, ks, e, g, n, rfl, pp, lt, fun L ps1 tt1 g1 H1 k1 s1 sub1 hLn nLb hL1 pk1 npb1 tl1 sz1 eq1 => ?_⟩
 obtain rfl : tt1 = tt := by
   have x := Ext.refl' g1
   rw [eq1 _ x, eq _ (Ext.of sub1 x)]
 have sb := pp.s.bb
 have hM1 := k1.obj sb hM (fun _ z => nomatch z)
 have pkM1 := pk.keep (aY.tup pp.s k1)
 refine ⟨L, M, ps1, ps, tt1, rfl, hL1, hM1, pk1, pkM1, by omega, fun H2 S2 => Sel.no rfl ⟨.inl ⟨rfl, _, SqL.of (S2 _ _ hL1)⟩, L, _, rfl, rfl, S2 _ _ hL1, ?_⟩⟩
 have hL2 := S2 _ _ hL1
 have kx : ∀ z (o : HO), z ≠ L → H2 z = some o → upd H2 L (.lst []) z = some o := fun z o nz ez => by rw [aj nz]; exact ez
 have s2 := (s1.same (Nat.le_refl _) S2).setL (o := .lst []) hL2
 have k3 : aY b H (upd H2 L (.lst [])) := fun z o nz ez => kx _ _ (aq ez hLn) (S2 _ _ (k1 _ _ nz ez))
 have pp3 : bx A (upd H2 L (.lst [])) f b P TT d c (aQ c p) ks e g1 (n + 70) := pp.kb k3 s2 (by omega)
 have hM3 := k3.obj sb hM (fun _ z => nomatch z)
 have pk3 := pk.keep (aY.tup pp.s k3)
 generalize upd H2 L (.lst []) = H3 at k3 pp3 hM3 pk3
 refine ⟨f, b, P, TT, d, c, p, ks, e, g1, n + 70, rfl, pp3, lt, fun w g4 H4 k4 s4 sub4 okw ew => ?_⟩
 obtain ⟨r, t, er⟩ := gF.last (tt := tt1) (m := (aQ c p).length + 1) tl1
 subst er
 have pk4 := pk3.keep (aY.tup pp3.s k4)
 have hM4 := k4.obj pp3.s.bb hM3 (fun _ z => nomatch z)
 obtain ⟨qs, pl, rfl, pk4⟩ := fm pk4
 obtain ⟨hpl, okl⟩ := eA (dk pk4) pk4
 have hM4' := hM4
 rw [List.map_append] at hM4'
 refine ⟨f, rfl, s4.clo, dH hM4' ?_⟩
 dsimp only [ag]
 refine dL s4 (by omega) hpl okl fun v H5 g5 kb5 s5 sub5 gv st5 => ?_
 have ewv : w = v := by
   have x := Ext.refl' g5
   rw [ew _ (Ext.of sub5 x), ← x _ _ gv, df pp.kl, ← fz eq1 (Ext.of sub4 (Ext.of sub5 x))]
 subst ewv
 refine vd (Sel.f ?_)
 have k5 := (k3.trans k4).trans kb5
 have pp5 : bx A H5 f b P TT d c (aQ c p) ks e g5 (n + 70 + 71 + 1) := pp.kb k5 s5 (by omega)
 refine ⟨f, b, P, TT, d, c, p, ks, e, g5, n + 70 + 71 + 1, rfl, pp5, lt, fun L6 ps6 tt6 g6 H6 k6 s6 sub6 hLn6 nLb6 hL6 pk6 npb6 tl6 sz6 eq6 => ?_⟩
 obtain rfl : tt6 = r ++ [t] := by
   have x := Ext.refl' g6
   rw [eq6 _ x, eq1 _ (Ext.of (sub4.trans (sub5.trans sub6)) x)]
 have hM5 := k5.obj sb hM (fun _ z => nomatch z)
 have hM6 := k6.obj pp5.s.bb hM5 (fun _ z => nomatch z)
 have pkM6 := (pk.keep (aY.tup pp.s k5)).keep (aY.tup pp5.s k6)
 obtain ⟨cl, dl⟩ := lf pk6
 refine .inr (.inl ⟨_, _, .lst (SqL.of hL6) (fJ pk6), .lst (SqL.of hM6) (fJ pkM6), cl, cl, ?_, ?_⟩)
 · show PyData.depthAll _ + 1 ≤ 150
   omega
 · show Q (.bl (PyData.eqvAll _ _)) H6
   rw [lc]
   exact q g6 H6 (k5.trans k6) (s6.same (by omega) (.refl _)) (sub1.trans (sub4.trans (sub5.trans sub6)))
end Rs
namespace Rs
open PySem PySem.Spec PyProof.Rows L2
variable {K : W.Frag} {mg : Str → Option Value} {A : Adr}
def dig (m : Nat) : List Nat := (Nat.toDigits 10 m).map Char.toNat
theorem mQ {n : Int} (h0 : 0 ≤ n) : (((toString n : String) : Str)).cps.toList = dig n.toNat := by
 obtain ⟨m, rfl⟩ := Int.eq_ofNat_of_zero_le h0
 exact W.KIN.signs_num m
theorem oH (m : Nat) : ∀ d ∈ dig m, 48 ≤ d ∧ d ≤ 57 := fun d hd => by
 obtain ⟨ch, hch, e⟩ := List.mem_map.mp hd
 rw [← e]
 exact digit_range (Nat.isDigit_of_mem_toDigits (by decide) (by decide) hch)
theorem pf (m : Nat) : PySem.NumText.digitsVal (dig m) = m := W.KIN.val_back m
theorem wO {m n : Nat} (h : dig m = dig n) : m = n := by rw [← pf m, h, pf n]
theorem wF (z : Str) : z.length = z.cps.toList.length := by rw [Array.length_toList]; rfl
theorem wI {x y : Str} (h : x.cps.toList = y.cps.toList) : x = y := by
 cases x; cases y
 simp only [Str.mk.injEq] at h ⊢
 exact Array.toList_inj.mp h
theorem dX (a b : Str) : (a ++ b).cps.toList = a.cps.toList ++ b.cps.toList := by
 rw [show (a ++ b).cps = a.cps ++ b.cps from rfl, Array.toList_append]
theorem sK {a b : List Nat} {c d : Nat} {t u : List Nat} (ha : ∀ x ∈ a, 48 ≤ x ∧ x ≤ 57) (hb : ∀ x ∈ b, 48 ≤ x ∧ x ≤ 57) (hc : c = 58 ∨ c = 59) (hd : d = 58 ∨ d = 59) (h : a ++ c :: t = b ++ d :: u) : a = b ∧ c = d ∧ t = u := by
  induction a generalizing b with
  | nil =>
    cases b with
    | nil => exact ⟨rfl, (List.cons.inj h).1, (List.cons.inj h).2⟩
    | cons y r =>
      have e := (List.cons.inj h).1
      have := hb y List.mem_cons_self
      omega
  | cons x r ih =>
    cases b with
    | nil =>
      have e := (List.cons.inj h).1
      have := ha x List.mem_cons_self
      omega
    | cons y r' =>
      obtain ⟨e1, e2⟩ := List.cons.inj h
      obtain ⟨i1, i2, i3⟩ := ih (fun z hz => ha z (List.mem_cons_of_mem _ hz)) (fun z hz => hb z (List.mem_cons_of_mem _ hz)) e2
      exact ⟨by rw [e1, i1], i2, i3⟩
theorem gM (v : Key) (h : okP v = true) : ∃ (m c : Nat) (w : List Nat), (cb v).cps.toList = dig m ++ c :: w ∧ ((c = 59 ∧ w = [] ∧ v = .inl (m : Int)) ∨ (c = 58 ∧ m = w.length ∧ v = .inr ⟨w.toArray⟩)) := by
  cases v with
  | inl i =>
    have h0 : 0 ≤ i := (of_decide_eq_true h).1
    refine ⟨i.toNat, 59, [], ?_, .inl ⟨rfl, rfl, by rw [Int.toNat_of_nonneg h0]⟩⟩
    show (((toString i : String) : Str) ++ ((";" : String) : Str)).cps.toList = _
    rw [dX, mQ h0]; rfl
  | inr z =>
    refine ⟨z.length, 58, z.cps.toList, ?_, .inr ⟨rfl, wF z, rfl⟩⟩
    show (((toString (z.length : Int) : String) : Str) ++ ((":" : String) : Str) ++ z).cps.toList = _
    rw [dX, dX, mQ (by omega), Int.toNat_natCast, List.append_assoc]; rfl
theorem rN {x y : Key} {t u : List Nat} (hx : okP x = true) (hy : okP y = true) (h : (cb x).cps.toList ++ t = (cb y).cps.toList ++ u) : x = y ∧ t = u := by
 obtain ⟨m, c, w, e, hv⟩ := gM x hx
 obtain ⟨m', c', w', e', hv'⟩ := gM y hy
 rw [e, e', List.append_assoc, List.append_assoc] at h
 obtain ⟨h1, h2, h3⟩ := sK (oH m) (oH m') (by rcases hv with ⟨q, _⟩ | ⟨q, _⟩; exact .inr q; exact .inl q) (by rcases hv' with ⟨q, _⟩ | ⟨q, _⟩; exact .inr q; exact .inl q) h
 have hm := wO h1
 subst hm h2
 rcases hv with ⟨q1, q2, q3⟩ | ⟨q1, q2, q3⟩ <;> rcases hv' with ⟨r1, r2, r3⟩ | ⟨r1, r2, r3⟩
 · subst q2 r2
   exact ⟨q3.trans r3.symm, by simpa using h3⟩
 · omega
 · omega
 · have hl : w.length = w'.length := by omega
   obtain ⟨a1, a2⟩ := List.append_inj h3 hl
   subst a1
   exact ⟨q3.trans r3.symm, a2⟩
theorem lv {x : Key} (h : okP x = true) : (cb x).cps.toList ≠ [] := by
 obtain ⟨m, c, w, e, _⟩ := gM x h
 rw [e]; simp
theorem lr : ∀ {xs ys : List Key}, xs.all okP = true → ys.all okP = true → bT xs = bT ys → xs = ys
  | [], [], _, _, _ => rfl
  | [], y :: r, _, hy, h => by
    rw [List.all_cons, Bool.and_eq_true] at hy
    have e := congrArg (fun s : Str => s.cps.toList) h
    have e2 : (bT (y :: r)).cps.toList = (cb y).cps.toList ++ (bT r).cps.toList := dX _ _
    have e : ([] : List Nat) = (bT (y :: r)).cps.toList := e
    rw [e2] at e
    exact absurd (List.append_eq_nil_iff.mp e.symm).1 (lv hy.1)
  | x :: r, [], hx, _, h => by
    rw [List.all_cons, Bool.and_eq_true] at hx
    have e := congrArg (fun s : Str => s.cps.toList) h
    have e2 : (bT (x :: r)).cps.toList = (cb x).cps.toList ++ (bT r).cps.toList := dX _ _
    have e : (bT (x :: r)).cps.toList = ([] : List Nat) := e
    rw [e2] at e
    exact absurd (List.append_eq_nil_iff.mp e).1 (lv hx.1)
  | x :: r, y :: r', hx, hy, h => by
    rw [List.all_cons, Bool.and_eq_true] at hx hy
    have e : (cb x).cps.toList ++ (bT r).cps.toList = (cb y).cps.toList ++ (bT r').cps.toList := by
      rw [← dX, ← dX]; exact congrArg (fun s : Str => s.cps.toList) h
    obtain ⟨h1, h2⟩ := rN hx.1 hy.1 e
    rw [h1, lr hx.2 hy.2 (wI h2)]
theorem Stp.inj {H : Hp} {f b : Addr} {d : Kd} {g : List Key → Option Key} {n : Nat} (s : Stp A H f b d g n) (hd : d.sure) {k k' : List Key} {v : Key} (ok : okT k = true) (ok' : okT k' = true) (h : g k = some v) (h' : g k' = some v) : k = k' := by
  cases s with
  | wri hc hb hg ed =>
    subst hg
    have e : (Sum.inr (bT k) : Key) = Sum.inr (bT k') := (Option.some.inj h).trans (Option.some.inj h').symm
    exact lr (eC ok) (eC ok') (Sum.inr.inj e)
  | cnt q x kvs hc num hl hs st hg ed => subst hg; exact st.inj (by decide) h h'
  | wea q m h1 h2 hc hb hg ed => subst ed; exact hd.elim
  | pla q0 q1 q2 D j j0 j1 kvs al hc hb ha bD hl hs st hg ed =>
    subst ed
    have hd : al = none := hd
    subst hd hg
    exact st.inj j0 h h'
end Rs
namespace Rs
open PySem PySem.Spec PyProof.Rows L2
variable {K : W.Frag} {mg : Str → Option Value} {A : Adr}
theorem yo {H : Hp} {P T : Addr} {e : Key} {ks : List Key} (w : dO H P T e ks) : cY K H (.ref P) (.tuple [aT e, .tuple (ks.map aT)]) := by
 refine .tup (SqT.of w.hP) (.cons ?_ (.cons (bQ w.hT) .nil))
 cases e with
 | inl i => exact .int i
 | inr z => exact .str z
theorem Ac {k : Key} (h : okP k = true) : fS k = true := by
 cases k with
 | inl i => rfl
 | inr z => exact sF (Bool.and_eq_true_iff.mp h).1
theorem pc {ks : List Key} (h : ∀ k ∈ ks, okP k = true) : ks.all fS = true := List.all_eq_true.mpr fun k hk => Ac (h k hk)
theorem Am {e : Key} {ks : List Key} (oke : okP e = true) (ok : ∀ k ∈ ks, okP k = true) : (PyData.tuple [aT e, .tuple (ks.map aT)]).canLay0 = true ∧ (PyData.tuple [aT e, .tuple (ks.map aT)]).depth ≤ 150 := by
 have h1 := be (k := [e]) (pc fun k hk => by rw [List.mem_singleton.mp hk]; exact oke)
 have h2 := be (pc ok)
 have h1 : ((aT e).canLay0 && true) = true := h1
 rw [Bool.and_true] at h1
 have h3 := cJ [e]
 have h3 : max (aT e).depth 0 = 0 := h3
 have h4 := cJ ks
 refine ⟨?_, ?_⟩
 · show ((aT e).canLay0 && (PyData.canLayAll0 (ks.map aT) && true)) = true
   rw [h1, h2]; rfl
 · rw [PyData.depth, PyData.depthAll, PyData.depthAll, PyData.depth, PyData.depthAll]
   omega
theorem Em {e e' : Key} {ks ks' : List Key} (h : (PyData.tuple [aT e, .tuple (ks.map aT)]).eqv (.tuple [aT e', .tuple (ks'.map aT)]) = false) : ¬ (e = e' ∧ ks = ks') := fun ⟨h1, h2⟩ => by
 subst h1 h2
 have h : ((aT e).eqv (aT e) && (PyData.eqvAll (ks.map aT) (ks.map aT) && true)) = false := h
 have h3 := cC [e] [e]
 have h3 : ((aT e).eqv (aT e) && true) = _ := h3
 rw [decide_eq_true rfl, Bool.and_true] at h3
 rw [cC, decide_eq_true rfl, h3] at h
 cases h
theorem uc {g : List Key → Option Key} (inj : ∀ k k' v, okT k = true → okT k' = true → g k = some v → g k' = some v → k = k') {ks : List (List Key)} (okk : ∀ k ∈ ks, okT k = true) {r : Option (List Key × List Key)} (hd : ∀ h, Ext g h → lZ h ks r) : r = none := by
  cases r with
  | none => rfl
  | some r =>
    exfalso
    obtain ⟨a, b⟩ := r
    have all : ∀ h, Ext g h → a ∈ ks ∧ b ∈ ks ∧ a ≠ b ∧ h a = h b := fun h eh => by
      obtain ⟨j, k, _, h1, h2, h3, h4, _⟩ := hd h eh
      exact ⟨List.mem_of_getElem? h1, List.mem_of_getElem? h2, h3, h4⟩
    have ext : ∀ (f : List Key → Key), Ext g (fun k => (g k).getD (f k)) := fun f k v e => by show (g k).getD _ = v; rw [e]; rfl
    have d1 := all _ (ext fun k => if k = a then .inl 0 else if k = b then .inl 1 else .inl 3)
    have d2 := all _ (ext fun k => if k = a then .inl 2 else if k = b then .inl 4 else .inl 3)
    obtain ⟨ma, mb, ne, e1⟩ := d1
    obtain ⟨_, _, _, e2⟩ := d2
    rw [if_pos rfl, if_neg (Ne.symm ne), if_pos rfl] at e1 e2
    cases ga : g a with
    | none =>
      cases gb : g b with
      | none => rw [ga, gb] at e1; cases e1
      | some v =>
        rw [ga, gb] at e1 e2
        have e1 : (Sum.inl 0 : Key) = v := e1
        have e2 : (Sum.inl 2 : Key) = v := e2
        rw [← e1] at e2; cases e2
    | some u =>
      cases gb : g b with
      | none =>
        rw [ga, gb] at e1 e2
        have e1 : u = (Sum.inl 1 : Key) := e1
        have e2 : u = (Sum.inl 4 : Key) := e2
        rw [e1] at e2; cases e2
      | some v =>
        rw [ga, gb] at e1
        have e1 : u = v := e1
        subst e1
        exact ne (inj a b u (okk a ma) (okk b mb) ga gb)
theorem wT {h : List Key → Key} {c : Int} {e e' : Key} {ts : List Int} {ks ks' : List Key} {t1 t2 : List (List Key)} (l1 : ks.length = ts.length) (l2 : ks'.length = ts.length)
   (e1 : t1 = cD h c e (stR ts ks) (ts.length + 2)) (e2 : t2 = cD h c e' (stR ts ks') (ts.length + 2)) (hd : lZ h (t1 ++ t2) none)
   (hl : h (cj h c e (stR ts ks) (ts.length + 1)) = h (cj h c e' (stR ts ks') (ts.length + 1))) : e = e' ∧ ks = ks' := by
 refine sN l1 l2 (fun a b ha hb hab => ?_) hl
 rw [← e1] at ha
 rw [← e2] at hb
 obtain ⟨i, hi⟩ := List.mem_iff_getElem?.mp ha
 obtain ⟨j, hj⟩ := List.mem_iff_getElem?.mp hb
 have il := (List.getElem?_eq_some_iff.mp hi).1
 refine hd i (t1.length + j) a b (by omega) ?_ ?_ hab
 · rw [List.getElem?_append_left il]; exact hi
 · rw [List.getElem?_append_right (by omega), Nat.add_sub_cancel_left]; exact hj
theorem nG {H : Hp} : ∀ {ps rs : List Addr} {tt ss : List (List Key)}, PK H ps tt → PK H rs ss → PK H (ps ++ rs) (tt ++ ss)
 | _, _, _, _, .nil, h => h
 | _, _, _, _, .cons r t, h => .cons r (nG t h)
theorem BR {H : Hp} {ps : List Addr} {tt : List (List Key)} (h : PK H ps tt) : ∀ k ∈ tt, okT k = true := by
  induction h with
  | nil => intro k hk; cases hk
  | cons r _ ih =>
    intro k hk
    rcases List.mem_cons.mp hk with rfl | hk
    · exact r.2
    · exact ih k hk
structure Lw (A : Adr) (H : Hp) (f b P T P2 T2 M1 M2 : Addr) (d : Kd) (c p : Nat) (ks ks2 : List Key) (e e2 mk cm : Key) (ps1 ps2 : List Addr) (t1 t2 : List (List Key)) (g : List Key → Option Key) (n : Nat) : Prop where
 p1 : bx A H f b P T d c (aQ c p) ks e g n
 p2 : bx A H f b P2 T2 d c (aQ c p) ks2 e2 g n
 lt : p < c
 m1 : H M1 = some (.lst (ps1.map V.ref))
 m2 : H M2 = some (.lst (ps2.map V.ref))
 k1 : PK H ps1 t1
 k2 : PK H ps2 t2
 l1 : t1.length = (aQ c p).length + 2
 l2 : t2.length = (aQ c p).length + 2
 q1 : ∀ h, Ext g h → t1 = cD h c e (stR (aQ c p) ks) ((aQ c p).length + 2)
 q2 : ∀ h, Ext g h → t2 = cD h c e2 (stR (aQ c p) ks2) ((aQ c p).length + 2)
 om : okP mk = true
 oc : okP cm = true
 em : ∀ h, Ext g h → mk = h (cj h c e (stR (aQ c p) ks) ((aQ c p).length + 1))
 ec : ∀ h, Ext g h → cm = h (cj h c e2 (stR (aQ c p) ks2) ((aQ c p).length + 1))
section
variable {H H' : Hp} {f b P T P2 T2 M1 M2 : Addr} {d : Kd} {c p : Nat} {ks ks2 : List Key} {e e2 mk cm : Key} {ps1 ps2 : List Addr} {t1 t2 : List (List Key)} {g g' : List Key → Option Key} {n m : Nat}
theorem Lw.kb (l : Lw A H f b P T P2 T2 M1 M2 d c p ks ks2 e e2 mk cm ps1 ps2 t1 t2 g n) (k : aY b H H') (s : Stp A H' f b d g' m) (sub : Sub g g') (hm : m + 200 ≤ 40000) : Lw A H' f b P T P2 T2 M1 M2 d c p ks ks2 e e2 mk cm ps1 ps2 t1 t2 g' m :=
 ⟨l.p1.kb k s hm, l.p2.kb k s hm, l.lt, k.obj l.p1.s.bb l.m1 (fun _ z => nomatch z), k.obj l.p1.s.bb l.m2 (fun _ z => nomatch z), l.k1.keep (aY.tup l.p1.s k), l.k2.keep (aY.tup l.p1.s k), l.l1, l.l2, dZ l.q1 sub, dZ l.q2 sub, l.om, l.oc, fun h eh => l.em h (Ext.of sub eh), fun h eh => l.ec h (Ext.of sub eh)⟩
theorem Lw.same (l : Lw A H f b P T P2 T2 M1 M2 d c p ks ks2 e e2 mk cm ps1 ps2 t1 t2 g n) (S : au H H') : Lw A H' f b P T P2 T2 M1 M2 d c p ks ks2 e e2 mk cm ps1 ps2 t1 t2 g n :=
 l.kb (aY.same S) (l.p1.s.same (Nat.le_refl _) S) Sub.rfl' l.p1.hn
theorem Lw.one (l : Lw A H f b P T P2 T2 M1 M2 d c p ks ks2 e e2 mk cm ps1 ps2 t1 t2 g n) (em : cm = mk) {h : List Key → Key} (eh : Ext g h) (hd : lZ h (t1 ++ t2) none) : e = e2 ∧ ks = ks2 :=
 wT l.p1.kl l.p2.kl (l.q1 h eh) (l.q2 h eh) hd (by rw [← l.em h eh, ← l.ec h eh, em])
variable {Q : VK} {a B D W hd16 : Addr} {w j : Int} {x8 x13 x17 : Option V}
theorem wc (hq : ∀ H', Q (.bl true) H') (l : Lw A H f b P T P2 T2 M1 M2 d c p ks ks2 e e2 mk cm ps1 ps2 t1 t2 g n) (hn : n + 1000 ≤ 30000) (h16 : H hd16 = some (.tup ((dQ e2 mk cm).map kV))) (w3 : w ≤ 3) (hdue : w = 3 → cm = mk → e = e2 ∧ ks = ks2) :
    pi K A { nx := fun _ H' => Q .non H', rt := Q } [some (.ref a), some (.int w), some (.ref B), some (.ref D), some (.ref f), some (.int (c : Int)), some (.int (p : Int)), some (.ref W), x8, some (.ref P), some (.ref M1), some (kV mk), some (.ref P2), x13, some (.ref M2), some (kV cm), some (.ref hd16), x17] H := by
  have tl60 := l.p1.tl
  refine kM ?_
  by_cases ec : cm = mk
  · refine Sel.no (by rw [decide_eq_true ec]; rfl) ?_
    have et : dQ e2 mk cm = [.inr "entry", e2] := by unfold dQ; rw [if_pos ec]
    rw [et] at h16
    refine ixT (j := 0) l.p2.w.hP rfl rfl ⟨aD (show 2 ≤ 1000000 by decide), fun t ht => ?_⟩
    have S1 := au.upd (o := .tup [.str "entry", kV e2]) ht
    have ht1 : upd H t (.tup [.str "entry", kV e2]) t = some (.tup (([.inr "entry", e2] : List Key).map kV)) := am
    have l1 := l.same S1
    have h161 := S1 _ _ h16
    generalize upd H t (.tup [.str "entry", kV e2]) = H1 at S1 ht1 l1 h161
    have st : ([.inr "entry", e2] : List Key).all fS = true := cR (ir l.p2.ee.1)
    refine ⟨_, _, bQ h161, bQ ht1, be st, be st, mR _, Sel.mk (fun z => (iE z rfl).elim) (fun _ => ?_)⟩
    refine ixT (j := 1) h161 rfl rfl ?_
    have fin : oO K A { nx := fun _ H' => Q .non H', rt := Q } [some (.ref a), some (.int w), some (.ref B), some (.ref D), some (.ref f), some (.int (c : Int)), some (.int (p : Int)), some (.ref W), x8, some (.ref P), some (.ref M1), some (kV mk), some (.ref P2), x13, some (.ref M2), some (kV cm), some (.ref hd16), x17] H1 := by
      have L1 := Am l1.p1.ee.1 (fun k hk => (l1.p1.ke k hk).1)
      have L2 := Am l1.p2.ee.1 (fun k hk => (l1.p2.ke k hk).1)
      refine .inr (.inl ⟨_, _, yo l1.p2.w, yo l1.p1.w, L2.1, L1.1, L2.2, Sel.mk (fun _ => hq _) (fun z => ?_)⟩)
      have ne : ¬ (e = e2 ∧ ks = ks2) := fun h => Em z ⟨h.1.symm, h.2.symm⟩
      have lt3 : w < 3 := by
        by_cases h : w < 3
        · exact h
        · exact absurd (hdue (by omega) ec) ne
      have lz : (ps1.map V.ref).length + (ps2.map V.ref).length ≤ sizeLine := by
        rw [List.length_map, List.length_map, de l1.k1, de l1.k2, l1.l1, l1.l2]
        exact Nat.le_of_lt (aD (by omega))
      refine .inl ⟨M1, M2, _, _, rfl, rfl, l1.m1, l1.m2, lz, fun q hqn => Sel.yes (decide_eq_true lt3) ?_⟩
      have S2 := au.upd (o := .lst (ps1.map V.ref ++ ps2.map V.ref)) hqn
      have l2 := l1.same S2
      have hq2 : upd H1 q (.lst (ps1.map V.ref ++ ps2.map V.ref)) q = some (.lst ((ps1 ++ ps2).map V.ref)) := by rw [am, List.map_append]
      have pk2 := nG l2.k1 l2.k2
      have ll : (t1 ++ t2).length ≤ 900 := by rw [List.length_append, l.l1, l.l2]; omega
      generalize upd H1 q (.lst (ps1.map V.ref ++ ps2.map V.ref)) = H2 at S2 l2 hq2 pk2
      refine ⟨f, b, q, d, ps1 ++ ps2, t1 ++ t2, g, n, rfl, l2.p1.s, hq2, pk2, ll, by omega, fun v H3 g3 r kb3 s3 sub3 ret due => ?_⟩
      cases r with
      | none =>
        have x := Ext.refl' g3
        exact absurd (l2.one ec (Ext.of sub3 x) (due _ x)) ne
      | some r =>
        have hq3 := kb3.obj l2.p1.s.bb hq2 (fun _ z => nomatch z)
        have pk3 := pk2.keep (aY.tup l2.p1.s kb3)
        have mem : r.1 ∈ t1 ++ t2 ∧ r.2 ∈ t1 ++ t2 ∧ r.1 ≠ r.2 := by
          obtain ⟨j, k, _, h1, h2, h3, _⟩ := due _ (Ext.refl' g3)
          exact ⟨List.mem_of_getElem? h1, List.mem_of_getElem? h2, h3⟩
        exact ⟨f, b, q, d, ps1 ++ ps2, t1 ++ t2, r, v, g3, n + (t1 ++ t2).length, rfl, s3, hq3, pk3, ll, by omega, ret, mem.1, mem.2.1, mem.2.2, fun h eh => by
          obtain ⟨j, k, _, _, _, _, h4, _⟩ := due h eh
          exact h4, hq⟩
    cases e2 with
    | inl i => exact ⟨by decide, "int", rfl, Sel.no rfl fin⟩
    | inr z => exact ⟨by decide, "str", rfl, Sel.no rfl fin⟩
  · refine Sel.yes (by rw [decide_eq_false ec]; rfl) ?_
    have et : dQ e2 mk cm = [.inr "broken", mk, cm] := by unfold dQ; rw [if_neg ec]
    rw [et] at h16
    refine ⟨aD (show 3 ≤ 1000000 by decide), fun t ht => ?_⟩
    have S1 := au.upd (o := .tup [.str "broken", kV mk, kV cm]) ht
    refine kY (k := [.inr "broken", mk, cm]) (l := [.inr "broken", mk, cm]) (S1 _ _ h16) am ?_
    rw [decide_eq_true rfl]; exact hq _
end
end Rs
namespace Rs
open PySem PySem.Spec PyProof.Rows L2
variable {K : W.Frag} {mg : Str → Option Value} {A : Adr}
variable {H H' : Hp} {f b P T P2 T2 M1 M2 : Addr} {d : Kd} {c p : Nat} {ks ks2 : List Key} {e e2 mk cm : Key} {ps1 ps2 : List Addr} {t1 t2 : List (List Key)} {g g' : List Key → Option Key} {n m : Nat}
variable {Q : VK} {a B D W hd16 : Addr} {w j : Int} {x8 x13 x16 x17 : Option V}
theorem AD (hq : ∀ H', Q (.bl true) H') (l : Lw A H f b P T P2 T2 M1 M2 d c p ks ks2 e e2 mk cm ps1 ps2 t1 t2 g n) (hn : n + 2000 ≤ 30000) (h16 : H hd16 = some (.tup ((dQ e2 mk cm).map kV))) (w3 : w ≤ 3) (hs : w = 3 → d.sure) :
   oB K A { nx := fun _ H' => Q .non H', rt := Q } [some (.ref a), some (.int w), some (.ref B), some (.ref D), some (.ref f), some (.int (c : Int)), some (.int (p : Int)), some (.ref W), x8, some (.ref P), some (.ref M1), some (kV mk), some (.ref P2), x13, some (.ref M2), some (kV cm), some (.ref hd16), x17] H := by
 have tl60 := l.p1.tl
 refine Sel.dec (fun ew => ?_) (fun ew => ?_)
 · have ew : w = 3 := ew
   have lz : (ps1.map V.ref).length + (ps2.map V.ref).length ≤ sizeLine := by
    rw [List.length_map, List.length_map, de l.k1, de l.k2, l.l1, l.l2]
    exact Nat.le_of_lt (aD (by omega))
   refine .inl ⟨M1, M2, _, _, rfl, rfl, l.m1, l.m2, lz, fun q hqn => ?_⟩
   have S2 := au.upd (o := .lst (ps1.map V.ref ++ ps2.map V.ref)) hqn
   have l2 := l.same S2
   have hq2 : upd H q (.lst (ps1.map V.ref ++ ps2.map V.ref)) q = some (.lst ((ps1 ++ ps2).map V.ref)) := by rw [am, List.map_append]
   have pk2 := nG l2.k1 l2.k2
   have h162 := S2 _ _ h16
   have ll : (t1 ++ t2).length ≤ 900 := by rw [List.length_append, l.l1, l.l2]; omega
   generalize upd H q (.lst (ps1.map V.ref ++ ps2.map V.ref)) = H2 at S2 l2 hq2 pk2 h162
   refine ⟨f, b, q, d, ps1 ++ ps2, t1 ++ t2, g, n, rfl, l2.p1.s, hq2, pk2, ll, by omega, fun v H3 g3 r kb3 s3 sub3 ret due => ?_⟩
   have er : r = none := uc (fun k k' v o o' h h' => s3.inj (hs ew) o o' h h') (BR (pk2.keep (aY.tup l2.p1.s kb3))) due
   subst er
   have ret : v = .non := ret
   subst ret
   refine Sel.no rfl ?_
   have l3 := l2.kb kb3 s3 sub3 (by omega)
   refine wc hq l3 (by omega) (kb3.obj l2.p1.s.bb h162 (fun _ z => nomatch z)) w3 fun _ ec => ?_
   have x := Ext.refl' g3
   exact l3.one ec x (due _ x)
 · have ew : ¬ w = 3 := ew
   exact Sel.no rfl (wc hq l (by omega) h16 w3 fun h => absurd h ew)
theorem Bc (hq : ∀ H', Q (.bl true) H') (l : Lw A H f b P T P2 T2 M1 M2 d c p ks ks2 e e2 mk cm ps1 ps2 t1 t2 g n) (hn : n + 4000 ≤ 30000) (w3 : w ≤ 3) (hs : w = 3 → d.sure) :
  oa K A { nx := fun _ H' => Q .non H', rt := Q } [some (.ref a), some (.int w), some (.ref B), some (.ref D), some (.ref f), some (.int (c : Int)), some (.int (p : Int)), some (.ref W), x8, some (.ref P), some (.ref M1), some (kV mk), some (.ref P2), x13, some (.ref M2), some (kV cm), x16, x17] H := by
 have tl60 := l.p1.tl
 refine ⟨f, b, P, T, M1, d, c, p, ks, e, ps1, t1, g, n, rfl, l.p1, l.lt, l.m1, l.k1, l.q1, by omega, fun g1 H1 kb1 s1 sub1 => Sel.no rfl ?_⟩
 have l1 := l.kb kb1 s1 sub1 (by omega)
 refine ⟨f, b, P2, T2, M2, d, c, p, ks2, e2, ps2, t2, g1, _, rfl, l1.p2, l1.lt, l1.m2, l1.k2, l1.q2, by omega, fun g2 H2 kb2 s2 sub2 => Sel.no rfl ?_⟩
 have l2 := l1.kb kb2 s2 sub2 (by omega)
 refine ⟨aD (show 2 ≤ 1000000 by decide), fun hd hhd => ?_⟩
 have S3 := au.upd (o := .tup [.int (c : Int), kV mk]) hhd
 have l3 := l2.same S3
 have hd3 : upd H2 hd (.tup [.int (c : Int), kV mk]) hd = some (.tup [.int (c : Int), kV mk]) := am
 generalize upd H2 hd (.tup [.int (c : Int), kV mk]) = H3 at S3 l3 hd3
 refine ⟨f, b, hd, P, T, d, c, p, ks, e, mk, g2, _, rfl, l3.p1, l3.lt, hd3, l3.om, fun wv g4 H4 kb4 s4 sub4 okw ew r H5 S5 hr => ?_⟩
 have ewm : wv = mk := by
  have x := Ext.refl' g4
  rw [ew _ x, l3.em _ (Ext.of sub4 x), df l3.p1.kl]
 subst ewm
 have et : dQ e wv wv = [.inr "entry", e] := by unfold dQ; rw [if_pos rfl]
 rw [et] at hr
 have l5 := (l3.kb kb4 s4 sub4 (by omega)).same S5
 refine ixT (j := 0) l5.p1.w.hP rfl rfl ⟨aD (show 2 ≤ 1000000 by decide), fun t ht => ?_⟩
 have S6 := au.upd (o := .tup [.str "entry", kV e]) ht
 have l6 := l5.same S6
 have ht6 : upd H5 t (.tup [.str "entry", kV e]) t = some (.tup (([.inr "entry", e] : List Key).map kV)) := am
 have hr6 := S6 _ _ hr
 generalize upd H5 t (.tup [.str "entry", kV e]) = H6 at S6 l6 ht6 hr6
 have st : ([.inr "entry", e] : List Key).all fS = true := cR (ir l.p1.ee.1)
 refine ⟨_, _, bQ hr6, bQ ht6, be st, be st, mR _, Sel.mk (fun z => (iE z rfl).elim) (fun _ => ?_)⟩
 refine ⟨aD (show 2 ≤ 1000000 by decide), fun hd' hhd' => ?_⟩
 have S7 := au.upd (o := .tup [.int (c : Int), kV wv]) hhd'
 have l7 := l6.same S7
 have hd7 : upd H6 hd' (.tup [.int (c : Int), kV wv]) hd' = some (.tup [.int (c : Int), kV wv]) := am
 generalize upd H6 hd' (.tup [.int (c : Int), kV wv]) = H7 at S7 l7 hd7
 refine ⟨f, b, hd', P2, T2, d, c, p, ks2, e2, wv, g4, _, rfl, l7.p2, l7.lt, hd7, l7.om, fun wv2 g8 H8 kb8 s8 sub8 okw8 ew8 r8 H9 S9 hr9 => ?_⟩
 have ewc : wv2 = cm := by
  have x := Ext.refl' g8
  rw [ew8 _ x, l7.ec _ (Ext.of sub8 x), df l7.p2.kl]
 subst ewc
 have l9 := (l7.kb kb8 s8 sub8 (by omega)).same S9
 exact AD hq l9 (by omega) hr9 w3 hs
end Rs
namespace Rs
open PySem PySem.Spec PyProof.Rows L2
variable {K : W.Frag} {mg : Str → Option Value} {A : Adr}
structure Lv (A : Adr) (H : Hp) (f b P T P2 T2 M1 W : Addr) (d : Kd) (c p : Nat) (ks ks2 : List Key) (e e2 mk : Key) (ps1 : List Addr) (t1 : List (List Key)) (g : List Key → Option Key) (n : Nat) : Prop where
 p1 : bx A H f b P T d c (aQ c p) ks e g n
 p2 : bx A H f b P2 T2 d c (aQ c p) ks2 e2 g n
 lt : p < c
 hW : H W = some (.lst ((aQ c p).map V.int))
 m1 : H M1 = some (.lst (ps1.map V.ref))
 k1 : PK H ps1 t1
 l1 : t1.length = (aQ c p).length + 2
 q1 : ∀ h, Ext g h → t1 = cD h c e (stR (aQ c p) ks) ((aQ c p).length + 2)
 om : okP mk = true
 em : ∀ h, Ext g h → mk = h (cj h c e (stR (aQ c p) ks) ((aQ c p).length + 1))
variable {H H' : Hp} {f b P T P2 T2 M1 : Addr} {d : Kd} {c p : Nat} {ks ks2 : List Key} {e e2 mk : Key} {ps1 : List Addr} {t1 : List (List Key)} {g g' : List Key → Option Key} {n m : Nat}
variable {Q : VK} {a B D W : Addr} {w : Int} {x8 x13 x14 x15 x16 x17 : Option V}
theorem Lv.kb (l : Lv A H f b P T P2 T2 M1 W d c p ks ks2 e e2 mk ps1 t1 g n) (k : aY b H H') (s : Stp A H' f b d g' m) (sub : Sub g g') (hm : m + 200 ≤ 40000) : Lv A H' f b P T P2 T2 M1 W d c p ks ks2 e e2 mk ps1 t1 g' m :=
 ⟨l.p1.kb k s hm, l.p2.kb k s hm, l.lt, k.obj l.p1.s.bb l.hW (fun _ z => nomatch z), k.obj l.p1.s.bb l.m1 (fun _ z => nomatch z), l.k1.keep (aY.tup l.p1.s k), l.l1, dZ l.q1 sub, l.om, fun h eh => l.em h (Ext.of sub eh)⟩
theorem wg (hq : ∀ H', Q (.bl true) H') (l : Lv A H f b P T P2 T2 M1 W d c p ks ks2 e e2 mk ps1 t1 g n) (hn : n + 5000 ≤ 30000) (w3 : w ≤ 3) (hs : w = 3 → d.sure) :
  oW K A { nx := fun _ H' => Q .non H', rt := Q } [some (.ref a), some (.int w), some (.ref B), some (.ref D), some (.ref f), some (.int (c : Int)), some (.int (p : Int)), some (.ref W), x8, some (.ref P), some (.ref M1), some (kV mk), some (.ref P2), x13, x14, x15, x16, x17] H := by
 have tl60 := l.p1.tl
 refine .inl (.inl ⟨_, SqL.of l.hW, ?_⟩)
 rw [List.length_map]
 refine ⟨f, b, W, P2, T2, d, c, aQ c p, ks2, e2, g, n, (aQ c p).length + 1, rfl, l.p2, l.hW, Nat.le_refl _, fun M2 ps2 t2 g1 H1 kb1 s1 sub1 hMn nM hM pk npb tl sz eq => ?_⟩
 have l1 := l.kb kb1 s1 sub1 (by omega)
 obtain ⟨r, t, rfl⟩ := gF.last tl
 obtain ⟨qs, pl, rfl, pk'⟩ := fm pk
 obtain ⟨hpl, okl⟩ := eA (dk pk') pk'
 have hM' := hM
 rw [List.map_append] at hM'
 refine ⟨f, rfl, s1.clo, dH hM' ?_⟩
 dsimp only [ag]
 refine dL s1 (by omega) hpl okl fun v H2 g2 kb2 s2 sub2 gv st => ?_
 have szt := sz t (by simp)
 have l2 := l1.kb kb2 s2 sub2 (by omega)
 exact Bc hq ⟨l2.p1, l2.p2, l2.lt, l2.m1, kb2.obj s1.bb hM (fun _ z => nomatch z), l2.k1, pk.keep (aY.tup s1 kb2), l2.l1, tl, l2.q1, dZ eq sub2, l2.om, iP st (by omega), l2.em, fun h eh => by
  rw [← fz eq (Ext.of sub2 eh), eh _ _ gv]⟩ (by omega) w3 hs
theorem Stp.plaD {H : Hp} {f b D : Addr} {g : List Key → Option Key} {n : Nat} (s : Stp A H f b (.pla D none) g n) : H D = some (.dT []) := by
 cases s with
 | wri _ _ _ ed => cases ed
 | cnt _ _ _ _ _ _ _ _ _ ed => cases ed
 | wea _ _ _ _ _ _ _ ed => cases ed
 | pla q0 q1 q2 D' j j0 j1 kvs al hc hb ha bD hl hs st hg ed => cases ed; exact ha
theorem CV (hq : ∀ H', Q (.bl true) H') (l : Lv A H f b P T P2 T2 M1 W d c p ks ks2 e e2 mk ps1 t1 g n) (hn : n + 6000 ≤ 30000) (w3 : w ≤ 3) (hs : w = 3 → d.sure) (hp : w < 2 → d = .pla D none ∧ b = B) {j : Nat} (hj : j < t1.length) :
  xF K A { nx := fun _ H' => Q .non H', rt := Q } [some (.ref a), some (.int w), some (.ref B), some (.ref D), some (.ref f), some (.int (c : Int)), some (.int (p : Int)), some (.ref W), x8, some (.ref P), some (.ref M1), some (kV mk), some (.ref P2), some (.int (j : Int)), x14, x15, x16, x17] H := by
 have tl60 := l.p1.tl
 have ll := l.l1
 refine Sel.dec (fun hw => ?_) (fun hw => wg hq l (by omega) w3 hs)
 have hw : w < 2 := hw
 obtain ⟨rfl, rfl⟩ := hp hw
 refine ⟨f, b, W, P2, T2, .pla D none, c, aQ c p, ks2, e2, g, n, j, rfl, l.p2, l.hW, by omega, fun M3 ps3 t3 g1 H1 kb1 s1 sub1 hMn nM hM pk npb tl sz eq => ?_⟩
 have l1 := l.kb kb1 s1 sub1 (by omega)
 obtain ⟨r, t, rfl⟩ := gF.last tl
 obtain ⟨qs, pl, rfl, pk'⟩ := fm pk
 obtain ⟨hpl, okl⟩ := eA (dk pk') pk'
 rw [List.map_append] at hM
 obtain ⟨to, hto⟩ : ∃ to, t1[j]? = some to := ⟨_, List.getElem?_eq_getElem hj⟩
 obtain ⟨po, hpo, hpo2, oko⟩ := rF l1.k1 hto
 refine dH hM (ixL (j := j) l1.m1 rfl (by rw [List.getElem?_map, hpo]; rfl) ?_)
 refine ⟨f, b, D, pl, po, t, to, g1, n + 70, rfl, s1, by omega, hpl, hpo2, okl, oko, fun al g2 H2 kD s2 sub2 => ?_⟩
 have hD := s1.plaD
 have kt : ∀ x xs, H1 x = some (.tup xs) → H2 x = some (.tup xs) := fun x xs ex => kD _ _ (bN ex hD (fun z => nomatch z)) ex
 have kl : ∀ x xs, H1 x = some (.lst xs) → H2 x = some (.lst xs) := fun x xs ex => kD _ _ (bN ex hD (fun z => nomatch z)) ex
 have pp : ∀ {P T : Addr} {ks : List Key} {e : Key}, bx A H1 f b P T (.pla D none) c (aQ c p) ks e g1 (n + 70) → bx A H2 f b P T (.pla D al) c (aQ c p) ks e g2 (n + 70) := fun x => ⟨s2, x.hn, x.c1, x.c2, x.tl, x.t01, x.kl, x.ee, x.ke, ⟨kt _ _ x.w.hP, kt _ _ x.w.hT⟩⟩
 exact wg hq ⟨pp l1.p1, pp l1.p2, l1.lt, kl _ _ l1.hW, kl _ _ l1.m1, l1.k1.keep kt, l1.l1, dZ l1.q1 sub2, l1.om, fun h eh => l1.em h (Ext.of sub2 eh)⟩ (by omega) w3 fun h => by omega
end Rs
namespace Rs
open PySem PySem.Spec PyProof.Rows L2
variable {K : W.Frag} {mg : Str → Option Value} {A : Adr}
theorem yw (K : W.Frag) (A : Adr) : Ln (mn K A) 1 := by rintro vs H Q E ⟨a, ns, rfl, _⟩; rfl
theorem AR (T : Txt K mg A) : Rd (mn K A) (Dn K A) ["_law_script", "_law_way_here", "_law_known", "_law_alias", "_law_stamper_here", "_law_count", "_law_place", "_law_turns", "_law_marks", "_law_one", "_law_ahead", "_law_mark", "_law_other", "_law_height", "_law_behind", "_law_came", "_law_told_here", "_law_terms"] := by
 intro vs H Q E h
 obtain ⟨a, ns, rfl, hs, l63, ⟨tw, twr, tc, tp, nd⟩, q⟩ := h
 have hsq : ∀ H', (∀ o, H a = some o → (∀ ps, o ≠ .tbl ps) → H' a = some o) → SqL K H' a (ns.map V.int) := by
   intro H' k
   rcases hs with (h | ⟨o, h⟩) | h
   · exact .inl (.inl (k _ h (fun _ z => nomatch z)))
   · exact .inl (.inr ⟨o, k _ h (fun _ z => nomatch z)⟩)
   · exact .inr h
 refine ⟨a, ns, 0, rfl, hs, by decide, fun z0 => ⟨by decide, .inr fun B hB => .inr fun D hD => ?_⟩⟩
 have SB : au H (upd (upd H B (.dT [])) D (.dT [])) := (au.upd hB).trans (au.upd hD)
 have BD : B ≠ D := Ne.symm (dc hD).1
 have hDH : H D = none := (dc hD).2
 have hB1 : upd (upd H B (.dT [])) D (.dT []) B = some (.dT []) := au.upd hD _ _ am
 have hD1 : upd (upd H B (.dT [])) D (.dT []) D = some (.dT []) := am
 generalize upd (upd H B (.dT [])) D (.dT []) = H1 at SB hB1 hD1
 have w0 : 0 ≤ z0 % 4 := by omega
 have w3 : z0 % 4 ≤ 3 := by omega
 generalize z0 % 4 = w at w0 w3
 refine ⟨a, ns, 0, rfl, hsq H1 fun o h _ => SB _ _ h, by decide, fun z0' => ⟨⟨by decide, by decide⟩, ?_⟩⟩
 refine ⟨w, _, B, D, rfl, ⟨SB _ _ tw, SB _ _ twr, SB _ _ tc, SB _ _ tp, nd⟩, hB1, hD1, BD, w0, w3, fun f b d g H2 kn s hb hsu hpla => ?_⟩
 have ka2 : ∀ o, H a = some o → (∀ ps, o ≠ .tbl ps) → H2 a = some o := fun o h nt => kn _ _ (SB _ _ h) nt
 have nab : ∀ o, H a = some o → a ≠ b := fun o h => by
   rcases hb with rfl | hb
   · exact aq h hB
   · exact aq (SB _ _ h) hb
 refine ⟨a, ns, 1, rfl, hsq H2 ka2, by decide, fun z1 => ⟨z1, rfl, fun c c1 c2 => ?_⟩⟩
 refine ⟨a, ns, 2, rfl, hsq H2 ka2, by decide, fun z2 => ⟨by omega, ?_⟩⟩
 have r0 := Int.emod_nonneg z2 (b := (c : Int)) (by omega)
 have r1 := Int.emod_lt_of_pos z2 (b := (c : Int)) (by omega)
 obtain ⟨p, hp⟩ := Int.eq_ofNat_of_zero_le r0
 rw [hp]
 have lt : p < c := by omega
 refine ⟨p, c, rfl, lt, by omega, fun W hW => ?_⟩
 have SW : au H2 (upd H2 W (.lst ((aQ c p).map V.int))) := au.upd hW
 have hW3 : upd H2 W (.lst ((aQ c p).map V.int)) W = some (.lst ((aQ c p).map V.int)) := am
 generalize upd H2 W (.lst ((aQ c p).map V.int)) = H3 at SW hW3
 have tl60 : (aQ c p).length ≤ 60 := jm 60 p c
 have ka3 : ∀ o, H a = some o → (∀ ps, o ≠ .tbl ps) → H3 a = some o := fun o h nt => SW _ _ (ka2 o h nt)
 refine .inl (.inl ⟨_, SqL.of hW3, _, rfl, by omega, by rw [List.length_map]; omega, fun C hC => ?_⟩)
 have hn : ((((aQ c p).map V.int).length : Nat) : Int).toNat = (aQ c p).length := by simp
 rw [hn]
 refine fe (cG.range (lo := 0) (n := (aQ c p).length)) (fun i ys H' => ∃ es : List Key, ys = es.map kV ∧ es.length = i ∧ (∀ e ∈ es, enK e) ∧ H' C = some (.lst ys) ∧ au H3 H')
   (fun _ _ _ _ _ => trivial) ⟨[], rfl, rfl, (fun _ h => nomatch h), am, au.upd hC⟩ (fun i ys H5 hi h => ?_) (fun ys H5 h => ?_)
 · obtain ⟨es, e1, e2, e3, e4, S⟩ := h
   refine nk ⟨a, ns, _, rfl, hsq H5 fun o h nt => S _ _ (ka3 o h nt), by omega, fun zz => ⟨xW (by decide) (by decide), _, rfl, fun e H6 S6 en => ⟨S6 _ _ e4, ?_, CWd.next hi ⟨es ++ [e], by rw [e1, List.map_append]; rfl, by rw [List.length_append, e2]; rfl, fun x hx => ?_, am, fun z o h => ?_⟩⟩⟩⟩
   · rw [e1, List.length_map, e2]; exact bW (by omega)
   · rcases List.mem_append.mp hx with h | h
     · exact e3 x h
     · rw [List.mem_singleton.mp h]; exact en
   · rw [aj (aq h hC)]; exact S6 _ _ (S _ _ h)
 obtain ⟨ks, rfl, kl, ke, hC5, S5⟩ := h
 have ka5 : ∀ o, H a = some o → (∀ ps, o ≠ .tbl ps) → H5 a = some o := fun o h nt => S5 _ _ (ka3 o h nt)
 refine ⟨a, ns, 3, rfl, hsq H5 ka5, by decide, fun z3 => ⟨z3, rfl, fun e H6 S6 ee => ⟨C, _, rfl, .inl ⟨SqL.of (S6 _ _ hC5), fun TT hTT => ⟨aD (show 2 ≤ 1000000 by decide), fun P hP => ?_⟩⟩⟩⟩⟩
 have S7 : au H6 (upd (upd H6 TT (.tup (ks.map kV))) P (.tup [kV e, .ref TT])) := (au.upd hTT).trans (au.upd hP)
 have w7 : dO (upd (upd H6 TT (.tup (ks.map kV))) P (.tup [kV e, .ref TT])) P TT e ks := ⟨am, au.upd hP _ _ am⟩
 generalize upd (upd H6 TT (.tup (ks.map kV))) P (.tup [kV e, .ref TT]) = H7 at S7 w7
 have S27 : au H2 H7 := SW.trans (S5.trans (S6.trans S7))
 have hW7 := S7 _ _ (S6 _ _ (S5 _ _ hW3))
 have ka7 : ∀ o, H a = some o → (∀ ps, o ≠ .tbl ps) → H7 a = some o := fun o h nt => S7 _ _ (S6 _ _ (ka5 o h nt))
 have p7 : bx A H7 f b P TT d c (aQ c p) ks e g 0 := ⟨s.same (Nat.le_refl _) S27, by omega, c1, c2, tl60, jS 60 p c, kl, ee, ke, w7⟩
 refine .inl (.inl ⟨_, SqL.of hW7, ?_⟩)
 rw [List.length_map]
 refine ⟨f, b, W, P, TT, d, c, aQ c p, ks, e, g, 0, (aQ c p).length + 1, rfl, p7, hW7, Nat.le_refl _, fun M1 ps1 t1 g8 H8 kb8 s8 sub8 hMn nM hM pk npb tl sz eq => ?_⟩
 have p8 := p7.kb kb8 s8 (by omega)
 have hW8 := kb8.obj p7.s.bb hW7 (fun _ z => nomatch z)
 have ka8 : ∀ o, H a = some o → (∀ ps, o ≠ .tbl ps) → H8 a = some o := fun o h nt => kb8 _ _ (nab o h) (ka7 o h nt)
 obtain ⟨r, t, rfl⟩ := gF.last tl
 obtain ⟨qs, pl, rfl, pk'⟩ := fm pk
 obtain ⟨hpl, okl⟩ := eA (dk pk') pk'
 have hM' := hM
 rw [List.map_append] at hM'
 refine ⟨f, rfl, s8.clo, dH hM' ?_⟩
 dsimp only [ag]
 refine dL s8 (by omega) hpl okl fun mk H9 g9 kb9 s9 sub9 gv st => ?_
 have szt := sz t (by simp)
 have p9 := p8.kb kb9 s9 (by omega)
 have hW9 := kb9.obj s8.bb hW8 (fun _ z => nomatch z)
 have hM9 := kb9.obj s8.bb hM (fun _ z => nomatch z)
 have pk9 := pk.keep (aY.tup s8 kb9)
 have ka9 : ∀ o, H a = some o → (∀ ps, o ≠ .tbl ps) → H9 a = some o := fun o h nt => kb9 _ _ (nab o h) (ka8 o h nt)
 refine ⟨a, ns, 4, rfl, hsq H9 ka9, by decide, fun z4 => ⟨by decide, a, ns, 4, rfl, hsq H9 ka9, by decide, fun z4' => ⟨⟨by decide, by decide⟩, _, _, P, TT, e, ks, rfl, p9.w, ee, ke, by omega, fun P2 T2 e2 ks2 H10 S10 w2 ee2 ke2 kl2 => ?_⟩⟩⟩
 have p10 := p9.same S10
 have ka10 : ∀ o, H a = some o → (∀ ps, o ≠ .tbl ps) → H10 a = some o := fun o h nt => S10 _ _ (ka9 o h nt)
 refine ⟨a, ns, 5, rfl, hsq H10 ka10, by decide, fun z5 => .inl (.inl ⟨_, SqL.of (S10 _ _ hM9), ?_⟩)⟩
 rw [List.length_map, de pk9, tl]
 have v0 := Int.emod_nonneg z5 (b := (((aQ c p).length + 2 : Nat) : Int)) (by omega)
 have v1 := Int.emod_lt_of_pos z5 (b := (((aQ c p).length + 2 : Nat) : Int)) (by omega)
 obtain ⟨j, hj⟩ := Int.eq_ofNat_of_zero_le v0
 refine ⟨by omega, ?_⟩
 rw [hj]
 refine CV q ⟨p10, ⟨p10.s, p10.hn, c1, c2, tl60, jS 60 p c, by omega, ee2, ke2, w2⟩, lt, S10 _ _ hW9, S10 _ _ hM9, pk9.keep (fun x xs ex => S10 _ _ ex), tl, dZ eq sub9, iP st (by omega), fun h eh => by
   rw [← fz eq (Ext.of sub9 eh), eh _ _ gv]⟩ (by omega) w3 hsu hpla (j := j) (by rw [tl]; omega)
end Rs
namespace Rs
open PySem PySem.Spec PyProof.Rows L2
structure TP (P : Program) (w : World) (K : W.Frag) (mg : Str → Option Value) (base : Heap) (A : Adr) : Prop extends Txt K mg A where
 B : BM mg base
 C_19 : W.CodeHd base A.k_19 A.t_19
 C_41 : W.CodeHd base A.k_41 A.t_41
 C_24 : W.CodeHd base A.k_24 A.t_24
 C_12 : W.CodeHd base A.k_12 A.t_12
variable {P : Program} {w : World} {K : W.Frag} {mg : Str → Option Value} {base : Heap} {A : Adr} (T : TP P w K mg base A)
include T
theorem mh : aU P w K mg base (CX1 P w) 1 A.a_33 A.d_33 ["thing"] (gt K A) :=
 T.f_33.f.okS Bn (yz K A) (Bt T.1) fun _ _ _ _ _ _ hr =>
 ap (ay (dC (aI dG T.z_isinstance boot_isinstance (ae (aa 0) (ae (dD T.z_int boot_int) (af)))) (fF (CZ (aI dG T.z_isinstance boot_isinstance (ae (aa 0) (ae (dD T.z_bool boot_bool) (af))))))))
theorem mt : aU P w K mg base (CX1 P w) 2 A.a_31 A.d_31 ["thing"] (gA K A) :=
 T.f_31.f.okS Bi (yL K A) (AV T.1) fun _ _ _ _ _ _ hr =>
 ao (aP (bB (aN (mh T) hr.le T.f_33 (ae (aa 0) (af)))) (ap (ay (kB oLe oLt (ak) (aa 0) (ax uF (ak) (ak))))) (aJ)) (ap (ay (aI dG T.z_isinstance boot_isinstance (ae (aa 0) (ae (dD T.z_str boot_str) (af))))))
theorem vS : aU P w K mg base (CX1 P w) 3 A.a_32 A.d_32 ["thing"] (jE K A) :=
 T.f_32.f.okS AC (yS K A) (BW T.1) fun _ _ _ _ _ _ hr =>
 ao (aP (cB (bB (aI dG T.z_isinstance boot_isinstance (ae (aa 0) (ae (dD T.z_tuple boot_tuple) (af)))))) (ap (ay (dm))) (aJ)) (ao (aP (cB (vp oLe oLe (ak) (aI bO T.z_len PySem.boot_len (ae (aa 0) (af))) (DC T.c_MOST_PARTS))) (ap (ay (dm))) (aJ)) (ap (ay (dC (aI dG T.z_isinstance boot_isinstance (ae (bg (aM hr.units1) (aa 0) (ak) (fun _ _ => rfl)) (ae (dD T.z_str boot_str) (af)))) (fF (aI (Ag rfl) T.z_all L2.sx (ae (iC (ys := []) (by exact ⟨rfl, by decide +kernel, by decide +kernel, rfl, by decide +kernel, by decide +kernel⟩) (by exact .nil) (fW (aa 0)) (fun C s H fp => gY) (fun C s H fp => (aN (mt T) hr.le T.f_31 (ae (aa 0) (af))))) (af))))))))
theorem Bf : aU P w K mg base (CX1 P w) 2 A.a_36 A.d_36 ["part"] (lK K A) :=
 T.f_36.f.okS wm (yi K A) (CM T.1) fun _ _ _ _ _ _ hr =>
 ao (aP (bB (aN (mh T) hr.le T.f_33 (ae (aa 0) (af)))) (ap (ay (rH (.cons (qq (aa 0)) (.cons (bM) (.nil)))))) (aJ)) (ao (aK 1 wm.nd (aI bO T.z_len PySem.boot_len (ae (aa 0) (af)))) (ap (ay (rH (.cons (qq (aa 1)) (.cons (bM) (.cons (qq (aa 0)) (.nil))))))))
theorem AO : aU P w K mg base (CX1 P w) 4 A.a_43 A.d_43 ["term"] (jH K A) :=
 T.f_43.f.okS BS (yK K A) (CF T.1) fun _ _ _ _ _ _ hr =>
 ao (aP (cB (bB (aN (vS T) hr.le T.f_32 (ae (aa 0) (af))))) (ap (fV)) (aJ)) (ap (ay (eD PySem.F.plainAttrs_str PySem.F.slot_str_join PySem.F.type_str_join oS (bM) (ae (iC (ys := []) (by exact ⟨rfl, by decide +kernel, by decide +kernel, rfl, by decide +kernel, by decide +kernel⟩) (by exact .nil) (fW (aa 0)) (fun C s H fp => gY) (fun C s H fp => (aN (Bf T) hr.le T.f_36 (ae (aa 0) (af))))) (af)))))
theorem AG (f c : Addr) (cl : List (Str × Addr)) (Ar : Around) (outer : List Env) (s : Shared) (H : Hp) (E : XK)
  (hr : ba 4 (Ar.deeper (W.envX eJ.qual eJ.scope s.heap.objs.size f (.ref c) cl))) : PE (fB P w K mg base ["term"] eJ.qual eJ.scope f c cl Ar outer s H E).nox (iR tV) (Aw K A) := QE.out (
 aN (AO T) hr.le T.f_43 (ae (aa 0) (af)))
theorem Bx : eF P w K mg base 5 eJ (pX K A) :=
 oA rfl CI (fun f c cl Ar outer s H vs cvs Q E hr hl hc h => by
  obtain ⟨a0, rfl⟩ := L2.dA hl
  obtain rfl := L2.pS hc
  exact ⟨_, (AG T f c cl Ar outer s H E hr).nox, AY T.1 a0 H Q E h⟩)
theorem DN : aU P w K mg base (CX1 P w) 4 A.a_2 A.d_2 ["self", "term"] (pQ K A) :=
 T.f_2.okS DZ (AF K A) (DE T.1) fun _ _ _ _ _ _ hr =>
 ao (aP (cB (bB (aN (vS T) hr.le T.f_32 (ae (aa 1) (af))))) (ap (fV)) (aJ)) (ao (aP (aH (iI hr.units150) (aa 1) (lX (aa 0))) (ap (mU hr.units1 (lX (aa 0)) (aa 1) (aI bO T.z_len PySem.boot_len (ae (lX (aa 0)) (af))))) (aJ)) (ap (ay (bg (aM hr.units1) (lX (aa 0)) (aa 1) (fun _ _ => rfl)))))
theorem Cg (f c : Addr) (cl : List (Str × Addr)) (Ar : Around) (outer : List Env) (s : Shared) (H : Hp) (E : XK)
  (hr : ba 4 (Ar.deeper (W.envX fb.qual fb.scope s.heap.objs.size f (.ref c) cl))) : PE (fB P w K mg base ["term", "numbers"] fb.qual fb.scope f c cl Ar outer s H E).nox (iR uj) (Az K A) := QE.out (
 xq (aa 1) T.cl_Numbers T.me_Numbers_number_of (DN T) hr.le T.b_2 cM (ae (aa 0) (af)))
theorem Cl : eF P w K mg base 5 fb (pq K A) :=
 oA rfl CY (fun f c cl Ar outer s H vs cvs Q E hr hl hc h => by
  obtain ⟨a0, rfl⟩ := L2.dA hl
  obtain ⟨b0, rfl⟩ := L2.dA hc
  exact ⟨_, (Cg T f c cl Ar outer s H E hr).nox, CH T.1 a0 b0 H Q E h⟩)
theorem CT (f c : Addr) (cl : List (Str × Addr)) (Ar : Around) (outer : List Env) (s : Shared) (H : Hp) (E : XK)
  (hr : ba 0 (Ar.deeper (W.envX eR.qual eR.scope s.heap.objs.size f (.ref c) cl))) : PSs (fB P w K mg base ["_law_term", "_law_total", "_law_part", "_law_many"] eR.qual eR.scope f c cl Ar outer s H E).nox (aL tR) (An K A) := QSs.out (
 ao (aK 1 jL.nd (aI bO T.z_len PySem.boot_len (ae (aa 0) (af)))) (ao (lV 2 jL.nd (fW (aa 0)) (ap (aP (bB (aI dG T.z_isinstance boot_isinstance (ae (aa 2) (ae (dD T.z_str boot_str) (af))))) (ap (aK 1 jL.nd (ax bz (ax iV (ak) (aa 1)) (aI bO T.z_len PySem.boot_len (ae (aa 2) (af)))))) (ap (aK 1 jL.nd (ax bz (ax iV (ak) (aa 1)) (aa 2)))))) PassesOwn.never) (ap (ay (ax cp (aa 1) (aa 3))))))
theorem Cm : eF P w K mg base 1 eR (pI K A) :=
 rV rfl jL (fun f c cl Ar outer s H vs cvs Q E hr hl hc h => by
  obtain ⟨a0, rfl⟩ := L2.dA hl
  obtain ⟨b0, rfl⟩ := L2.dA hc
  exact ⟨_, (CT T f c cl Ar outer s H E hr).nox, AS T.1 a0 b0 H Q E h⟩)
theorem AH (f c : Addr) (cl : List (Str × Addr)) (Ar : Around) (outer : List Env) (s : Shared) (H : Hp) (E : XK)
  (hr : ba 0 (Ar.deeper (W.envX eZ.qual eZ.scope s.heap.objs.size f (.ref c) cl))) : PSs (fB P w K mg base ["_law_term", "_law_step", "_law_known", "_law_alias"] eZ.qual eZ.scope f c cl Ar outer s H E).nox (aL vh) (Av K A) := QSs.out (
 ap (ay (eD PySem.F.plainAttrs_dict PySem.F.slot_dict_setdefault PySem.F.type_dict_setdefault (kJ hr.units1) (aa 2) (ae (eD PySem.F.plainAttrs_dict PySem.F.slot_dict_get PySem.F.type_dict_get (wG hr.units1) (aa 3) (ae (aa 0) (ae (aa 0) (af)))) (ae (ax bz (ax iV (aa 1) (aI bO T.z_len PySem.boot_len (ae (aa 2) (af)))) (ak)) (af))))))
theorem Cp : eF P w K mg base 1 eZ (qC K A) :=
 rV rfl Bu (fun f c cl Ar outer s H vs cvs Q E hr hl hc h => by
  obtain ⟨a0, rfl⟩ := L2.dA hl
  obtain ⟨b0, b1, b2, rfl⟩ := L2.pY hc
  exact ⟨_, (AH T f c cl Ar outer s H E hr).nox, BY T.1 a0 b0 b1 b2 H Q E h⟩)
theorem gr : aU P w K mg base (CX1 P w) 1 A.a_3 A.d_3 ["_law_script", "_law_k"] (eP K A) :=
 T.f_3.f.okS Ew (BP K A) (DO T.1) fun _ _ _ _ _ _ hr =>
 ao (aP (aH oLt (aa 1) (aI bO T.z_len PySem.boot_len (ae (aa 0) (af)))) (ap (ay (bg (aM hr.units1) (aa 0) (aa 1) (fun _ _ => rfl)))) (aJ)) (ap (ay (ak)))
theorem Be (B : BM mg base) (C : W.CodeHd base A.k_19 A.t_19) (Ar : Around) (outer : List Env) (s : Shared) (H : Hp) (E : XK)
  (hr : ba 0 (Ar.deeper (envOfC "_law_weak" (ai ji) s.heap.objs.size A.a_19 (.ref A.k_19)))) : QMs (cI (CX1 P w) P w K mg base ["_law_many", "_law_stamp"] "_law_weak" (ai ji) A.a_19 (.ref A.k_19) Ar outer s H E).nox (aL ji) (zo K A (s.heap.objs.size + 1)) := (
 mO (mY (wb 1 wf.nd B C rfl (by rfl) (by simp <;> omega) rfl rfl rfl rfl (fun _ _ _ _ _ us hl => by obtain ⟨_, rfl⟩ := L2.dA hl; rfl))) (mi (ml (aa 1))))
theorem Bv : aU P w K mg base (CX1 P w) 1 A.a_19 A.d_19 ["_law_many"] (lQ K A) :=
 T.f_19.f.okM (caps := fun L => [(0, L + 1)]) T.kc_19 wf (At K A) (fun L p hp => by simp only [List.mem_cons, List.not_mem_nil, or_false] at hp; rcases hp with rfl <;> exact ⟨_, rfl, rfl, rfl⟩) (fun L => by simp) (fun Ar outer s H vs Q E hr h => ⟨_, QMs.nox (Be T T.B T.C_19 Ar outer s H E hr), BO T.1 (s.heap.objs.size + 1) (by simp) vs H Q E h⟩)
theorem CL (B : BM mg base) (C : W.CodeHd base A.k_41 A.t_41) (Ar : Around) (outer : List Env) (s : Shared) (H : Hp) (E : XK)
  (hr : ba 0 (Ar.deeper (envOfC "writing" (ai jp) s.heap.objs.size A.a_41 (.ref A.k_41)))) : QMs (cI (CX1 P w) P w K mg base [] "writing" (ai jp) A.a_41 (.ref A.k_41) Ar outer s H E).nox (aL jp) (yq K A) := (
 mi (ml (vM B C rfl (by rfl) (by simp <;> omega) rfl rfl rfl rfl (fun _ _ _ _ us hl => by obtain ⟨_, rfl⟩ := L2.dA hl; rfl))))
theorem Cv : aU P w K mg base (CX1 P w) 1 A.a_41 A.d_41 [] (mm K A) :=
 T.f_41.f.okM (caps := fun L => []) T.kc_41 BH (yf K A) (fun L p hp => nomatch hp) (fun L => by simp) (fun Ar outer s H vs Q E hr h => ⟨_, QMs.nox (CL T T.B T.C_41 Ar outer s H E hr), Cf T.1 (by simp) vs H Q E h⟩)
theorem DI : aU P w K mg base (CX1 P w) 1 A.a_1 A.d_1 ["self"] (qM K A) :=
 T.f_1.okS Ev (BU K A) (DB T.1) fun _ _ _ _ _ _ hr =>
 ap (ve (aa 0) (iX))
theorem BJ (B : BM mg base) (C : W.CodeHd base A.k_24 A.t_24) (Ar : Around) (outer : List Env) (s : Shared) (H : Hp) (E : XK)
  (hr : ba 2 (Ar.deeper (envOfC "counting" (ai jh) s.heap.objs.size A.a_24 (.ref A.k_24)))) : QMs (cI (CX1 P w) P w K mg base ["numbers"] "counting" (ai jh) A.a_24 (.ref A.k_24) Ar outer s H E).nox (aL jh) (zk K A (s.heap.objs.size + 1)) := (
 mO (mY (aK 0 wq.nd (uh T.mk_Numbers (DI T) hr.le T.mc_Numbers T.b_1 cM))) (mi (ml (vM B C rfl (by rfl) (by simp <;> omega) rfl rfl rfl rfl (fun _ _ _ _ us hl => by obtain ⟨_, rfl⟩ := L2.dA hl; rfl)))))
theorem Cq : aU P w K mg base (CX1 P w) 3 A.a_24 A.d_24 [] (mq K A) :=
 T.f_24.f.okM (caps := fun L => [(0, L + 1)]) T.kc_24 wq (yE K A) (fun L p hp => by simp only [List.mem_cons, List.not_mem_nil, or_false] at hp; rcases hp with rfl <;> exact ⟨_, rfl, rfl, rfl⟩) (fun L => by simp) (fun Ar outer s H vs Q E hr h => ⟨_, QMs.nox (BJ T T.B T.C_24 Ar outer s H E hr), Bz T.1 (s.heap.objs.size + 1) (by simp) vs H Q E h⟩)
theorem Ch (B : BM mg base) (C : W.CodeHd base A.k_12 A.t_12) (Ar : Around) (outer : List Env) (s : Shared) (H : Hp) (E : XK)
  (hr : ba 0 (Ar.deeper (envOfC "_law_planted" (ai jt) s.heap.objs.size A.a_12 (.ref A.k_12)))) : QMs (cI (CX1 P w) P w K mg base ["_law_known", "_law_alias", "_law_step", "_law_stamp"] "_law_planted" (ai jt) A.a_12 (.ref A.k_12) Ar outer s H E).nox (aL jt) (yH K A (s.heap.objs.size + 1) (s.heap.objs.size + 1 + 1) (s.heap.objs.size + 1 + 1 + 1)) := (
 mO (mY (wb 3 wd.nd B C rfl (by rfl) (by simp <;> omega) rfl rfl rfl rfl (fun _ _ _ _ _ us hl => by obtain ⟨_, rfl⟩ := L2.dA hl; rfl))) (mi (ml (aa 3))))
theorem Cw : aU P w K mg base (CX1 P w) 1 A.a_12 A.d_12 ["_law_known", "_law_alias", "_law_step"] (lT K A) :=
 T.f_12.f.okM (caps := fun L => [(0, L + 1), (1, L + 1 + 1), (2, L + 1 + 1 + 1)]) T.kc_12 wd (zr K A) (fun L p hp => by simp only [List.mem_cons, List.not_mem_nil, or_false] at hp; rcases hp with rfl | rfl | rfl <;> exact ⟨_, rfl, rfl, rfl⟩) (fun L => by simp) (fun Ar outer s H vs Q E hr h => ⟨_, QMs.nox (Ch T T.B T.C_12 Ar outer s H E hr), Bh T.1 (s.heap.objs.size + 1) (s.heap.objs.size + 1 + 1) (s.heap.objs.size + 1 + 1 + 1) (by simp) vs H Q E h⟩)
theorem CQ : aU P w K mg base (CX1 P w) 4 A.a_15 A.d_15 ["_law_way_here", "_law_cell", "_law_known", "_law_alias"] (lH K A) :=
 T.f_15.f.okS BB (zy K A) (CN T.1) fun _ _ _ _ _ _ hr =>
 ao (aP (aH (bH hr.units150) (aa 0) (ak)) (ap (ay (aN (Bv T) hr.le T.f_19 (ae (ax bz (ak) (ax cp (aa 1) (ak))) (af))))) (aJ)) (ao (aP (x_w (nw (aH (bH hr.units150) (aa 0) (ak)) (kq (aH (bH hr.units150) (ax cp (aa 1) (ak)) (ak))))) (ap (ay (my (Cv T) hr.le T.f_41.m T.f_41.f.kp T.f_41.b cM))) (aJ)) (ao (aP (x_w (nw (aH (bH hr.units150) (aa 0) (ak)) (kq (aH (bH hr.units150) (ax cp (aa 1) (ak)) (ak))))) (ap (ay (my (Cq T) hr.le T.f_24.m T.f_24.f.kp T.f_24.b cM))) (aJ)) (ap (ay (aN (Cw T) hr.le T.f_12 (ae (aa 2) (ae (aa 3) (ae (ax bz (ak) (ax cp (aa 1) (ak))) (af)))))))))
theorem DL : aU P w K mg base (CX1 P w) 1 A.a_6 A.d_6 ["_law_cell"] (pT K A) :=
 T.f_6.f.okS Dz (Cz K A) (Eo T.1) fun _ _ _ _ _ _ hr =>
 ao (aP (aH (bH hr.units150) (ax cp (aa 0) (ak)) (ak)) (ap (ay (ax bz (ak) (ax cp (ax cE (aa 0) (ak)) (ak))))) (aJ)) (ao (aP (aH (bH hr.units150) (ax cp (aa 0) (ak)) (ak)) (ap (ay (ax fH (ax bz (ax mV (ak) (ax bz (ak) (ax cp (ax cE (aa 0) (ak)) (ak)))) (ax cp (ax cE (aa 0) (ak)) (ak))) (ak)))) (aJ)) (ap (ay (ax bz (ak) (ax cp (ax cE (aa 0) (ak)) (ax fH (ax mV (ak) (ak)) (ak)))))))
theorem Bo : aU P w K mg base (CX1 P w) 1 A.a_18 A.d_18 ["_law_place", "_law_many"] (lY K A) :=
 T.f_18.f.okS gm (zB K A) (AA T.1) fun _ _ _ _ _ _ hr =>
 ao (aK 2 gm.nd (iK (af))) (ao (aK 3 gm.nd (ax mV (ak) (ak))) (ao (ku (aH oGt (aa 1) (ak)) (ao (ku (aH oGe (aa 3) (aa 1)) (ap (aK 3 gm.nd (ax cE (aa 3) (ak)))) PassesOwn.never) (ao (da (eD PySem.F.plainAttrs_list PySem.F.slot_list_append PySem.F.type_list_append cA (aa 2) (ae (ju Ab T.z_int L2.rJ (ae (fE oGe (aa 0) (aa 3)) (af))) (af)))) (ap (aP (aH oGe (aa 0) (aa 3)) (ao (aK 0 gm.nd (ax fH (aa 0) (aa 3))) (ap (aK 1 gm.nd (ax fH (aa 1) (aa 3))))) (ap (aK 1 gm.nd (aa 3))))))) PassesOwn.never) (ap (ay (aa 2)))))
theorem Ck : aU P w K mg base (CX1 P w) 1 A.a_16 A.d_16 ["_law_cell"] (mr K A) :=
 T.f_16.f.okS pA (Ae K A) (Bq T.1) fun _ _ _ _ _ _ hr =>
 ao (aK 1 pA.nd (bM)) (ao (aK 1 pA.nd (ax bz (aa 1) (bM))) (ap (ay (eD PySem.F.plainAttrs_str PySem.F.slot_str_join PySem.F.type_str_join oS (bM) (ae (iC (ys := ["_law_cell", "_law_some"]) (by exact ⟨rfl, by decide +kernel, by decide +kernel, rfl, by decide +kernel, by decide +kernel⟩) (by exact .cons rfl (by first | exact .inl rfl | exact .inr rfl) rfl (.cons rfl (by first | exact .inl rfl | exact .inr rfl) rfl (.nil))) (jo T.z_range (ae (ax cp (aa 0) (ak)) (af))) (fun C s H fp => gY) (fun C s H fp => (bg (aM hr.units1) (aa 2) (ax cp (ax bz (ax cE (aa 1) (ak)) (ax iV (aa 0) (ax cp (ax cE (aa 1) (ak)) (ak)))) (ak)) (fun _ _ => rfl)))) (af))))))
theorem mf : aU P w K mg base (CX1 P w) 2 A.a_14 A.d_14 ["_law_cell"] (fG K A) :=
 T.f_14.f.okS CU (yd K A) (CG T.1) fun _ _ _ _ _ _ hr =>
 ao (aP (aH (bH hr.units150) (ax cp (aa 0) (ak)) (ak)) (ap (ay (aN (Ck T) hr.le T.f_16 (ae (ax cE (aa 0) (ak)) (af))))) (aJ)) (ao (aP (aH (bH hr.units150) (ax cp (aa 0) (ak)) (ak)) (ap (ay (ax cp (ax cE (aa 0) (ak)) (ax uF (ak) (ak))))) (aJ)) (ap (ay (ax cp (ax cE (aa 0) (ak)) (ak)))))
theorem dz : oR P w K mg base 5 (dq K A) := fun ts hts => by
 simp only [dq, List.mem_cons, List.not_mem_nil, or_false] at hts
 rcases hts with rfl | rfl | rfl | rfl
 · exact (Bx T).mono (by decide)
 · exact (Cl T).mono (by decide)
 · exact (Cm T).mono (by decide)
 · exact (Cp T).mono (by decide)
theorem sQ : aU P w K mg base (CX1 P w) 6 A.a_5 A.d_5 ["_law_stamper_here", "_law_count", "_law_turns", "_law_paper", "_law_height"] (ik K A) :=
 T.f_5.f.okS pR (Br K A) (Eg T.1) fun _ _ _ _ _ _ hr =>
 ao (aK 5 pR.nd (iK (ae (bC (ae (bM) (ae (bg (aM hr.units1) (aa 3) (ak) (fun _ _ => rfl)) (af)))) (af)))) (ao (lV 6 pR.nd (jo T.z_range (ae (aa 4) (af))) (ao (aK 7 pR.nd (dv (dz T) hr.le cM (aa 0) (ae (bg (aM hr.units1) (aa 5) (dN (ak)) (fun _ _ => rfl)) (af)))) (ap (aP (aH (bH hr.units150) (aa 6) (aI bO T.z_len PySem.boot_len (ae (aa 2) (af)))) (ap (da (eD PySem.F.plainAttrs_list PySem.F.slot_list_append PySem.F.type_list_append cA (aa 5) (ae (bC (ae (bM) (ae (aa 1) (ae (aa 7) (af))))) (af))))) (ap (aP (aH (bH hr.units150) (bg (aM hr.units1) (aa 2) (ax fH (dN (ak)) (aa 6)) (fun _ _ => rfl)) (ak)) (ap (da (eD PySem.F.plainAttrs_list PySem.F.slot_list_append PySem.F.type_list_append cA (aa 5) (ae (bC (ae (bM) (ae (bg (aM hr.units1) (bg (aM hr.units1) (aa 3) (ak) (fun _ _ => rfl)) (ax fH (dN (ak)) (aa 6)) (fun _ _ => rfl)) (ae (aa 7) (af))))) (af))))) (ap (da (eD PySem.F.plainAttrs_list PySem.F.slot_list_append PySem.F.type_list_append cA (aa 5) (ae (bC (ae (bM) (ae (aa 7) (ae (bg (aM hr.units1) (bg (aM hr.units1) (aa 3) (ak) (fun _ _ => rfl)) (ax fH (dN (ak)) (aa 6)) (fun _ _ => rfl)) (af))))) (af)))))))))) PassesOwn.never) (ap (ay (aa 5))))
theorem qr : aU P w K mg base (CX1 P w) 1 A.a_9 A.d_9 ["_law_mark"] (iu K A) :=
 T.f_9.f.okS ED (CO K A) (Dt T.1) fun _ _ _ _ _ _ hr =>
 ao (aP (bB (aI dG T.z_isinstance boot_isinstance (ae (aa 0) (ae (dD T.z_str boot_str) (af))))) (ap (ay (ax iV (bg (aM hr.units1) (iK (ae (bM) (ae (bM) (af)))) (ju Ab T.z_int L2.rJ (ae (fE (bH hr.units150) (gj ia (aa 0) (fY) (fU (ak))) (bM)) (af))) (fun _ _ => rfl)) (aI bO T.z_len PySem.boot_len (ae (aa 0) (af)))))) (aJ)) (ap (ay (ax cp (ax bz (aa 0) (ak)) (ax uF (ak) (ak)))))
theorem Ec : aU P w K mg base (CX1 P w) 3 A.a_4 A.d_4 ["_law_kind", "_law_cell", "_law_paper"] (qf K A) :=
 T.f_4.f.okS ko (AU K A) (EA T.1) fun _ _ _ _ _ _ hr =>
 ao (zV 3 4 ko.nd rfl (aa 2)) (ao (aP (aH (bH hr.units150) (aa 0) (ak)) (ap (ay (bC (ae (aN (qr T) hr.le T.f_9 (ae (aa 3) (af))) (ae (aa 4) (af)))))) (aJ)) (ao (aP (x_w (eS (aH (bH hr.units150) (aa 0) (ak)) (fo (aH (bH hr.units150) (aI bO T.z_len PySem.boot_len (ae (aa 4) (af))) (ak))))) (ap (ay (bC (ae (aN (mf T) hr.le T.f_14 (ae (aa 1) (af))) (ae (aa 4) (af)))))) (aJ)) (ao (aP (aH (bH hr.units150) (aa 0) (ak)) (ap (ay (bC (ae (aa 3) (ae (ue T.z_tuple T.z_reversed rfl (ae (aa 4) (af))) (af)))))) (aJ)) (ao (aP (aH (bH hr.units150) (aa 0) (ak)) (ap (ay (bC (ae (aN (qr T) hr.le T.f_9 (ae (aa 3) (af))) (ae (ax bz (gj ia (aa 4) (fU (ak)) (fY)) (gj ia (aa 4) (fY) (fU (ak)))) (af)))))) (aJ)) (ao (aK 5 ko.nd (ax cp (aa 1) (aI bO T.z_len PySem.boot_len (ae (aa 4) (af))))) (ao (aK 6 ko.nd (aN (qr T) hr.le T.f_9 (ae (bg (aM hr.units1) (aa 4) (aa 5) (fun _ _ => rfl)) (af)))) (ao (aP (aH (bH hr.units150) (aa 0) (ak)) (ap (aK 6 ko.nd (aN (mf T) hr.le T.f_14 (ae (ax cE (aa 1) (ak)) (af))))) (aJ)) (ao (aP (aH (bH hr.units150) (aa 0) (ak)) (ap (aK 3 ko.nd (aN (qr T) hr.le T.f_9 (ae (aa 3) (af))))) (aJ)) (ap (ay (bC (ae (aa 3) (ae (ax bz (ax bz (gj ia (aa 4) (fY) (fU (aa 5))) (bC (ae (aa 6) (af)))) (gj ia (aa 4) (fU (ax bz (aa 5) (ak))) (fY))) (af))))))))))))))
theorem BF : aU P w K mg base (CX1 P w) 1 A.a_11 A.d_11 ["_law_known", "_law_alias", "_law_new", "_law_old"] (jA K A) :=
 T.f_11.f.okS BN (Ap K A) (Cn T.1) fun _ _ _ _ _ _ hr =>
 ap (aP (aH (iI hr.units150) (aa 2) (aa 0)) (ap (mU hr.units1 (aa 1) (aa 2) (aa 3))) (aJ))
theorem we : aU P w K mg base (CX1 P w) 2 A.a_27 A.d_27 ["thing"] (jU K A) :=
 T.f_27.f.okS AM (zI K A) (Cb T.1) fun _ _ _ _ _ _ hr =>
 ap (ay (dC (aN (mh T) hr.le T.f_33 (ae (aa 0) (af))) (fF (kB oLe oLt (ak) (aa 0) (ax mV (ak) (ak))))))
theorem Db : aU P w K mg base (CX1 P w) 3 A.a_29 A.d_29 ["count", "place"] (lW K A) :=
 T.f_29.f.okS Dg (zu K A) (Ct T.1) fun _ _ _ _ _ _ hr =>
 ap (ay (dC (aN (we T) hr.le T.f_27 (ae (aa 0) (af))) (dC (aN (mh T) hr.le T.f_33 (ae (aa 1) (af))) (fF (kB oLe oLt (ak) (aa 1) (aa 0))))))
theorem Ca : aU P w K mg base (CX1 P w) 1 A.a_26 A.d_26 ["many"] (lL K A) :=
 T.f_26.f.okS Cy (yD K A) (Ba T.1) fun _ _ _ _ _ _ hr =>
 ap (ay (ax mV (ak) (ax fH (vU PySem.F.plainAttrs_int PySem.F.slot_int_bit_length PySem.F.type_int_bit_length xG (ax fH (aa 0) (ak))) (ak))))
theorem BQ : aU P w K mg base (CX1 P w) 2 A.a_40 A.d_40 ["place", "many"] (mj K A) :=
 T.f_40.f.okS fD (yV K A) (De T.1) fun _ _ _ _ _ _ hr =>
 ao (aK 2 fD.nd (iK (af))) (ao (aK 3 fD.nd (ak)) (ao (aK 4 fD.nd (aa 1)) (ao (ku (aH oGt (aa 4) (ak)) (ao (aK 5 fD.nd (aN (Ca T) hr.le T.f_26 (ae (aa 4) (af)))) (ap (aP (aH oLt (aa 0) (ax bz (aa 3) (aa 5))) (ao (da (eD PySem.F.plainAttrs_list PySem.F.slot_list_append PySem.F.type_list_append cA (aa 2) (ae (ak) (af)))) (ap (aK 4 fD.nd (aa 5)))) (ao (da (eD PySem.F.plainAttrs_list PySem.F.slot_list_append PySem.F.type_list_append cA (aa 2) (ae (ak) (af)))) (ao (aK 3 fD.nd (ax bz (aa 3) (aa 5))) (ap (aK 4 fD.nd (ax fH (aa 4) (aa 5))))))))) PassesOwn.never) (ap (ay (aa 2))))))
theorem CA : aU P w K mg base (CX1 P w) 3 A.a_21 A.d_21 ["many", "thing"] (lO K A) :=
 T.f_21.f.okS Cj (Ay K A) (Cu T.1) fun _ _ _ _ _ _ hr =>
 ap (ay (dC (aI dG T.z_isinstance boot_isinstance (ae (aa 1) (ae (dD T.z_tuple boot_tuple) (af)))) (dC (fE (bH hr.units150) (aI bO T.z_len PySem.boot_len (ae (aa 1) (af))) (aa 0)) (fF (aI (Ag rfl) T.z_all L2.sx (ae (iC (ys := []) (by exact ⟨rfl, by decide +kernel, by decide +kernel, rfl, by decide +kernel, by decide +kernel⟩) (by exact .nil) (fW (aa 1)) (fun C s H fp => gY) (fun C s H fp => (aN (mt T) hr.le T.f_31 (ae (aa 0) (af))))) (af)))))))
theorem Cc : aU P w K mg base (CX1 P w) 4 A.a_30 A.d_30 ["turns", "thing"] (lP K A) :=
 T.f_30.f.okS By (yT K A) (BZ T.1) fun _ _ _ _ _ _ hr =>
 ao (aP (x_w (eS (cB (bB (aI dG T.z_isinstance boot_isinstance (ae (aa 1) (ae (dD T.z_tuple boot_tuple) (af)))))) (fo (aH (fA hr.units150) (aI bO T.z_len PySem.boot_len (ae (aa 1) (af))) (ak))))) (ap (ay (dm))) (aJ)) (ap (ay (dC (aN (mt T) hr.le T.f_31 (ae (bg (aM hr.units1) (aa 1) (ak) (fun _ _ => rfl)) (af))) (fF (aN (CA T) hr.le T.f_21 (ae (aI bO T.z_len PySem.boot_len (ae (aa 0) (af))) (ae (bg (aM hr.units1) (aa 1) (ak) (fun _ _ => rfl)) (af))))))))
theorem BT : aU P w K mg base (CX1 P w) 1 A.a_34 A.d_34 ["turn", "own", "aside"] (lJ K A) :=
 T.f_34.f.okS Cs (Ad K A) (BK T.1) fun _ _ _ _ _ _ hr =>
 ap (ay (El (aH (bH hr.units150) (aa 0) (ak)) (bC (ae (bM) (ae (aa 1) (ae (aa 2) (af))))) (bC (ae (bM) (ae (aa 2) (ae (aa 1) (af)))))))
theorem pM : aU P w K mg base (CX1 P w) 6 A.a_39 A.d_39 ["stamper", "count", "place", "paper"] (iT K A) :=
 T.f_39.f.okS lN (zc K A) (Bk T.1) fun _ _ _ _ _ _ hr =>
 ao (aP (cB (bB (aN (Db T) hr.le T.f_29 (ae (aa 1) (ae (aa 2) (af)))))) (ap (fV)) (aJ)) (ao (aK 4 lN.nd (aN (BQ T) hr.le T.f_40 (ae (aa 2) (ae (aa 1) (af))))) (ao (aP (cB (bB (aN (Cc T) hr.le T.f_30 (ae (aa 4) (ae (aa 3) (af)))))) (ap (fV)) (aJ)) (ao (aK 5 lN.nd (iK (ae (bC (ae (bM) (ae (bg (aM hr.units1) (aa 3) (ak) (fun _ _ => rfl)) (af)))) (af)))) (ao (lV 6 lN.nd (yI T.z_reversed (ae (sA T.z_list T.z_zip rfl (ae (aa 4) (ae (bg (aM hr.units1) (aa 3) (ak) (fun _ _ => rfl)) (af)))) (af))) (ap (da (eD PySem.F.plainAttrs_list PySem.F.slot_list_append PySem.F.type_list_append cA (aa 5) (ae (aN (BT T) hr.le T.f_34 (ae (bg (aM hr.units1) (aa 6) (ak) (fun _ _ => rfl)) (ae (dv (dz T) hr.le cM (aa 0) (ae (bg (aM hr.units1) (aa 5) (dN (ak)) (fun _ _ => rfl)) (af))) (ae (bg (aM hr.units1) (aa 6) (ak) (fun _ _ => rfl)) (af))))) (af))))) PassesOwn.never) (ao (da (eD PySem.F.plainAttrs_list PySem.F.slot_list_append PySem.F.type_list_append cA (aa 5) (ae (bC (ae (bM) (ae (aa 1) (ae (dv (dz T) hr.le cM (aa 0) (ae (bg (aM hr.units1) (aa 5) (dN (ak)) (fun _ _ => rfl)) (af))) (af))))) (af)))) (ap (ay (aa 5))))))))
theorem DK : aU P w K mg base (CX1 P w) 1 A.a_8 A.d_8 ["_law_found", "_law_due"] (pE K A) :=
 T.f_8.f.okS zd (AI K A) (Ey T.1) fun _ _ _ _ _ _ hr =>
 ao (aP (x_w (eS (cB (bB (aI dG T.z_isinstance boot_isinstance (ae (aa 0) (ae (dD T.z_list boot_list) (af)))))) (fo (aH (fA hr.units150) (aI bO T.z_len PySem.boot_len (ae (aa 0) (af))) (aI bO T.z_len PySem.boot_len (ae (aa 1) (af))))))) (ap (ay (dm))) (aJ)) (ao (zx 2 3 zd.nd (yu T.z_zip (ae (aa 0) (ae (aa 1) (af)))) (ap (aP (x_w (eS (cB (bB (aI dG T.z_isinstance boot_isinstance (ae (aa 2) (ae (dD T.z_tuple boot_tuple) (af)))))) (eS (aH (fA hr.units150) (aa 2) (aa 3)) (fo (aH (fA hr.units150) (iC (ys := []) (by exact ⟨rfl, by decide +kernel, by decide +kernel, rfl, by decide +kernel, by decide +kernel⟩) (by exact .nil) (fW (aa 2)) (fun C s H fp => wK (bB (aI dG T.z_isinstance boot_isinstance (ae (aa 0) (ae (dD T.z_bool boot_bool) (af)))))) (fun C s H fp => (aa 0))) (iK (af))))))) (ap (ay (dm))) (aJ))) PassesOwn.never) (ap (ay (dm))))
theorem vH : aU P w K mg base (CX1 P w) 7 A.a_38 A.d_38 ["stamper", "count", "place", "paper"] (jI K A) :=
 T.f_38.f.okS AE (yA K A) (Bj T.1) fun _ _ _ _ _ _ hr =>
 ap (ay (dv (dz T) hr.le cM (aa 0) (ae (bg (aM hr.units1) (aN (pM T) hr.le T.f_39 (ae (aa 0) (ae (aa 1) (ae (aa 2) (ae (aa 3) (af)))))) (dN (ak)) (fun _ _ => rfl)) (af))))
theorem vN : aU P w K mg base (CX1 P w) 8 A.a_10 A.d_10 ["_law_stamper_here", "_law_count", "_law_place", "_law_paper", "_law_due"] (gN K A) :=
 T.f_10.f.okS vZ (zD K A) (BC T.1) fun _ _ _ _ _ _ hr =>
 ao (aK 5 vZ.nd (aN (pM T) hr.le T.f_39 (ae (aa 0) (ae (aa 1) (ae (aa 2) (ae (aa 3) (af))))))) (ao (aP (cB (bB (aN (DK T) hr.le T.f_8 (ae (aa 5) (ae (aa 4) (af)))))) (ap (ay (dm))) (aJ)) (ao (da (vU PySem.F.plainAttrs_list PySem.F.slot_list_clear PySem.F.type_list_clear uY (aa 5))) (ao (aP (aH (fA hr.units150) (aN (vH T) hr.le T.f_38 (ae (aa 0) (ae (aa 1) (ae (aa 2) (ae (aa 3) (af)))))) (dv (dz T) hr.le cM (aa 0) (ae (bg (aM hr.units1) (aa 4) (dN (ak)) (fun _ _ => rfl)) (af)))) (ap (ay (dm))) (aJ)) (ap (ay (fE (bH hr.units150) (aN (pM T) hr.le T.f_39 (ae (aa 0) (ae (aa 1) (ae (aa 2) (ae (aa 3) (af)))))) (aa 4)))))))
theorem CC : aU P w K mg base (CX1 P w) 3 A.a_28 A.d_28 ["thing"] (lI K A) :=
 T.f_28.f.okS Cr (zU K A) (AB T.1) fun _ _ _ _ _ _ hr =>
 ap (ay (dC (aI dG T.z_isinstance boot_isinstance (ae (aa 0) (ae (dD T.z_tuple boot_tuple) (af)))) (dC (fE (bH hr.units150) (aI bO T.z_len PySem.boot_len (ae (aa 0) (af))) (ak)) (dC (aN (we T) hr.le T.f_27 (ae (bg (aM hr.units1) (aa 0) (ak) (fun _ _ => rfl)) (af))) (fF (aN (mt T) hr.le T.f_31 (ae (bg (aM hr.units1) (aa 0) (ak) (fun _ _ => rfl)) (af))))))))
theorem BX : aU P w K mg base (CX1 P w) 4 A.a_22 A.d_22 ["thing"] (lM K A) :=
 T.f_22.f.okS AT (yP K A) (Co T.1) fun _ _ _ _ _ _ hr =>
 ap (aP (cB (bB (aN (CC T) hr.le T.f_28 (ae (aa 0) (af))))) (ap (fV)) (aJ))
theorem DX : aU P w K mg base (CX1 P w) 1 A.a_0 A.d_0 ["self", "due", "came"] (qJ K A) :=
 T.f_0.okS Et (BL K A) (Dy T.1) fun _ _ _ _ _ _ hr =>
 ao (sB (aa 0) (aa 1)) (ap (sB (aa 0) (aa 2)))
theorem CK (cdv : Value) (Ar : Around) (outer : List Env) (s : Shared) (H : Hp) (E : XK)
  (hr : ba 7 (Ar.deeper (envOfC "place_answer" (ai km) s.heap.objs.size A.a_37 cdv))) : PSs (cI (CX1 P w) P w K mg base ["stamper", "head", "place", "paper", "came"] "place_answer" (ai km) A.a_37 cdv Ar outer s H E) (aL km) (Af K A E) := QSs.out (
 ao (da (aN (BX T) hr.le T.f_22 (ae (aa 1) (af)))) (ao (aK 4 vQ.nd (aN (vH T) hr.le T.f_38 (ae (aa 0) (ae (bg (aM hr.units1) (aa 1) (ak) (fun _ _ => rfl)) (ae (aa 2) (ae (aa 3) (af))))))) (ao (aP (aH (fA hr.units150) (aa 4) (bg (aM hr.units1) (aa 1) (ak) (fun _ _ => rfl))) (ap (ua T.em_Broken (DX T) hr.le T.b_0 T.mc_Broken qT (ae (bg (aM hr.units1) (aa 1) (ak) (fun _ _ => rfl)) (ae (aa 4) (af))))) (aJ)) (ap (ay (bg (aM hr.units1) (aa 3) (ak) (fun _ _ => rfl)))))))
theorem CS : aU P w K mg base (CX1 P w) 8 A.a_37 A.d_37 ["stamper", "head", "place", "paper"] (lR K A) :=
 T.f_37.f.okX vQ (ye K A) (fun cdv Ar outer s H vs Q E hr h => ⟨_, CK T cdv Ar outer s H E hr, AX T.1 vs H Q E h⟩)
theorem vP : aU P w K mg base (CX1 P w) 9 A.a_17 A.d_17 ["_law_stamper_here", "_law_head", "_law_place", "_law_paper"] (gw K A) :=
 T.f_17.f.okS iN (Ai K A) (CD T.1) fun _ _ _ _ _ E hr =>
 ao (aK 4 iN.nd (jP)) (ao (aK 5 iN.nd (jP)) (ao (AK (fun pn' E' EH hEH => ap (aK 5 iN.nd (oK (CS T) hr.le T.f_37.m T.f_37.f.kp T.f_37.b hEH (ae (aa 0) (ae (aa 1) (ae (aa 2) (ae (aa 3) (af)))))))) (Bm 6 iN.nd T.eo_Broken T.mc_Broken (fun a => ap (aK 4 iN.nd (aa 6))) (zE)) (aJ)) (ao (aP (aH DV (aa 4) (jP)) (ap (ay (bC (ae (bM) (ae (aa 5) (af)))))) (aJ)) (ap (ay (bC (ae (bM) (ae (rg (aa 4)) (ae (rg (aa 4)) (af))))))))))
theorem vT : aU P w K mg base (CX1 P w) 6 A.a_23 A.d_23 ["stamper", "terms"] (gB K A) :=
 T.f_23.f.okS lS (zC K A) (BI T.1) fun _ _ _ _ _ _ hr =>
 ao (aK 2 lS.nd (iX)) (ao (lV 3 lS.nd (fW (aa 1)) (ao (aK 4 lS.nd (eD PySem.F.plainAttrs_dict PySem.F.slot_dict_setdefault PySem.F.type_dict_setdefault (kJ hr.units1) (aa 2) (ae (dv (dz T) hr.le cM (aa 0) (ae (aa 3) (af))) (ae (aa 3) (af))))) (ap (aP (aH (fA hr.units150) (aa 4) (aa 3)) (ap (ay (bC (ae (aa 4) (ae (aa 3) (af)))))) (aJ)))) PassesOwn.never) (ap (ay (jP))))
theorem DH : aU P w K mg base (CX1 P w) 6 A.a_7 A.d_7 ["_law_stamper_here", "_law_terms", "_law_found"] (mZ K A) :=
 T.f_7.f.okS Dm (CB K A) (Eb T.1) fun _ _ _ _ _ _ hr =>
 ao (aP (x_w (eS (cB (bB (aI dG T.z_isinstance boot_isinstance (ae (aa 2) (ae (dD T.z_tuple boot_tuple) (af)))))) (eS (aH (fA hr.units150) (aI bO T.z_len PySem.boot_len (ae (aa 2) (af))) (ak)) (fo (aH (bH hr.units150) (bg (aM hr.units1) (aa 2) (ak) (fun _ _ => rfl)) (bg (aM hr.units1) (aa 2) (ak) (fun _ _ => rfl))))))) (ap (ay (dm))) (aJ)) (ao (aP (x_w (eS (aH (iI hr.units150) (bg (aM hr.units1) (aa 2) (ak) (fun _ _ => rfl)) (aa 1)) (fo (aH (iI hr.units150) (bg (aM hr.units1) (aa 2) (ak) (fun _ _ => rfl)) (aa 1))))) (ap (ay (dm))) (aJ)) (ap (ay (fE (bH hr.units150) (dv (dz T) hr.le cM (aa 0) (ae (bg (aM hr.units1) (aa 2) (ak) (fun _ _ => rfl)) (af))) (dv (dz T) hr.le cM (aa 0) (ae (bg (aM hr.units1) (aa 2) (ak) (fun _ _ => rfl)) (af)))))))
theorem Ce : aU P w K mg base (CX1 P w) 10 A.a_35 A.d_35 ["_law_script"] (mn K A) :=
 T.f_35.f.okS cv (yw K A) (AR T.1) fun _ _ _ _ _ _ hr =>
 ao (aK 1 cv.nd (ax cp (aN (gr T) hr.le T.f_3 (ae (aa 0) (ae (ak) (af)))) (ak))) (ao (aK 2 cv.nd (iX)) (ao (aK 3 cv.nd (iX)) (ao (aK 4 cv.nd (aN (CQ T) hr.le T.f_15 (ae (aa 1) (ae (ax cE (aN (gr T) hr.le T.f_3 (ae (aa 0) (ae (ak) (af)))) (ak)) (ae (aa 2) (ae (aa 3) (af))))))) (ao (aK 5 cv.nd (aN (DL T) hr.le T.f_6 (ae (aN (gr T) hr.le T.f_3 (ae (aa 0) (ae (ak) (af)))) (af)))) (ao (aK 6 cv.nd (ax cp (aN (gr T) hr.le T.f_3 (ae (aa 0) (ae (ak) (af)))) (aa 5))) (ao (aK 7 cv.nd (aN (Bo T) hr.le T.f_18 (ae (aa 6) (ae (aa 5) (af))))) (ao (qY (ys := ["_law_script"]) 8 cv.nd (by exact ⟨rfl, by decide +kernel, by decide +kernel, rfl, by decide +kernel, by decide +kernel⟩) (by exact .cons rfl (by first | exact .inl rfl | exact .inr rfl) rfl (.nil)) (jo T.z_range (ae (aI bO T.z_len PySem.boot_len (ae (aa 7) (af))) (af))) (fun C s H fp => gY) (fun C s H fp => (aN (mf T) hr.le T.f_14 (ae (ax bz (aN (gr T) hr.le T.f_3 (ae (aa 1) (ae (ax bz (ak) (aa 0)) (af)))) (ax iV (ak) (aa 0))) (af))))) (ao (aK 9 cv.nd (bC (ae (aN (mf T) hr.le T.f_14 (ae (aN (gr T) hr.le T.f_3 (ae (aa 0) (ae (ak) (af)))) (af))) (ae (ju zT T.z_tuple boot_tuple (ae (aa 8) (af))) (af))))) (ao (aK 10 cv.nd (aN (sQ T) hr.le T.f_5 (ae (aa 4) (ae (aa 5) (ae (aa 7) (ae (aa 9) (ae (ax bz (aI bO T.z_len PySem.boot_len (ae (aa 7) (af))) (ak)) (af)))))))) (ao (aK 11 cv.nd (dv (dz T) hr.le cM (aa 4) (ae (bg (aM hr.units1) (aa 10) (dN (ak)) (fun _ _ => rfl)) (af)))) (ao (aK 12 cv.nd (aN (Ec T) hr.le T.f_4 (ae (ax cp (aN (gr T) hr.le T.f_3 (ae (aa 0) (ae (ak) (af)))) (ak)) (ae (ax cE (aN (gr T) hr.le T.f_3 (ae (aa 0) (ae (ak) (af)))) (ak)) (ae (aa 9) (af)))))) (ao (aK 13 cv.nd (ax cp (aN (gr T) hr.le T.f_3 (ae (aa 0) (ae (ak) (af)))) (aI bO T.z_len PySem.boot_len (ae (aa 10) (af))))) (ao (aP (aH oLt (aa 1) (ak)) (ap (da (aN (BF T) hr.le T.f_11 (ae (aa 2) (ae (aa 3) (ae (bg (aM hr.units1) (aN (sQ T) hr.le T.f_5 (ae (aa 4) (ae (aa 5) (ae (aa 7) (ae (aa 12) (ae (aa 13) (af))))))) (dN (ak)) (fun _ _ => rfl)) (ae (bg (aM hr.units1) (aa 10) (aa 13) (fun _ _ => rfl)) (af)))))))) (aJ)) (ao (aK 14 cv.nd (aN (sQ T) hr.le T.f_5 (ae (aa 4) (ae (aa 5) (ae (aa 7) (ae (aa 12) (ae (ax bz (aI bO T.z_len PySem.boot_len (ae (aa 7) (af))) (ak)) (af)))))))) (ao (aK 15 cv.nd (dv (dz T) hr.le cM (aa 4) (ae (bg (aM hr.units1) (aa 14) (dN (ak)) (fun _ _ => rfl)) (af)))) (ao (aP (cB (bB (aN (vN T) hr.le T.f_10 (ae (aa 4) (ae (aa 5) (ae (aa 6) (ae (aa 9) (ae (aa 10) (af))))))))) (ap (ay (dm))) (aJ)) (ao (aP (cB (bB (aN (vN T) hr.le T.f_10 (ae (aa 4) (ae (aa 5) (ae (aa 6) (ae (aa 12) (ae (aa 14) (af))))))))) (ap (ay (dm))) (aJ)) (ao (aP (aH (fA hr.units150) (aN (vP T) hr.le T.f_17 (ae (aa 4) (ae (bC (ae (aa 5) (ae (aa 11) (af)))) (ae (aa 6) (ae (aa 9) (af)))))) (bC (ae (bM) (ae (bg (aM hr.units1) (aa 9) (ak) (fun _ _ => rfl)) (af))))) (ap (ay (dm))) (aJ)) (ao (aK 16 cv.nd (aN (vP T) hr.le T.f_17 (ae (aa 4) (ae (bC (ae (aa 5) (ae (aa 11) (af)))) (ae (aa 6) (ae (aa 12) (af))))))) (ao (aP (x_w (nw (aH (bH hr.units150) (aa 1) (ak)) (kq (aH xa (aN (vT T) hr.le T.f_23 (ae (aa 4) (ae (ax bz (aa 10) (aa 14)) (af)))) (jP))))) (ap (ay (dm))) (aJ)) (ao (aP (aH (fA hr.units150) (aa 15) (aa 11)) (ap (ay (fE (bH hr.units150) (aa 16) (bC (ae (bM) (ae (aa 11) (ae (aa 15) (af)))))))) (aJ)) (ao (aP (x_w (eS (aH (fA hr.units150) (aa 16) (bC (ae (bM) (ae (bg (aM hr.units1) (aa 12) (ak) (fun _ _ => rfl)) (af))))) (fo (bB (aI dG T.z_isinstance boot_isinstance (ae (bg (aM hr.units1) (aa 16) (ak) (fun _ _ => rfl)) (ae (dD T.z_bool boot_bool) (af)))))))) (ap (ay (dm))) (aJ)) (ao (aP (aH (bH hr.units150) (aa 12) (aa 9)) (ap (ay (dm))) (aJ)) (ao (aK 17 cv.nd (ax bz (aa 10) (aa 14))) (ap (ay (dC (fE oLt (aa 1) (ak)) (fF (aN (DH T) hr.le T.f_7 (ae (aa 4) (ae (aa 17) (ae (aN (vT T) hr.le T.f_23 (ae (aa 4) (ae (aa 17) (af)))) (af)))))))))))))))))))))))))))))))))
omit T
def qh (P : Program) (w : World) (K : W.Frag) (mg : Str → Option Value) (fa : Addr) : Prop := ∃ (fd : FuncData) (tabs : List (Addr × Addr)) (sp : Sp), (∀ (s : Shared) (v : Value), BindsTo s fd ⟨[v], []⟩ [("_law_script", v)]) ∧ W.noTabs K = true ∧ (∀ t ∈ tabs, ∃ y ∈ (["_law_weak", "writing", "counting", "_law_planted"] : List Str), W.tabIn K y = some t) ∧ (∀ base : Heap, K.In base → base.Ns mainGlobals mg → BM mg base → (∀ t ∈ tabs, W.CodeHd base t.1 t.2) → aU P w K mg base (CX1 P w) 10 fa fd ["_law_script"] sp) ∧ ∀ (H : Hp) (a : Addr) (ns : List Int), ns.length ≤ 63 → (∀ t ∈ tabs, H t.2 = some (.tbl #[])) → SqL K H a (ns.map V.int) → sp [.ref a] H (fun v _ => v = .bl true) fun _ _ _ => False
theorem yx (T : Txt K mg A) (nt : W.noTabs K = true) (tb_19 : W.tabIn K "_law_weak" = some (A.k_19, A.t_19)) (tb_41 : W.tabIn K "writing" = some (A.k_41, A.t_41)) (tb_24 : W.tabIn K "counting" = some (A.k_24, A.t_24)) (tb_12 : W.tabIn K "_law_planted" = some (A.k_12, A.t_12)) (tdn : ([A.t_19, A.t_41, A.t_24, A.t_12] : List Addr).Nodup) : qh P w K mg A.a_35 := by
 refine ⟨A.d_35, [(A.k_19, A.t_19), (A.k_41, A.t_41), (A.k_24, A.t_24), (A.k_12, A.t_12)], mn K A, T.f_35.f.bt, nt, ?_, fun base _ _ B C => ?_, fun H a ns hl hO hS => ⟨a, ns, rfl, hS, hl, ⟨hO (A.k_19, A.t_19) (by simp), hO (A.k_41, A.t_41) (by simp), hO (A.k_24, A.t_24) (by simp), hO (A.k_12, A.t_12) (by simp), tdn⟩, fun _ => rfl⟩⟩
 · intro t ht
   simp only [List.mem_cons, List.not_mem_nil, or_false] at ht
   rcases ht with rfl | rfl | rfl | rfl
   · exact ⟨"_law_weak", by simp, tb_19⟩
   · exact ⟨"writing", by simp, tb_41⟩
   · exact ⟨"counting", by simp, tb_24⟩
   · exact ⟨"_law_planted", by simp, tb_12⟩
 · exact Ce ⟨T, B, C (A.k_19, A.t_19) (by simp), C (A.k_41, A.t_41) (by simp), C (A.k_24, A.t_24) (by simp), C (A.k_12, A.t_12) (by simp)⟩
theorem yr {h : Heap} {fa : Addr} (X : K.In h) (G : h.Ns mainGlobals mg) (hfa : mg "law" = some (.ref fa)) {x_33 x_31 x_32 x_36 x_43 x_2 x_3 x_19 x_41 x_1 x_24 x_12 x_15 x_6 x_18 x_16 x_14 x_5 x_9 x_4 x_11 x_27 x_29 x_26 x_40 x_21 x_30 x_34 x_39 x_8 x_38 x_10 x_28 x_22 x_0 x_37 x_17 x_23 x_7 x_35 y_Broken y_Numbers : Addr} {d0 d1 d2 d3 d4 d5 d6 d7 d8 d9 d10 d11 d12 d13 d14 d15 d16 d17 d18 d19 d20 d21 d22 d23 d24 d25 d26 d27 d28 d29 d30 d31 d32 d33 d34 d35 d36 d37 d38 d39 : FuncData} {tc0 : Tok}
  (bo_Numbers : W.nsIn K mainGlobals "Numbers" = some (some (.ref y_Numbers))) (bc_Broken : W.nsIn K mainGlobals "Broken" = some (some (.ref y_Broken))) (h0 : Fa K "is_whole" "is_whole" tP x_33 d0) (h1 : Fa K "is_stamp" "is_stamp" um x_31 d1) (h2 : Fa K "is_term" "is_term" vt x_32 d2) (h3 : Fa K "part_form" "part_form" tW x_36 d3) (h4 : Fa K "written" "written" uo x_43 d4) (a5 : W.findIn K (.ref y_Numbers) "number_of" = some (some (.ref x_2))) (h5 : Fun K "number_of" "Numbers.number_of" s_2 x_2 d5) (fn5 : W.isFn K (.ref x_2) = true) (h6 : Fa K "_law_cell_at" "_law_cell_at" s_3 x_3 d6) (h7 : Fa K "_law_weak" "_law_weak" ji x_19 d7) (tb_19 : (W.tabIn K "_law_weak").isSome = true) (h8 : Fa K "writing" "writing" jp x_41 d8) (tb_41 : (W.tabIn K "writing").isSome = true) (a9 : W.findIn K (.ref y_Numbers) "__init__" = some (some (.ref x_1))) (h9 : Fun K "__init__" "Numbers.__init__" s_1 x_1 d9) (fn9 : W.isFn K (.ref x_1) = true) (h10 : Fa K "counting" "counting" jh x_24 d10) (tb_24 : (W.tabIn K "counting").isSome = true) (h11 : Fa K "_law_planted" "_law_planted" jt x_12 d11) (tb_12 : (W.tabIn K "_law_planted").isSome = true) (h12 : Fa K "_law_stamper" "_law_stamper" tu x_15 d12) (h13 : Fa K "_law_count_by" "_law_count_by" s_6 x_6 d13) (h14 : Fa K "_law_way" "_law_way" sS x_18 d14) (h15 : Fa K "_law_text_by" "_law_text_by" vD x_16 d15) (h16 : Fa K "_law_stamp_by" "_law_stamp_by" ub x_14 d16) (h17 : Fa K "_law_climb" "_law_climb" s_5 x_5 d17) (h18 : Fa K "_law_near" "_law_near" s_9 x_9 d18) (h19 : Fa K "_law_changed" "_law_changed" s_4 x_4 d19) (h20 : Fa K "_law_plant" "_law_plant" uC x_11 d20) (h21 : Fa K "is_count" "is_count" uR x_27 d21) (h22 : Fa K "is_place" "is_place" uJ x_29 d22) (h23 : Fa K "half" "half" uI x_26 d23) (h24 : Fa K "ways" "ways" uq x_40 d24) (h25 : Fa K "are_marks" "are_marks" tK x_21 d25) (h26 : Fa K "is_place_paper" "is_place_paper" uD x_30 d26) (h27 : Fa K "joint" "joint" vn x_34 d27) (h28 : Fa K "place_terms" "place_terms" uu x_39 d28) (h29 : Fa K "_law_is_list" "_law_is_list" s_8 x_8 d29) (h30 : Fa K "place_mark" "place_mark" tX x_38 d30) (h31 : Fa K "_law_opens" "_law_opens" sY x_10 d31) (h32 : Fa K "is_head" "is_head" uZ x_28 d32) (h33 : Fa K "check_head" "check_head" uN x_22 d33) (a34 : W.findIn K (.ref y_Broken) "__init__" = some (some (.ref x_0))) (h34 : Fun K "__init__" "Broken.__init__" s_0 x_0 d34) (fn34 : W.isFn K (.ref x_0) = true) (h35 : Fa K "place_answer" "place_answer" km x_37 d35) (h36 : Fa K "_law_told" "_law_told" tH x_17 d36) (h37 : Fa K "clash" "clash" uW x_23 d37) (h38 : Fa K "_law_is_clash" "_law_is_clash" s_7 x_7 d38) (h39 : Fa K "law" "law" tB x_35 d39) (pg_Numbers : W.plainGet K y_Numbers Str.empty = true) (hd_Numbers : W.hasDictIn K y_Numbers = true) (po_Numbers : W.plainOver K y_Numbers = true) (sa_Numbers : W.findIn K (.ref y_Numbers) "__setattr__" = some (some (.builtin "object.__setattr__"))) (na_Numbers_given : W.findIn K (.ref y_Numbers) "given" = some none) (mk_Numbers : W.makesIn K y_Numbers = true) (kc_Numbers : W.keepIn K (.ref y_Numbers) = true) (eo2_Broken : mT K y_Broken = true) (sa_Broken : W.findIn K (.ref y_Broken) "__setattr__" = some (some (.builtin "object.__setattr__"))) (hd_Broken : W.hasDictIn K y_Broken = true) (na_Broken_came : W.findIn K (.ref y_Broken) "came" = some none) (na_Broken_due : W.findIn K (.ref y_Broken) "due" = some none) (kc_Broken : W.keepIn K (.ref y_Broken) = true) (e0_Broken : W.findIn K (.ref y_Broken) "__getattribute__" = some (some (.builtin "BaseException.__getattribute__"))) (e1_Broken : W.findIn K (.ref y_Broken) "__getattr__" = some none) (e2_Broken : W.findIn K (.ref y_Broken) "__class__" = some (some (.builtin "object.__class__"))) (em0_Broken : W.mroIn K y_Broken (.type "object") = some true) (em1_Broken : W.mroIn K y_Broken (.type "BaseException") = some true) (sb_Broken_Broken : W.mroIn K y_Broken (.ref y_Broken) = some true) (z_all : W.nsIn K mainGlobals "all" = some none) (z_bool : W.nsIn K mainGlobals "bool" = some none) (z_int : W.nsIn K mainGlobals "int" = some none) (z_isinstance : W.nsIn K mainGlobals "isinstance" = some none) (z_len : W.nsIn K mainGlobals "len" = some none) (z_list : W.nsIn K mainGlobals "list" = some none) (z_range : W.nsIn K mainGlobals "range" = some none) (z_reversed : W.nsIn K mainGlobals "reversed" = some none) (z_str : W.nsIn K mainGlobals "str" = some none) (z_tuple : W.nsIn K mainGlobals "tuple" = some none) (z_zip : W.nsIn K mainGlobals "zip" = some none) (c_MOST_PARTS : W.nsIn K mainGlobals "MOST_PARTS" = some (some (.int 8 tc0))) (nt : W.noTabs K = true) (td : lb K ["_law_weak", "writing", "counting", "_law_planted"] = true) : qh P w K mg fa := by
 cases hfa.symm.trans (W.mg_of X G h39.m)
 obtain ⟨⟨z_19, t_19⟩, tb_19⟩ := Option.isSome_iff_exists.mp tb_19
 obtain ⟨⟨z_41, t_41⟩, tb_41⟩ := Option.isSome_iff_exists.mp tb_41
 obtain ⟨⟨z_24, t_24⟩, tb_24⟩ := Option.isSome_iff_exists.mp tb_24
 obtain ⟨⟨z_12, t_12⟩, tb_12⟩ := Option.isSome_iff_exists.mp tb_12
 have tdn : ([t_19, t_41, t_24, t_12] : List Addr).Nodup := tJ (by unfold lb at td; simp only [List.map_cons, List.map_nil, tb_19, tb_41, tb_24, tb_12, Option.map_some] at td; exact of_decide_eq_true td)
 exact yx (A := ⟨x_33, d0, x_31, d1, x_32, d2, x_36, d3, x_43, d4, x_2, d5, x_3, d6, x_19, d7, x_41, d8, x_1, d9, x_24, d10, x_12, d11, x_15, d12, x_6, d13, x_18, d14, x_16, d15, x_14, d16, x_5, d17, x_9, d18, x_4, d19, x_11, d20, x_27, d21, x_29, d22, x_26, d23, x_40, d24, x_21, d25, x_30, d26, x_34, d27, x_39, d28, x_8, d29, x_38, d30, x_10, d31, x_28, d32, x_22, d33, x_0, d34, x_37, d35, x_17, d36, x_23, d37, x_7, d38, fa, d39, z_19, t_19, z_41, t_41, z_24, t_24, z_12, t_12, y_Broken, y_Numbers⟩) ⟨h0.fm1 X G, h1.fm1 X G, h2.fm1 X G, h3.fm1 X G, h4.fm1 X G, h5, h5.b2, h6.fm2 X G, h7.fm1 X G, h8.fm0 X G, h9, h9.b1, h10.fm0 X G, h11.fm3 X G, h12.fm4 X G, h13.fm1 X G, h14.fm2 X G, h15.fm1 X G, h16.fm1 X G, h17.fm5 X G, h18.fm1 X G, h19.fm3 X G, h20.fm4 X G, h21.fm1 X G, h22.fm2 X G, h23.fm1 X G, h24.fm2 X G, h25.fm2 X G, h26.fm2 X G, h27.fm3 X G, h28.fm4 X G, h29.fm2 X G, h30.fm4 X G, h31.fm5 X G, h32.fm1 X G, h33.fm1 X G, h34, h34.b3, h35.fm4 X G, h36.fm4 X G, h37.fm2 X G, h38.fm3 X G, h39.fm1 X G, W.mg_none_of X G z_all, W.mg_none_of X G z_bool, W.mg_none_of X G z_int, W.mg_none_of X G z_isinstance, W.mg_none_of X G z_len, W.mg_none_of X G z_list, W.mg_none_of X G z_range, W.mg_none_of X G z_reversed, W.mg_none_of X G z_str, W.mg_none_of X G z_tuple, W.mg_none_of X G z_zip, ⟨_, W.mg_of X G c_MOST_PARTS⟩, h7.code X G tb_19, h8.code X G tb_41, h10.code X G tb_24, h11.code X G tb_12, W.mg_of X G bc_Broken, eo2_Broken, ⟨e0_Broken, e1_Broken, e2_Broken, em0_Broken, em1_Broken⟩, ⟨eo2_Broken, sa_Broken, ⟨e0_Broken, e1_Broken, e2_Broken, em0_Broken, em1_Broken⟩, na_Broken_came, hd_Broken⟩, ⟨eo2_Broken, sa_Broken, ⟨e0_Broken, e1_Broken, e2_Broken, em0_Broken, em1_Broken⟩, na_Broken_due, hd_Broken⟩, ⟨eo2_Broken, a34, fn34, kc_Broken⟩, vq sb_Broken_Broken, W.mg_of X G bo_Numbers, ⟨pg_Numbers, hd_Numbers, po_Numbers, sa_Numbers⟩, na_Numbers_given, ⟨a5, fn5, h5.kp⟩, ⟨mk_Numbers, a9, fn9, kc_Numbers⟩⟩ nt tb_19 tb_41 tb_24 tb_12 tdn
theorem Dk {l : W.OpenLaw} {q : Program} {loose : List Str} {XP : (Str → Option Value) → Heap → Prop} {YP : World → Heap → Prop} {d : DefRec} {K : Params → W.Frag} (hn : l.most = some 63) (hdf : d.params.defaults = [])
  (hY : ∀ (w : World) (h : Heap), YP w h → (K w.params).In h) (hq : ∀ y ∈ (["_law_weak", "writing", "counting", "_law_planted"] : List Str), ((PyProof.Rows.recsOf q).find? fun e => e.name == y).isSome = true)
  (F : ∀ (w : World) (mg : Str → Option Value) (fa : Addr) (h : Heap), (K w.params).In h → h.Ns mainGlobals mg → mg d.name = some (.ref fa) → qh l.prog w (K w.params) mg fa) :
  W.WalkO q loose XP YP l.row.toRowW d [] (fun f vs => PySem.call f vs) :=
 L2.uk (n := 63) (k := 10) (x := "_law_script") (CX := fun w => CX1 l.prog w) hn (by decide) hdf ⟨rfl, by decide, by decide⟩ hY hq F fun _ _ _ _ _ ⟨_, _, _, _, _, _, z⟩ => z
end Rs
def PySem.W.Fast.tw13801915791510209602 : Unit := ()
def PySem.W.Fast.tw12219714998386799986 : Unit := ()
def PySem.W.Fast.tw705949425608847529 : Unit := ()
def PySem.W.Fast.tw13038423848788354796 : Unit := ()
def PySem.W.Fast.tw12025333882425107947 : Unit := ()
def PySem.W.Fast.tw1907240495911542773 : Unit := ()
def PySem.W.Fast.tw7667336761306641773 : Unit := ()
def PySem.W.Fast.tw16149191139733876922 : Unit := ()
def PySem.W.Fast.tw9521414633953433375 : Unit := ()
def PySem.W.Fast.tw1323245663310553750 : Unit := ()
def PySem.W.Fast.tw7315997481884088040 : Unit := ()
def PySem.W.Fast.tw332680121823626489 : Unit := ()
def PySem.W.Fast.tw11666074456229711630 : Unit := ()
def PySem.W.Fast.tw6607130431158548454 : Unit := ()
open PySem PySem.W PyProof.Rows
set_option maxRecDepth 100000 in
set_option maxHeartbeats 0 in
theorem PySem.Challenge.cw_rootstamp_k48_whole_one_paper_of_a_place_holds : PySem.Challenge.rw_rootstamp_k48_whole_one_paper_of_a_place.Holds := by
 w_on; o_law; k_head; (case hw => w_witness2)
 k_fill
 refine Rs.Dk (l := PySem.Challenge.rw_rootstamp_k48_whole_one_paper_of_a_place) rfl rfl (fun w h Y => by first | exact PySem.W.kIn_of Y | exact PySem.W.km_in_of Y) (by decide +kernel) ?F
 case F =>
  intro w mg fa h KX G hmg
  refine' Rs.yr KX G hmg ?bo_Numbers ?bc_Broken (L2.bc ?a0 ?l0 ?c0 ?k0) (L2.bc ?a1 ?l1 ?c1 ?k1) (L2.bc ?a2 ?l2 ?c2 ?k2) (L2.bc ?a3 ?l3 ?c3 ?k3) (L2.bc ?a4 ?l4 ?c4 ?k4) ?a5 (L2.jz ?l5 ?c5 ?k5) ?fn5 (L2.bc ?a6 ?l6 ?c6 ?k6) (L2.bc ?a7 ?l7 ?c7 ?k7) ?tb_19 (L2.bc ?a8 ?l8 ?c8 ?k8) ?tb_41 ?a9 (L2.jz ?l9 ?c9 ?k9) ?fn9 (L2.bc ?a10 ?l10 ?c10 ?k10) ?tb_24 (L2.bc ?a11 ?l11 ?c11 ?k11) ?tb_12 (L2.bc ?a12 ?l12 ?c12 ?k12) (L2.bc ?a13 ?l13 ?c13 ?k13) (L2.bc ?a14 ?l14 ?c14 ?k14) (L2.bc ?a15 ?l15 ?c15 ?k15) (L2.bc ?a16 ?l16 ?c16 ?k16) (L2.bc ?a17 ?l17 ?c17 ?k17) (L2.bc ?a18 ?l18 ?c18 ?k18) (L2.bc ?a19 ?l19 ?c19 ?k19) (L2.bc ?a20 ?l20 ?c20 ?k20) (L2.bc ?a21 ?l21 ?c21 ?k21) (L2.bc ?a22 ?l22 ?c22 ?k22) (L2.bc ?a23 ?l23 ?c23 ?k23) (L2.bc ?a24 ?l24 ?c24 ?k24) (L2.bc ?a25 ?l25 ?c25 ?k25) (L2.bc ?a26 ?l26 ?c26 ?k26) (L2.bc ?a27 ?l27 ?c27 ?k27) (L2.bc ?a28 ?l28 ?c28 ?k28) (L2.bc ?a29 ?l29 ?c29 ?k29) (L2.bc ?a30 ?l30 ?c30 ?k30) (L2.bc ?a31 ?l31 ?c31 ?k31) (L2.bc ?a32 ?l32 ?c32 ?k32) (L2.bc ?a33 ?l33 ?c33 ?k33) ?a34 (L2.jz ?l34 ?c34 ?k34) ?fn34 (L2.bc ?a35 ?l35 ?c35 ?k35) (L2.bc ?a36 ?l36 ?c36 ?k36) (L2.bc ?a37 ?l37 ?c37 ?k37) (L2.bc ?a38 ?l38 ?c38 ?k38) (L2.bc ?a39 ?l39 ?c39 ?k39) ?pg_Numbers ?hd_Numbers ?po_Numbers ?sa_Numbers ?na_Numbers_given ?mk_Numbers ?kc_Numbers ?eo2_Broken ?sa_Broken ?hd_Broken ?na_Broken_came ?na_Broken_due ?kc_Broken ?e0_Broken ?e1_Broken ?e2_Broken ?em0_Broken ?em1_Broken ?sb_Broken_Broken ?z_all ?z_bool ?z_int ?z_isinstance ?z_len ?z_list ?z_range ?z_reversed ?z_str ?z_tuple ?z_zip ?c_MOST_PARTS ?nt ?td
  case bo_Numbers | bc_Broken | a0 | l0 | c0 | k0 | a1 | l1 | c1 | k1 | a2 | l2 | c2 | k2 | a3 | l3 | c3 | k3 | a4 | l4 | c4 | k4 | a5 | l5 | c5 | k5 | fn5 | a6 | l6 | c6 | k6 | a7 | l7 | c7 | k7 => k_is
  case tb_19 => kernel_rfl
  case a8 | l8 | c8 | k8 => k_is
  case tb_41 => kernel_rfl
  case a9 | l9 | c9 | k9 | fn9 | a10 | l10 | c10 | k10 => k_is
  case tb_24 => kernel_rfl
  case a11 | l11 | c11 | k11 => k_is
  case tb_12 => kernel_rfl
  case a12 | l12 | c12 | k12 | a13 | l13 | c13 | k13 | a14 | l14 | c14 | k14 | a15 | l15 | c15 | k15 | a16 | l16 | c16 | k16 | a17 | l17 | c17 | k17 | a18 | l18 | c18 | k18 | a19 | l19 | c19 | k19 | a20 | l20 | c20 | k20 | a21 | l21 | c21 | k21 | a22 | l22 | c22 | k22 | a23 | l23 | c23 | k23 | a24 | l24 | c24 | k24 | a25 | l25 | c25 | k25 | a26 | l26 | c26 | k26 | a27 | l27 | c27 | k27 | a28 | l28 | c28 | k28 | a29 | l29 | c29 | k29 | a30 | l30 | c30 | k30 | a31 | l31 | c31 | k31 | a32 | l32 | c32 | k32 | a33 | l33 | c33 | k33 | a34 | l34 | c34 | k34 | fn34 | a35 | l35 | c35 | k35 | a36 | l36 | c36 | k36 | a37 | l37 | c37 | k37 | a38 | l38 | c38 | k38 | a39 | l39 | c39 | k39 | pg_Numbers | hd_Numbers | po_Numbers | sa_Numbers | na_Numbers_given | mk_Numbers | kc_Numbers => k_is
  case eo2_Broken => kernel_rfl
  case sa_Broken | hd_Broken | na_Broken_came | na_Broken_due | kc_Broken | e0_Broken | e1_Broken | e2_Broken | em0_Broken | em1_Broken | sb_Broken_Broken | z_all | z_bool | z_int | z_isinstance | z_len | z_list | z_range | z_reversed | z_str | z_tuple | z_zip | c_MOST_PARTS => k_is
  case nt | td => kernel_rfl

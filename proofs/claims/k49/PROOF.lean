import PyProof.Rows.All
import Wide.All
import OpenK.AllK
import Wide.FinOn
import Lean
import PyProof.EqAt
import PyProof.EqKinds
import PyProof.TupleCall
import PyProof.P3In
import KE.KDictLaws
import KE.KTabLook
import KE.KRevIter
import KE.KItemsList
import PyProof.TupleOfGen
import PySem.Challenge.RW_rootstamp_k49_whole_one_paper_of_growth
set_option Elab.async false
set_option linter.all false
set_option maxRecDepth 100000
set_option maxHeartbeats 4000000
namespace L2
open PySem PySem.Spec PyProof.Rows
abbrev Key := Sum Int Str
def iL : Key → Value → Bool
 | .inl k, v => Value.isInt k v
 | .inr x, v => Value.isStrOf x v
def EJ (w : World) : Key → Int
 | .inl k => hashInt k
 | .inr x => hashStr w x
theorem bZ : ∀ {k : Key} {v : Value}, iL k v = true → (∃ i t, k = Sum.inl i ∧ v = Value.int i t) ∨ (∃ x t, k = Sum.inr x ∧ v = Value.str x t)
  | .inl i, v, h => by
    obtain ⟨t, e⟩ := Value.isInt_shape (k := i) (v := v) h
    exact .inl ⟨i, t, rfl, e⟩
  | .inr x, v, h => by
    obtain ⟨t, e⟩ := Value.isStrOf_shape (x := x) (v := v) h
    exact .inr ⟨x, t, rfl, e⟩
theorem sF (i : Int) (t : Tok) : iL (.inl i) (.int i t) = true := by simp [iL, Value.isInt]
theorem rB (x : Str) (t : Tok) : iL (.inr x) (.str x t) = true := by simp [iL, Value.isStrOf]
theorem yq (a b : Int) : decide ((Sum.inl a : Key) = Sum.inl b) = (a == b) := by
 by_cases e : a = b
 · subst e; simp
 · have h : ¬ (Sum.inl a : Key) = Sum.inl b := fun q => e (Sum.inl.inj q)
   rw [decide_eq_false h]
   exact (beq_eq_false_iff_ne.mpr e).symm
theorem zF (a b : Str) : decide ((Sum.inr a : Key) = Sum.inr b) = decide (a = b) := by
 by_cases e : a = b
 · subst e; simp
 · have h : ¬ (Sum.inr a : Key) = Sum.inr b := fun q => e (Sum.inr.inj q)
   rw [decide_eq_false h, decide_eq_false e]
theorem AS (a : Int) (b : Str) : decide ((Sum.inl a : Key) = Sum.inr b) = false := decide_eq_false (fun q => nomatch q)
theorem Ah (a : Str) (b : Int) : decide ((Sum.inr a : Key) = Sum.inl b) = false := decide_eq_false (fun q => nomatch q)
def bI (prog : Program) (w : World) : PySem.KeyKind prog w Key where
 is := iL
 hash := EJ w
 inj := fun v a b ha hb => by
  rcases bZ ha with ⟨i, t, rfl, rfl⟩ | ⟨x, t, rfl, rfl⟩
  · rcases bZ hb with ⟨j, u, rfl, e⟩ | ⟨y, u, rfl, e⟩
    · injection e with e1 _; rw [e1]
    · exact nomatch e
  · rcases bZ hb with ⟨j, u, rfl, e⟩ | ⟨y, u, rfl, e⟩
    · exact nomatch e
    · injection e with e1 _; rw [e1]
 byValue := fun k v h => by
  rcases bZ h with ⟨i, t, rfl, rfl⟩ | ⟨x, t, rfl, rfl⟩ <;> rfl
 pyHash := fun hv h => by
  rcases bZ hv with ⟨i, t, rfl, rfl⟩ | ⟨x, t, rfl, rfl⟩
  · exact wpAny_pyHash_int h
  · exact wpAny_pyHash_str h
 eqBool := fun hu hv h => by
  rcases bZ hu with ⟨i, t, rfl, rfl⟩ | ⟨x, t, rfl, rfl⟩
  · rcases bZ hv with ⟨j, u, rfl, rfl⟩ | ⟨y, u, rfl, rfl⟩
    · rw [yq] at h; exact wpAny_eqBool_int h
    · rw [AS] at h; exact SeqAt.EqAt.int_str i t y u _ _ _ _ h
  · rcases bZ hv with ⟨j, u, rfl, rfl⟩ | ⟨y, u, rfl, rfl⟩
    · rw [Ah] at h; exact SeqAt.EqAt.str_int x t j u _ _ _ _ h
    · rw [zF] at h; exact wpAny_eqBool_str h
 «strs» := fun k x t v h => by
  rcases bZ h with ⟨i, u, rfl, e⟩ | ⟨y, u, rfl, e⟩
  · exact nomatch e
  · injection e with e1 _
    subst e1
    cases v <;> rfl
theorem ow (prog : Program) (w : World) (i : Int) (t : Tok) : (bI prog w).is (.inl i) (.int i t) = true := sF i t
theorem oF (prog : Program) (w : World) (x : Str) (t : Tok) : (bI prog w).is (.inr x) (.str x t) = true := rB x t
end L2
namespace L2
open PySem PySem.Spec PyProof.Rows
inductive V where
 | non | bl (b : Bool) | int (i : Int) | str (x : Str) | byt (b : Array UInt8) | flt (b : UInt64) | ref (a : Addr) | ty (n : String)
 deriving DecidableEq
def aJ : V → Value → Prop
 | .non, u => u = Value.none
 | .bl b, u => u = Value.bool b
 | .int i, u => ∃ t, u = Value.int i t
 | .str x, u => ∃ t, u = Value.str x t
 | .byt b, u => ∃ t, u = Value.bytes b t
 | .flt b, u => ∃ t, u = Value.float b t
 | .ref a, u => u = Value.ref a
 | .ty n, u => u = Value.type n
abbrev aK : List V → List Value → Prop := Paired aJ
theorem aK.length {xs : List V} {us : List Value} (r : aK xs us) : xs.length = us.length := Paired.length r
theorem aK.get : ∀ {xs : List V} {us : List Value} {i : Nat} {x : V}, aK xs us → xs[i]? = some x → ∃ u, us[i]? = some u ∧ aJ x u
  | _, _, _, _, .nil, e => by simp at e
  | _, _, 0, _, .cons r _, e => by simp at e; subst e; exact ⟨_, rfl, r⟩
  | _, _, i + 1, x, .cons _ t, e => by
    obtain ⟨u, h1, h2⟩ := aK.get (i := i) (x := x) t (by simpa using e)
    exact ⟨u, by simpa using h1, h2⟩
theorem aK.set {x : V} {u : Value} (r : aJ x u) : ∀ {xs : List V} {us : List Value} (i : Nat), aK xs us → aK (xs.set i x) (us.set i u)
 | _, _, _, .nil => .nil
 | _, _, 0, .cons _ t => .cons r t
 | _, _, i + 1, .cons q t => .cons q (aK.set r i t)
theorem aK.append : ∀ {xs ys : List V} {us ws : List Value}, aK xs us → aK ys ws → aK (xs ++ ys) (us ++ ws)
 | _, _, _, _, .nil, s => s
 | _, _, _, _, .cons r t, s => .cons r (aK.append t s)
theorem aK.take : ∀ {xs : List V} {us : List Value} (n : Nat), aK xs us → aK (xs.take n) (us.take n)
 | _, _, 0, _ => .nil
 | _, _, _ + 1, .nil => .nil
 | _, _, n + 1, .cons r t => .cons r (aK.take n t)
theorem aK.drop : ∀ {xs : List V} {us : List Value} (n : Nat), aK xs us → aK (xs.drop n) (us.drop n)
 | _, _, 0, r => r
 | _, _, _ + 1, .nil => .nil
 | _, _, n + 1, .cons _ t => aK.drop n t
def bS : Option V → Option Value → Prop
 | some v, some u => aJ v u
 | none, none => True
 | _, _ => False
def KV {κ : Type} : List (κ × V) → List (κ × Value) → Prop := Paired fun (p : κ × V) (q : κ × Value) => p.1 = q.1 ∧ aJ p.2 q.2
def kV : Key → V
 | .inl i => .int i
 | .inr x => .str x
inductive HO where
 | lst (xs : List V)
 | tup (xs : List V)
 | dK (kvs : List (Key × V)) | dT (kvs : List (List Key × V))
 | set (S : Int → Bool) (n : Nat)
 | ins (C dx : Addr) (fs : List (Str × V))
 | own (x : Addr)
 | xd (fs : List (Str × V))
 | met (f x : Addr)
 | rng (lo hi : Int)
 | frz (o : Obj) (u : HO)
 | tbl (ps : Array Value)
 | ext (φ : Heap → Prop)
abbrev Hp := Addr → Option HO
def upd (H : Hp) (a : Addr) (o : HO) : Hp := fun b => if b = a then some o else H b
theorem ag {H : Hp} {a : Addr} {o : HO} : upd H a o a = some o := by unfold upd; rw [if_pos rfl]
theorem ak {H : Hp} {a b : Addr} {o : HO} (h : b ≠ a) : upd H a o b = H b := by unfold upd; rw [if_neg h]
theorem eN {H : Hp} {a : Addr} {o u : HO} : upd (upd H a o) a u = upd H a u := by
 funext b; unfold upd; split <;> rfl
theorem bE {H : Hp} {a b : Addr} {o u : HO} (h : H a = some o) (h' : H b = some u) (d : o ≠ u) : a ≠ b := by
 intro e; subst e; rw [h] at h'; exact d (Option.some.inj h')
theorem ar {H : Hp} {a b : Addr} {o : HO} (h : H a = some o) (h' : H b = none) : a ≠ b := by
 intro e; subst e; rw [h] at h'; cases h'
section
variable (P : Program) (w : World)
def aR (H : Hp) (h : Heap) (a : Addr) : HO → Prop
 | .lst xs => xs.length ≤ sizeLine ∧ ∃ (its : List Value) (n : Nat), aK xs its ∧ h.get? a = some { cls := .type "list", data := .seq its.toArray n }
 | .tup xs => xs.length ≤ sizeLine ∧ ∃ its : List Value, aK xs its ∧ IsTup h a its.toArray
 | .dK kvs => kvs.length ≤ sizeLine ∧ (a == sysModules) = false ∧ ∃ vs, KV kvs vs ∧ h.DictOf (bI P w) a vs
 | .dT kvs => kvs.length ≤ sizeLine ∧ (a == sysModules) = false ∧ ∃ xs : List (List Key × Addr × Value),
  Paired (fun (p : List Key × V) (q : List Key × Addr × Value) => p.1 = q.1 ∧ H q.2.1 = some (.tup (p.1.map kV)) ∧ aJ p.2 q.2.2) kvs xs ∧
  ∃ o es ep, h.get? a = some o ∧ o.ExactDict ∧ o.data = .dict es ep ∧ es.toList = xs.map (entryOfKey (tupleKind (bI P w))) ∧ (xs.map (·.1)).Nodup
 | .set S n => h.SetOf (intKind P w) a S n
 | .ins C dx fs => H dx = some (.own a) ∧ fs.length ≤ 1000 ∧ dx ≠ a ∧ h.get? a = some (W.instObj C dx) ∧
  ∃ mA, h.Ns1 dx mA ∧ (∀ f, bS (fs.lookup f) (mA f)) ∧ PySem.Within mA (fs.map (·.1))
 | .own _ => ∃ o, h.get? a = some o
 | .xd fs => ∃ mA, h.Ns1 a mA ∧ ∀ f, bS (fs.lookup f) (mA f)
 | .rng lo hi => ∃ t u v, h.get? a = some { cls := .type "range", data := .fields #[.int lo t, .int hi u, .int 1 v] }
 | .frz o u => h.get? a = some o ∧ aR H h a u
 | .tbl ps => h.get? a = some { cls := .none, data := .fields ps }
 | .met f x => h.get? a = some (W.methodObj (.ref f) (.ref x))
 | .ext φ => φ h ∧ (∃ o, h.get? a = some o) ∧ ∀ h1 h2 : Heap, φ h1 → (∀ o, h1.get? a = some o → h2.get? a = some o) → φ h2
def HOk (H : Hp) (h : Heap) : Prop := ∀ a o, H a = some o → aR P w H h a o
end
section
variable {P : Program} {w : World} {H H' : Hp} {h h' : Heap} {a : Addr} {o : HO}
theorem aR.lt (x : aR P w H h a o) : a < h.objs.size := by
 cases o with
 | lst xs => obtain ⟨_, _, _, _, e⟩ := x; exact Heap.lt_size e
 | tup xs => obtain ⟨_, _, _, p⟩ := x; exact p.lt
 | dK kvs => obtain ⟨_, _, _, _, o, _, _, e, _⟩ := x; exact Heap.lt_size e
 | dT kvs => obtain ⟨_, _, _, _, o, _, _, e, _⟩ := x; exact Heap.lt_size e
 | set S n => obtain ⟨o, _, _, _, e, _⟩ := x; exact Heap.lt_size e
 | ins C dx fs => obtain ⟨_, _, _, e, _⟩ := x; exact Heap.lt_size e
 | own y => obtain ⟨_, e⟩ := x; exact Heap.lt_size e
 | xd fs => obtain ⟨_, ⟨_, _, _, e, _⟩, _⟩ := x; exact Heap.lt_size e
 | rng lo hi => obtain ⟨_, _, _, e⟩ := x; exact Heap.lt_size e
 | frz ob u => obtain ⟨e, _⟩ := x; exact Heap.lt_size e
 | tbl ps => exact Heap.lt_size (show h.get? a = some _ from x)
 | met f y => exact Heap.lt_size (show h.get? a = some _ from x)
 | ext φ => obtain ⟨_, ⟨_, e⟩, _⟩ := x; exact Heap.lt_size e
theorem Paired.mapP {α β : Type} {F G : α → β → Prop} : ∀ {l₁ : List α} {l₂ : List β}, Paired F l₁ l₂ → (∀ a b, F a b → G a b) → Paired G l₁ l₂
 | _, _, .nil, _ => .nil
 | _, _, .cons r t, f => .cons (f _ _ r) (Paired.mapP t f)
theorem aR.stay (x : aR P w H h a o) (k : ∀ b u, (b = a ∨ H b = some (.own a)) → h.get? b = some u → h'.get? b = some u)
    (ho : ∀ b, H b = some (.own a) → H' b = some (.own a)) (ht : ∀ b xs, H b = some (.tup xs) → H' b = some (.tup xs)) : aR P w H' h' a o := by
  induction o with
  | lst xs => obtain ⟨z, its, n, r, e⟩ := x; exact ⟨z, its, n, r, k _ _ (.inl rfl) e⟩
  | tup xs => obtain ⟨z, its, r, ob, e, c⟩ := x; exact ⟨z, its, r, ob, k _ _ (.inl rfl) e, c⟩
  | dK kvs => obtain ⟨z, y, vs, r, ob, es, ep, e, c⟩ := x; exact ⟨z, y, vs, r, ob, es, ep, k _ _ (.inl rfl) e, c⟩
  | dT kvs =>
    obtain ⟨z, y, xs, r, ob, es, ep, e, c⟩ := x
    exact ⟨z, y, xs, Paired.mapP r fun p q z => ⟨z.1, ht _ _ z.2.1, z.2.2⟩, ob, es, ep, k _ _ (.inl rfl) e, c⟩
  | set S n => obtain ⟨ob, es, ep, t, e, c⟩ := x; exact ⟨ob, es, ep, t, k _ _ (.inl rfl) e, c⟩
  | ins C dx fs =>
    obtain ⟨d, z, ne, e, mA, ⟨od, es, ep, e2, c⟩, r⟩ := x
    exact ⟨ho _ d, z, ne, k _ _ (.inl rfl) e, mA, ⟨od, es, ep, k _ _ (.inr d) e2, c⟩, r⟩
  | own y => obtain ⟨ob, e⟩ := x; exact ⟨ob, k _ _ (.inl rfl) e⟩
  | xd fs => obtain ⟨mA, ⟨od, es, ep, e, c⟩, r⟩ := x; exact ⟨mA, ⟨od, es, ep, k _ _ (.inl rfl) e, c⟩, r⟩
  | rng lo hi => obtain ⟨t, u, v, e⟩ := x; exact ⟨t, u, v, k _ _ (.inl rfl) e⟩
  | frz ob u ih => obtain ⟨e, q⟩ := x; exact ⟨k _ _ (.inl rfl) e, ih q⟩
  | tbl ps =>
    have e : h.get? a = some { cls := .none, data := .fields ps } := x
    show h'.get? a = some { cls := .none, data := .fields ps }
    exact k a _ (.inl rfl) e
  | met f y =>
    have e : h.get? a = some (W.methodObj (.ref f) (.ref y)) := x
    show h'.get? a = some (W.methodObj (.ref f) (.ref y))
    exact k a _ (.inl rfl) e
  | ext φ => obtain ⟨p, ⟨o, e⟩, st⟩ := x; exact ⟨st _ _ p fun o q => k _ _ (.inl rfl) q, ⟨o, k _ _ (.inl rfl) e⟩, st⟩
theorem HOk.lt (x : HOk P w H h) (e : H a = some o) : a < h.objs.size := (x a o e).lt
theorem HOk.fresh (x : HOk P w H h) (e : h.objs.size ≤ a) : H a = none := by
 cases q : H a with
 | none => rfl
 | some u => exact absurd (Nat.lt_of_lt_of_le (x.lt q) e) (Nat.lt_irrefl _)
theorem HOk.kept (x : HOk P w H h) (k : ∀ b u, h.get? b = some u → h'.get? b = some u) : HOk P w H h' := fun a o e =>
 (x a o e).stay (fun b u _ q => k b u q) (fun _ q => q) fun _ _ q => q
theorem HOk.laid (x : HOk P w H h) (k : ∀ b u, h.get? b = some u → h'.get? b = some u) (hp : h.objs.size ≤ a) (new : aR P w (upd H a o) h' a o) : HOk P w (upd H a o) h' := fun b u e => by
 have hn := x.fresh hp
 by_cases hb : b = a
 · subst hb; rw [ag] at e; cases e; exact new
 · rw [ak hb] at e
   exact (x b u e).stay (fun c v _ q => k c v q) (fun c q => by rw [ak (ar q hn)]; exact q) fun c xs q => by rw [ak (ar q hn)]; exact q
end
def Rd (H : Hp) (a : Addr) (u : HO) : Prop := H a = some u ∨ ∃ o, H a = some (.frz o u)
theorem Rd.ok {P : Program} {w : World} {H : Hp} {h : Heap} {a : Addr} {u : HO} (r : Rd H a u) (x : HOk P w H h) : aR P w H h a u := by
 rcases r with r | ⟨o, r⟩
 · exact x a u r
 · obtain ⟨_, q⟩ := x a _ r
   exact q
def Mut : Option HO → Prop
 | some (.lst _) => True
 | some (.dK _) => True
 | some (.dT _) => True
 | some (.set _ _) => True
 | some (.ins _ _ _) => True
 | some (.ext _) => True
 | _ => False
section
variable {P : Program} {w : World} {H : Hp} {h h' : Heap} {x e : Addr} {o' : HO}
theorem HOk.write (ok : HOk P w H h) (mu : Mut (H x)) (he : e = x ∨ H e = some (.own x)) (k : ∀ b u, b ≠ e → h.get? b = some u → h'.get? b = some u) (heo : ∃ u, h'.get? e = some u)
   (new : aR P w (upd H x o') h' x o') : HOk P w (upd H x o') h' := fun b u q => by
 have nown : ∀ c y, H c = some (.own y) → c ≠ x := fun c y r z => by subst z; rw [r] at mu; exact mu
 have ntup : ∀ c xs, H c = some (.tup xs) → c ≠ x := fun c xs r z => by subst z; rw [r] at mu; exact mu
 by_cases hb : b = x
 · subst hb; rw [ag] at q; cases q; exact new
 · rw [ak hb] at q
   by_cases hbe : b = e
   · have q' : H b = some (.own x) := by
       rcases he with z | z
       · exact absurd (hbe.trans z) hb
       · rw [hbe]; exact z
     rw [q] at q'; cases q'
     obtain ⟨v, hv⟩ := heo
     exact ⟨v, by rw [hbe]; exact hv⟩
   · refine (ok b u q).stay (fun c v hc r => k c v ?_ r) (fun c r => by rw [ak (nown c b r)]; exact r) fun c xs r => by rw [ak (ntup c xs r)]; exact r
     rcases hc with rfl | hc
     · exact hbe
     · rintro rfl
       rcases he with z | z
       · exact nown c b hc z
       · rw [hc] at z; cases z; exact hb rfl
end
structure Un (fs ex : List Addr) (H H' : Hp) (h h' : Heap) : Prop where
 keep : ∀ b o, h.get? b = some o → H b = none → b ∉ fs → b ∉ ex → h'.get? b = some o
 slot : ∀ b o, h.get? b = some o → H b = none → b ∈ fs → b ∉ ex → ∃ sl, h'.get? b = some { o with slots := sl }
 free : ∀ b o, h.get? b = some o → H b = none → b ∉ ex → H' b = none
 there : ∀ b o, h.get? b = some o → b ∉ ex → ∃ o', h'.get? b = some o'
 tups : ∀ b xs, H b = some (.tup xs) → H' b = some (.tup xs)
 frzs : ∀ b o u, H b = some (.frz o u) → H' b = some (.frz o u)
 tbls : ∀ b ps, H b = some (.tbl ps) → ∃ more, H' b = some (.tbl (ps ++ more))
section
variable {fs fs' ex ex' : List Addr} {H H1 H2 : Hp} {h h1 h2 h' : Heap} {a x e : Addr} {o : HO}
theorem Un.any (u : Un fs ex H H1 h h1) {b : Addr} {ob : Obj} (q : h.get? b = some ob) (n : H b = none) (hx : b ∉ ex) : ∃ sl, h1.get? b = some { ob with slots := sl } := by
 by_cases hb : b ∈ fs
 · exact u.slot b ob q n hb hx
 · exact ⟨ob.slots, u.keep b ob q n hb hx⟩
theorem Un.trans (a : Un fs ex H H1 h h1) (b : Un fs ex H1 H2 h1 h2) : Un fs ex H H2 h h2 where
 keep := fun c ob q n hc hx => b.keep c ob (a.keep c ob q n hc hx) (a.free c ob q n hx) hc hx
 slot := fun c ob q n hc hx => by
  obtain ⟨sl, e1⟩ := a.slot c ob q n hc hx
  obtain ⟨sl', e2⟩ := b.slot c _ e1 (a.free c ob q n hx) hc hx
  exact ⟨sl', e2⟩
 free := fun c ob q n hx => by
  obtain ⟨o', e1⟩ := a.there c ob q hx
  exact b.free c o' e1 (a.free c ob q n hx) hx
 there := fun c ob q hx => by
  obtain ⟨o', e1⟩ := a.there c ob q hx
  exact b.there c o' e1 hx
 tups := fun c xs q => b.tups c xs (a.tups c xs q)
 frzs := fun c ob xs q => b.frzs c ob xs (a.frzs c ob xs q)
 tbls := fun c ps q => by
  obtain ⟨m1, e1⟩ := a.tbls c ps q
  obtain ⟨m2, e2⟩ := b.tbls c _ e1
  exact ⟨m1 ++ m2, by rw [e2, Array.append_assoc]⟩
theorem Un.kept (k : ∀ b u, h.get? b = some u → h'.get? b = some u) : Un fs ex H H h h' :=
 ⟨fun b ob q _ _ _ => k b ob q, fun b ob q _ _ _ => ⟨ob.slots, k b ob q⟩, fun _ _ _ n _ => n, fun b ob q _ => ⟨ob, k b ob q⟩, fun _ _ q => q, fun _ _ _ q => q, fun _ ps q => ⟨#[], by rw [q]; simp⟩⟩
theorem Un.refl : Un fs ex H H h h := Un.kept fun _ _ q => q
theorem Un.laid (k : ∀ b u, h.get? b = some u → h'.get? b = some u) (hp : h.objs.size ≤ a) (hn : H a = none) : Un fs ex H (upd H a o) h h' where
 keep := fun b u q _ _ _ => k b u q
 slot := fun b u q _ _ _ => ⟨u.slots, k b u q⟩
 free := fun b u q n _ => by rw [ak (Nat.ne_of_lt (Nat.lt_of_lt_of_le (Heap.lt_size q) hp))]; exact n
 there := fun b u q _ => ⟨u, k b u q⟩
 tups := fun b xs q => by rw [ak (ar q hn)]; exact q
 frzs := fun b u xs q => by rw [ak (ar q hn)]; exact q
 tbls := fun b ps q => ⟨#[], by rw [ak (ar q hn), q]; simp⟩
theorem Un.write (mu : Mut (H x)) (he : e = x ∨ H e = some (.own x)) (k : ∀ b u, b ≠ e → h.get? b = some u → h'.get? b = some u) (heo : ∃ u, h'.get? e = some u) : Un fs ex H (upd H x o) h h' := by
 have hx : ∀ b, H b = none → b ≠ x := fun b n z => by subst z; rw [n] at mu; exact mu
 have hb : ∀ b, H b = none → b ≠ e := fun b n z => by
   subst z
   rcases he with r | r
   · exact hx b n r
   · rw [n] at r; cases r
 have hm : ∀ b u, H b = some u → ¬ Mut (some u) → b ≠ x := fun b u q nm z => by subst z; rw [q] at mu; exact nm mu
 refine ⟨fun b u q n _ _ => k b u (hb b n) q, fun b u q n _ _ => ⟨u.slots, k b u (hb b n) q⟩, fun b u q n _ => by rw [ak (hx b n)]; exact n, fun b u q _ => ?_,
   fun b xs q => by rw [ak (hm b _ q fun z => z)]; exact q, fun b u xs q => by rw [ak (hm b _ q fun z => z)]; exact q, fun b ps q => ⟨#[], by rw [ak (hm b _ q fun z => z), q]; simp⟩⟩
 by_cases hbe : b = e
 · subst hbe; exact heo
 · exact ⟨u, k b u hbe q⟩
end
def trk (h : Heap) (H : Hp) : List Addr := (List.range h.objs.size).filter fun a => (H a).isSome
def fE (h : Heap) (H : Hp) : Heap := W.hideAll h (trk h H)
theorem rF (h : Heap) (H : Hp) : (fE h H).objs.size = h.objs.size := W.hideAll_size _ _
theorem ul {h : Heap} {H : Hp} {b : Addr} {o : Obj} (e : h.get? b = some o) (n : H b = none) : (fE h H).get? b = some o :=
 W.hideAll_get _ e fun hm => by
  have q : (H b).isSome = true := (List.mem_filter.mp hm).2
  rw [n] at q; simp at q
theorem xr {h : Heap} {H : Hp} {b : Addr} {o : Obj} (e : (fE h H).get? b = some o) : h.get? b = some o ∧ H b = none := by
  have e' : h.get? b = some o := W.of_hideAll (trk h H) e
  refine ⟨e', ?_⟩
  cases q : H b with
  | none => rfl
  | some x =>
    have hm : b ∈ trk h H := List.mem_filter.mpr ⟨List.mem_range.mpr (Heap.lt_size e'), by simp [q]⟩
    have z : (fE h H).get? b = none := W.hideAll_none (trk h H) hm
    rw [z] at e; cases e
def wR (g h : Heap) (L : Addr) : List (Addr × Obj) := (List.range h.objs.size).filterMap fun a => if a = L ∨ (g.get? a).isSome = true then none else (h.get? a).map fun o => (a, o)
def bX (g h : Heap) (L d : Addr) : List (Addr × Obj) := (wR g h L).filter fun p => decide (p.1 ≠ d)
end L2
namespace L2
open PySem PySem.Spec PyProof.Rows
structure Mod (K : W.Frag) (mg : Str → Option Value) (base : Heap) : Prop where
 kin : K.In base
 glob : base.Ns mainGlobals mg
 blt : ∃ mb, base.Ns builtinsNs mb ∧ ∀ x : Str, x ≠ "__name__" → mb x = bootBuiltins x
 nolimit : base.NoLimit
set_option genInjectivity false in
set_option genSizeOf false in
structure Cx where
 prog : Program
 w : World
 K : W.Frag
 mg : Str → Option Value
 base : Heap
 A : Around
 N : List Str
 s₀ : Shared
 H₀ : Hp
 env : Env
 outer : List Env
 stack : List Env
 ex : List Addr
 fn : Str → Bool
 calm : Bool
 pn : List (Addr × Obj)
 xe : Value → Shared → Prop
def frs (l : List Env) : List Addr := l.filterMap (·.frame)
abbrev Cx.fs (X : Cx) : List Addr := frs X.outer
def Vis (sc : Scope) (x : Str) : Prop := sc.names.lookup x = some .local ∨ sc.names.lookup x = some .cell ∨ sc.names.lookup x = some .free
def Loc (sc : Scope) (x : Str) : Prop := sc.names.lookup x = some .local ∨ sc.names.lookup x = some .cell
def zV (env : Env) (h : Heap) (m : Str → Option Value) (x : Str) (u : Value) : Prop :=
 (env.kindOf x = some .local ∧ m x = some u) ∨ ((env.kindOf x = some .cell ∨ env.kindOf x = some .free) ∧ ∃ c, env.cells.lookup x = some c ∧ h.IsCell c (some u))
set_option genInjectivity false in
set_option genSizeOf false in
structure Cx.Ok (X : Cx) : Prop where
 mod : Mod X.K X.mg X.base
 kind : X.env.scope.kind = .function
 glob : X.env.globals = mainGlobals
 blt : X.env.builtins = builtinsNs
 above : X.s₀.heap.objs.size ≤ X.env.locals
 inj : ∀ x y c, X.env.cells.lookup x = some c → X.env.cells.lookup y = some c → x = y
 has : ∀ x, (X.env.kindOf x = some .cell ∨ X.env.kindOf x = some .free) → ∃ c, X.env.cells.lookup x = some c
 cab : ∀ x c, X.fn x = true → X.env.cells.lookup x = some c → X.s₀.heap.objs.size ≤ c
 hd : X.calm = true → X.A.handled = none
 frames : X.A.frames = some X.stack
 stk : X.stack = X.outer ∨ (X.stack = X.env :: X.outer ∧ X.env.frame = some X.env.locals)
 exf : ∀ b ∈ X.ex, b ≠ X.env.locals ∧ ∀ x c, X.env.cells.lookup x = some c → c ≠ b
 bs : ∀ b o, X.base.get? b = some o → X.s₀.heap.get? b = some o ∧ X.H₀ b = none
 bsz : X.base.objs.size ≤ X.s₀.heap.objs.size
 noex : ∀ b o, X.base.get? b = some o → b ∉ X.ex
 exfs : ∀ b ∈ X.ex, b ∉ X.fs
 funs : X.s₀.heap.FunFrames X.base X.outer
 frf : ∀ b ∈ X.fs, X.H₀ b = none
structure Inv (X : Cx) (pins : List (Addr × Obj)) (σ : List (Option V)) (H : Hp) (s : Shared) : Prop where
 ok : X.Ok
 os : s.os = X.s₀.os
 bare : AllBare s.gens
 base : Un X.fs X.ex X.H₀ H X.s₀.heap s.heap
 loc : ∃ m, s.heap.Ns X.env.locals m ∧ ∀ (i : Nat) (x : Str) (v : V), X.N[i]? = some x → σ[i]? = some (some v) → Vis X.env.scope x → ∃ u, aJ v u ∧ zV X.env s.heap m x u
 cell : ∀ x c, X.env.cells.lookup x = some c → ∃ v, s.heap.IsCell c v
 free : H X.env.locals = none
 freeC : ∀ x c, X.env.cells.lookup x = some c → H c = none
 pin : ∀ p ∈ X.pn ++ pins, s.heap.get? p.1 = some p.2 ∧ H p.1 = none ∧ p.1 ≠ X.env.locals ∧ p.1 ∉ X.fs ∧ ∀ v, p.2.data ≠ .cell v
 hok : HOk X.prog X.w H s.heap
 len : σ.length = X.N.length
section
variable {X : Cx} {pins : List (Addr × Obj)} {σ : List (Option V)} {H H' : Hp} {s : Shared} {h' : Heap}
theorem Cx.Ok.nofr (ok : X.Ok) {b : Addr} {o : Obj} (e : X.base.get? b = some o) : b ∉ X.fs := fun hb => by
 have := (ok.funs.mem hb).1
 rw [e] at this; cases this
theorem Inv.bs (I : Inv X pins σ H s) : ∀ b o, X.base.get? b = some o → s.heap.get? b = some o ∧ H b = none := fun b o e =>
 ⟨I.base.keep b o (I.ok.bs b o e).1 (I.ok.bs b o e).2 (I.ok.nofr e) (I.ok.noex b o e), I.base.free b o (I.ok.bs b o e).1 (I.ok.bs b o e).2 (I.ok.noex b o e)⟩
theorem Inv.bk (I : Inv X pins σ H s) : ∀ b o, X.base.get? b = some o → s.heap.get? b = some o := fun b o e => (I.bs b o e).1
theorem Inv.mod (I : Inv X pins σ H s) : Mod X.K X.mg X.base := I.ok.mod
theorem Inv.kIn (I : Inv X pins σ H s) : X.K.In s.heap := I.ok.mod.kin.keeps I.bk
theorem Inv.lt (I : Inv X pins σ H s) : X.env.locals < s.heap.objs.size := let ⟨_, hn, _⟩ := I.loc; hn.lt
theorem Inv.sz (I : Inv X pins σ H s) : X.s₀.heap.objs.size ≤ s.heap.objs.size := Nat.le_trans I.ok.above (Nat.le_of_lt I.lt)
theorem Inv.nofs (I : Inv X pins σ H s) {a : Addr} (h : s.heap.objs.size ≤ a) : a ∉ X.fs := fun hb => by
 obtain ⟨_, o, ho, _⟩ := I.ok.funs.mem hb
 exact absurd (Nat.lt_of_lt_of_le (Heap.lt_size ho) (Nat.le_trans I.sz h)) (Nat.lt_irrefl _)
theorem Inv.cne (I : Inv X pins σ H s) : ∀ x c, X.env.cells.lookup x = some c → c ≠ X.env.locals := fun x c e z => by
 obtain ⟨v, o, ho, hd⟩ := I.cell x c e
 obtain ⟨m, ⟨o', es, ep, ho', hd', _⟩, _⟩ := I.loc
 rw [z, ho'] at ho; cases ho; rw [hd'] at hd; cases hd
theorem Inv.funs (I : Inv X pins σ H s) : s.heap.FunFrames X.base X.outer := by
  have all : ∀ (l : List Env), (∀ b ∈ frs l, b ∈ X.fs) → X.s₀.heap.FunFrames X.base l → s.heap.FunFrames X.base l := by
    intro l
    induction l with
    | nil => intro _ _; trivial
    | cons env r ih =>
      intro hs hl
      obtain ⟨hk, ⟨L, o, hf, hn, ho, hd⟩, hr⟩ := hl
      have hL : L ∈ X.fs := hs L (by unfold frs; rw [List.filterMap_cons, hf]; exact List.mem_cons_self)
      obtain ⟨sl, e⟩ := I.base.slot L o ho (I.ok.frf L hL) hL fun z => I.ok.exfs L z hL
      exact ⟨hk, ⟨L, _, hf, hn, e, hd⟩, ih (fun b hb => hs b (by unfold frs; rw [List.filterMap_cons, hf]; exact List.mem_cons_of_mem _ hb)) hr⟩
  exact all X.outer (fun _ hb => hb) I.ok.funs
theorem Inv.stack (I : Inv X pins σ H s) : s.heap.FunFrames X.base X.stack := by
 rcases I.ok.stk with e | ⟨e, hf⟩
 · rw [e]; exact I.funs
 · rw [e]
   obtain ⟨m, hn, _⟩ := I.loc
   refine .cons (by rw [I.ok.kind]; decide) hf hn ?_ I.funs
   exact Heap.get?_none_of_le (Nat.le_trans I.ok.bsz I.ok.above)
theorem Inv.stkSub (I : Inv X pins σ H s) : ∀ b ∈ frs X.stack, b ∈ X.env.locals :: X.fs := fun b hb => by
 rcases I.ok.stk with e | ⟨e, hf⟩
 · rw [e] at hb; exact List.mem_cons_of_mem _ hb
 · rw [e] at hb
   unfold frs at hb
   rw [List.filterMap_cons, hf] at hb
   exact hb
theorem Inv.stkFree (I : Inv X pins σ H s) : ∀ b ∈ frs X.stack, H b = none := fun b hb => by
 rcases List.mem_cons.mp (I.stkSub b hb) with e | hb
 · rw [e]; exact I.free
 · obtain ⟨_, o, ho, _⟩ := I.ok.funs.mem hb
   exact I.base.free b o ho (I.ok.frf b hb) fun z => I.ok.exfs b z hb
theorem Inv.step {g' : Array GenState} {t' : Nat} {d' : Drawn} {ch : List Addr} (I : Inv X pins σ H s)
   (hch : ∀ b ∈ ch, (b ∈ X.ex ∨ X.s₀.heap.objs.size ≤ b) ∧ b ≠ X.env.locals ∧ (∀ x c, X.env.cells.lookup x = some c → c ≠ b) ∧ ∀ p ∈ X.pn ++ pins, p.1 ≠ b)
   (keep : ∀ b o, b ≠ X.env.locals → b ∉ X.fs → b ∉ ch → s.heap.get? b = some o → H b = none → h'.get? b = some o)
   (slot : ∀ b o, b ≠ X.env.locals → b ∈ X.fs → b ∉ ch → s.heap.get? b = some o → H b = none → ∃ sl, h'.get? b = some { o with slots := sl }) (free : ∀ b o, b ∉ ch → s.heap.get? b = some o → H b = none → H' b = none)
   (there : ∀ b o, b ∉ ch → s.heap.get? b = some o → ∃ o', h'.get? b = some o')
   (tups : ∀ b xs, H b = some (.tup xs) → H' b = some (.tup xs)) (frzs : ∀ b o u, H b = some (.frz o u) → H' b = some (.frz o u)) (tbls : ∀ b ps, H b = some (.tbl ps) → ∃ more, H' b = some (.tbl (ps ++ more)))
   (ns : ∀ m, s.heap.Ns X.env.locals m → h'.Ns X.env.locals m) (hok : HOk X.prog X.w H' h') (hg : AllBare g') :
   Inv X pins σ H' { s with heap := h', gens := g', drawn := d', toks := t' } := by
 have neL : ∀ b o, X.s₀.heap.get? b = some o → b ≠ X.env.locals := fun b o e => Nat.ne_of_lt (Nat.lt_of_lt_of_le (Heap.lt_size e) I.ok.above)
 have neC : ∀ b o, X.s₀.heap.get? b = some o → b ∉ X.ex → b ∉ ch := fun b o e hx hb => by
   rcases (hch b hb).1 with z | z
   · exact hx z
   · exact absurd (Nat.lt_of_lt_of_le (Heap.lt_size e) z) (Nat.lt_irrefl _)
 have cellK : ∀ x c, X.env.cells.lookup x = some c → ∀ v, s.heap.IsCell c v → h'.IsCell c v := fun x c e v ⟨o, ho, hd⟩ => by
   have nch : c ∉ ch := fun z => (hch c z).2.2.1 x c e rfl
   by_cases hc : c ∈ X.fs
   · obtain ⟨sl, q⟩ := slot c o (I.cne x c e) hc nch ho (I.freeC x c e)
     exact ⟨_, q, hd⟩
   · exact ⟨o, keep c o (I.cne x c e) hc nch ho (I.freeC x c e), hd⟩
 refine ⟨I.ok, I.os, hg, ⟨fun b o e n hb hx => ?_, fun b o e n hb hx => ?_, fun b o e n hx => ?_, fun b o e hx => ?_, fun b xs e => tups b xs (I.base.tups b xs e), fun b o xs e => frzs b o xs (I.base.frzs b o xs e), fun b ps e => ?_⟩, ?_, fun x c e => ?_, ?_, fun x c e => ?_, fun p hp => ?_, hok, I.len⟩
 · exact keep b o (neL b o e) hb (neC b o e hx) (I.base.keep b o e n hb hx) (I.base.free b o e n hx)
 · obtain ⟨sl, e1⟩ := I.base.slot b o e n hb hx
   obtain ⟨sl', e2⟩ := slot b _ (neL b o e) hb (neC b o e hx) e1 (I.base.free b o e n hx)
   exact ⟨sl', e2⟩
 · obtain ⟨o', e1⟩ := I.base.there b o e hx
   exact free b o' (neC b o e hx) e1 (I.base.free b o e n hx)
 · obtain ⟨o', e1⟩ := I.base.there b o e hx
   exact there b o' (neC b o e hx) e1
 · obtain ⟨m1, e1⟩ := I.base.tbls b ps e
   obtain ⟨m2, e2⟩ := tbls b _ e1
   exact ⟨m1 ++ m2, by rw [e2, Array.append_assoc]⟩
 · obtain ⟨m, hn, hl⟩ := I.loc
   refine ⟨m, ns m hn, fun i x v e1 e2 e3 => ?_⟩
   obtain ⟨u, r, l⟩ := hl i x v e1 e2 e3
   refine ⟨u, r, ?_⟩
   rcases l with l | ⟨k, c, e, z⟩
   · exact .inl l
   · exact .inr ⟨k, c, e, cellK x c e _ z⟩
 · obtain ⟨v, z⟩ := I.cell x c e
   exact ⟨v, cellK x c e v z⟩
 · obtain ⟨m, ⟨o, _, _, ho, _⟩, _⟩ := I.loc
   exact free _ o (fun z => (hch _ z).2.1 rfl) ho I.free
 · obtain ⟨v, o, ho, hd⟩ := I.cell x c e
   exact free c o (fun z => (hch c z).2.2.1 x c e rfl) ho (I.freeC x c e)
 · obtain ⟨e, n, ne, nf, d⟩ := I.pin p hp
   have nch : p.1 ∉ ch := fun z => (hch p.1 z).2.2.2 p hp rfl
   exact ⟨keep p.1 p.2 ne nf nch e n, free p.1 p.2 nch e n, ne, nf, d⟩
theorem Inv.un {t' : Nat} (I : Inv X pins σ H s) (u : Un X.fs [] H H' s.heap h') (hok : HOk X.prog X.w H' h') : Inv X pins σ H' { s with heap := h', toks := t' } := by
 obtain ⟨m, ⟨o, es, ep, ho, r⟩, _⟩ := id I.loc
 obtain ⟨sl, hL⟩ := u.any ho I.free (by simp)
 exact I.step (g' := s.gens) (d' := s.drawn) (ch := []) (fun _ z => nomatch z) (fun b o _ hb _ e n => u.keep b o e n hb (by simp)) (fun b o _ hb _ e n => u.slot b o e n hb (by simp)) (fun b o _ e n => u.free b o e n (by simp)) (fun b o _ e => u.there b o e (by simp)) u.tups u.frzs u.tbls (fun m' hm => by
  obtain ⟨o', es', ep', ho', r'⟩ := hm
  rw [ho] at ho'; cases ho'
  exact ⟨_, es', ep', hL, r'⟩) hok I.bare
theorem Inv.call {g' : Array GenState} {t' : Nat} {d' : Drawn} {ch : List Addr} (I : Inv X pins σ H s) (u : Un (frs X.stack) ch H H' s.heap h') (hok : HOk X.prog X.w H' h') (hg : AllBare g')
  (hch : ∀ b ∈ ch, (b ∈ X.ex ∨ X.s₀.heap.objs.size ≤ b) ∧ b ≠ X.env.locals ∧ (∀ x c, X.env.cells.lookup x = some c → c ≠ b) ∧ ∀ p ∈ X.pn ++ pins, p.1 ≠ b) :
  Inv X pins σ H' { s with heap := h', gens := g', drawn := d', toks := t' } := by
 obtain ⟨m, ⟨o, es, ep, ho, r⟩, _⟩ := id I.loc
 obtain ⟨sl, hL⟩ := u.any ho I.free fun z => (hch _ z).2.1 rfl
 exact I.step (ch := ch) hch (fun b o hL hb hc e n => u.keep b o e n (fun z => (List.mem_cons.mp (I.stkSub b z)).elim hL hb) hc) (fun b o _ _ hc e n => u.any e n hc) (fun b o hc e n => u.free b o e n hc) (fun b o hc e => u.there b o e hc) u.tups u.frzs u.tbls (fun m' hm => by
  obtain ⟨o', es', ep', ho', r'⟩ := hm
  rw [ho] at ho'; cases ho'
  exact ⟨_, es', ep', hL, r'⟩) hok hg
theorem Inv.turned {t' : Nat} {it : Addr} (I : Inv X pins σ H s) (k : ∀ b o, b ≠ it → s.heap.get? b = some o → h'.get? b = some o) (hn : H it = none) (hL : it ≠ X.env.locals)
   (h1 : it ∈ X.ex ∨ X.s₀.heap.objs.size ≤ it) (h2 : ∀ x c, X.env.cells.lookup x = some c → c ≠ it) (h3 : ∀ p ∈ X.pn ++ pins, p.1 ≠ it) : Inv X pins σ H { s with heap := h', toks := t' } := by
 have nit : ∀ b u, H b = some u → b ≠ it := fun b u e z => by rw [z, hn] at e; cases e
 refine I.step (g' := s.gens) (d' := s.drawn) (ch := [it]) (fun b hb => ?_) (fun b o _ _ hc e _ => k b o (fun z => hc (by simp [z])) e) (fun b o _ _ hc e _ => ⟨o.slots, k b o (fun z => hc (by simp [z])) e⟩) (fun _ _ _ _ n => n)
   (fun b o hc e => ⟨o, k b o (fun z => hc (by simp [z])) e⟩) (fun _ _ e => e) (fun _ _ _ e => e) (fun b ps e => ⟨#[], by rw [e]; simp⟩) (fun m hm => ?_) (fun b u e => ?_) I.bare
 · have e : b = it := by simpa using hb
   subst e
   exact ⟨h1, hL, h2, h3⟩
 · obtain ⟨o, es, ep, ho, r⟩ := hm
   exact ⟨o, es, ep, k _ o (Ne.symm hL) ho, r⟩
 · refine (I.hok b u e).stay (fun c v hc q => k c v ?_ q) (fun _ q => q) fun _ _ q => q
   rcases hc with z | z
   · rw [z]; exact nit b u e
   · exact nit c _ z
theorem Inv.tok (I : Inv X pins σ H s) (t : Nat) : Inv X pins σ H { s with toks := t } := I.un (h' := s.heap) (t' := t) Un.refl I.hok
theorem Inv.kept {t' : Nat} (I : Inv X pins σ H s) (k : ∀ b u, s.heap.get? b = some u → h'.get? b = some u) : Inv X pins σ H { s with heap := h', toks := t' } := I.un (Un.kept k) (I.hok.kept k)
theorem Inv.laid {a : Addr} {o : HO} {t' : Nat} (I : Inv X pins σ H s) (k : ∀ b u, s.heap.get? b = some u → h'.get? b = some u) (hp : s.heap.objs.size ≤ a) (new : aR X.prog X.w (upd H a o) h' a o) :
 Inv X pins σ (upd H a o) { s with heap := h', toks := t' } := I.un (Un.laid k hp (I.hok.fresh hp)) (I.hok.laid k hp new)
theorem Inv.write {x e : Addr} {o : HO} {t' : Nat} (I : Inv X pins σ H s) (mu : Mut (H x)) (he : e = x ∨ H e = some (.own x)) (k : ∀ b u, b ≠ e → s.heap.get? b = some u → h'.get? b = some u) (heo : ∃ u, h'.get? e = some u)
 (new : aR X.prog X.w (upd H x o) h' x o) : Inv X pins σ (upd H x o) { s with heap := h', toks := t' } := I.un (Un.write mu he k heo) (I.hok.write mu he k heo new)
theorem Inv.pins_of {pins' : List (Addr × Obj)} (I : Inv X pins σ H s) (h : ∀ p ∈ pins', s.heap.get? p.1 = some p.2 ∧ H p.1 = none ∧ p.1 ≠ X.env.locals ∧ p.1 ∉ X.fs ∧ ∀ v, p.2.data ≠ .cell v) : Inv X pins' σ H s :=
 ⟨I.ok, I.os, I.bare, I.base, I.loc, I.cell, I.free, I.freeC, fun p hp => (List.mem_append.mp hp).elim (fun z => I.pin p (List.mem_append_left _ z)) (h p), I.hok, I.len⟩
theorem jy {N : List Str} (hN : N.Nodup) {i j : Nat} {x : Str} (a : N[i]? = some x) (b : N[j]? = some x) : i = j := by
 obtain ⟨h1, e1⟩ := List.getElem?_eq_some_iff.mp a
 obtain ⟨h2, e2⟩ := List.getElem?_eq_some_iff.mp b
 exact (List.getElem_inj hN).mp (e1.trans e2.symm)
theorem rp {M : Model} {A : Around} {E : Value → Shared → Prop} {i : Nat} {x : Str} {v : V} {u : Value} {Q : Unit → Shared → Prop} (I : Inv X pins σ H s) (hN : X.N.Nodup) (hi : X.N[i]? = some x) (hx : Loc X.env.scope x) (r : aJ v u)
   (h : ∀ s', Inv X pins (σ.set i (some v)) H s' → (∃ a, Heap.SameBut a s.heap s'.heap ∧ (a = X.env.locals ∨ X.env.cells.lookup x = some a)) → Q () s') (hf : X.fn x = true ∨ X.env.scope.names.lookup x = some .local := by first | exact .inl rfl | exact .inr rfl | assumption) : wpAny M A (storeName X.env x u) Q E s := by
 obtain ⟨m, hn, hl⟩ := id I.loc
 have hcls : (X.env.scope.kind == .class || (X.env.scope.kind == .module && X.env.locals != X.env.globals)) = false := by rw [I.ok.kind]; rfl
 have hiσ : i < σ.length := by rw [I.len]; exact (List.getElem?_eq_some_iff.mp hi).1
 have cne := I.cne
 have tracked : ∀ {a : Addr} {h' : Heap}, (∃ o, s.heap.get? a = some o ∧ H a = none) → Heap.SameBut a s.heap h' → HOk X.prog X.w H h' := fun {a h'} ha hs b ob e => by
   obtain ⟨_, _, hfree⟩ := ha
   refine (I.hok b ob e).stay (fun c w' hc q => (hs.2 c ?_).trans q) (fun _ q => q) fun _ _ q => q
   rintro rfl
   rcases hc with rfl | hc
   · rw [hfree] at e; cases e
   · rw [hfree] at hc; cases hc
 rcases hx with hk | hk
 · refine wpAny_storeName_local hk hn (fun h' hn' hs => ?_) hcls
   obtain ⟨oL, _, _, hoL, _⟩ := id hn
   refine h _ ⟨I.ok, I.os, I.bare, ⟨fun b o e n hb hx => ?_, fun b o e n hb hx => ?_, I.base.free, fun b o e hx => ?_, I.base.tups, I.base.frzs, I.base.tbls⟩, ⟨_, hn', fun j y v' e1 e2 e3 => ?_⟩, fun y c e => ?_, I.free, I.freeC, fun p hp => ?_, tracked ⟨oL, hoL, I.free⟩ hs, by simpa using I.len⟩ ⟨_, hs, .inl rfl⟩
   · exact (hs.2 b (Nat.ne_of_lt (Nat.lt_of_lt_of_le (Heap.lt_size e) I.ok.above))).trans (I.base.keep b o e n hb hx)
   · obtain ⟨sl, e1⟩ := I.base.slot b o e n hb hx
     exact ⟨sl, (hs.2 b (Nat.ne_of_lt (Nat.lt_of_lt_of_le (Heap.lt_size e) I.ok.above))).trans e1⟩
   · obtain ⟨o', e1⟩ := I.base.there b o e hx
     exact ⟨o', (hs.2 b (Nat.ne_of_lt (Nat.lt_of_lt_of_le (Heap.lt_size e) I.ok.above))).trans e1⟩
   · by_cases hj : j = i
     · subst hj
       rw [hi] at e1; cases e1
       rw [List.getElem?_set_self hiσ] at e2
       cases e2
       exact ⟨u, r, .inl ⟨hk, by simp⟩⟩
     · rw [List.getElem?_set_ne (Ne.symm hj)] at e2
       obtain ⟨u', r', q⟩ := hl j y v' e1 e2 e3
       refine ⟨u', r', ?_⟩
       rcases q with ⟨k, e⟩ | ⟨k, c, e, z⟩
       · refine .inl ⟨k, ?_⟩
         have : y ≠ x := fun e => hj (jy hN e1 (e ▸ hi))
         simp [this, e]
       · exact .inr ⟨k, c, e, z.sameBut hs (cne y c e)⟩
   · obtain ⟨w', z⟩ := I.cell y c e
     exact ⟨w', z.sameBut hs (cne y c e)⟩
   · obtain ⟨e, n, ne, nf, d⟩ := I.pin p hp
     exact ⟨(hs.2 p.1 ne).trans e, n, ne, nf, d⟩
 · have hfn : X.fn x = true := by
     rcases hf with z | z
     · exact z
     · rw [z] at hk; cases hk
   obtain ⟨c, hc⟩ := I.ok.has x (.inl hk)
   obtain ⟨w', z⟩ := I.cell x c hc
   refine wpAny_storeName_cell I.ok.kind hk hc z (fun h' hc' hs => ?_)
   obtain ⟨oc, hoc, hocd⟩ := id z
   refine h { s with heap := h' } ⟨I.ok, I.os, I.bare, ⟨fun b o e n hb hx => ?_, fun b o e n hb hx => ?_, I.base.free, fun b o e hx => ?_, I.base.tups, I.base.frzs, I.base.tbls⟩, ⟨m, hn.sameBut hs (Ne.symm (cne x c hc)), fun j y v' e1 e2 e3 => ?_⟩, fun y c' e => ?_, I.free, I.freeC, fun p hp => ?_, tracked ⟨oc, hoc, I.freeC x c hc⟩ hs, by simpa using I.len⟩ ⟨c, hs, .inr hc⟩
   · exact (hs.2 b (Nat.ne_of_lt (Nat.lt_of_lt_of_le (Heap.lt_size e) (I.ok.cab x c hfn hc)))).trans (I.base.keep b o e n hb hx)
   · obtain ⟨sl, e1⟩ := I.base.slot b o e n hb hx
     exact ⟨sl, (hs.2 b (Nat.ne_of_lt (Nat.lt_of_lt_of_le (Heap.lt_size e) (I.ok.cab x c hfn hc)))).trans e1⟩
   · obtain ⟨o', e1⟩ := I.base.there b o e hx
     exact ⟨o', (hs.2 b (Nat.ne_of_lt (Nat.lt_of_lt_of_le (Heap.lt_size e) (I.ok.cab x c hfn hc)))).trans e1⟩
   · by_cases hj : j = i
     · subst hj
       rw [hi] at e1; cases e1
       rw [List.getElem?_set_self hiσ] at e2
       cases e2
       exact ⟨u, r, .inr ⟨.inl hk, c, hc, hc'⟩⟩
     · rw [List.getElem?_set_ne (Ne.symm hj)] at e2
       obtain ⟨u', r', q⟩ := hl j y v' e1 e2 e3
       refine ⟨u', r', ?_⟩
       rcases q with q | ⟨k, c', e, z'⟩
       · exact .inl q
       · refine .inr ⟨k, c', e, z'.sameBut hs ?_⟩
         rintro rfl
         exact hj (jy hN e1 (I.ok.inj _ _ _ e hc ▸ hi))
   · by_cases hcc : c' = c
     · subst hcc; exact ⟨_, hc'⟩
     · obtain ⟨w2, z2⟩ := I.cell y c' e
       exact ⟨w2, z2.sameBut hs hcc⟩
   · obtain ⟨e, n, ne, nf, d⟩ := I.pin p hp
     refine ⟨(hs.2 p.1 ?_).trans e, n, ne, nf, d⟩
     intro q
     rw [q, hoc] at e
     have q' : oc = p.2 := Option.some.inj e
     exact d w' (by rw [← q']; exact hocd)
theorem eK {M : Model} {A : Around} {E : Value → Shared → Prop} {i : Nat} {x : Str} {v : V} {u : Value} {Q : Unit → Shared → Prop} (I : Inv X pins σ H s) (hN : X.N.Nodup) (hi : X.N[i]? = some x) (hx : Loc X.env.scope x) (r : aJ v u)
  (h : ∀ s', Inv X pins (σ.set i (some v)) H s' → Q () s') (hf : X.fn x = true ∨ X.env.scope.names.lookup x = some .local := by first | exact .inl rfl | exact .inr rfl | assumption) : wpAny M A (storeName X.env x u) Q E s :=
 rp I hN hi hx r (fun s' I' _ => h s' I') hf
theorem Inv.call' {s' : Shared} {ch : List Addr} (I : Inv X pins σ H s) (ho : s'.os = s.os) (u : Un (frs X.stack) ch H H' s.heap s'.heap) (hok : HOk X.prog X.w H' s'.heap) (hg : AllBare s'.gens)
  (hch : ∀ b ∈ ch, (b ∈ X.ex ∨ X.s₀.heap.objs.size ≤ b) ∧ b ≠ X.env.locals ∧ (∀ x c, X.env.cells.lookup x = some c → c ≠ b) ∧ ∀ p ∈ X.pn ++ pins, p.1 ≠ b) : Inv X pins σ H' s' := by
 obtain ⟨h', g', d', t', o'⟩ := s'
 have e : o' = s.os := ho
 subst e
 exact I.call (g' := g') (t' := t') (d' := d') u hok hg hch
end
abbrev XK := Value → Option Addr → Hp → Prop
abbrev St := List (Option V)
abbrev VK := V → Hp → Prop
abbrev TE := St → Hp → VK → Prop
abbrev TT := St → Hp → (Bool → Hp → Prop) → Prop
abbrev TA := St → Hp → (List V → Hp → Prop) → Prop
structure eC where
 nx : St → Hp → Prop
 rt : VK
 bk : St → Hp → Prop := fun _ _ => False
 ct : St → Hp → Prop := fun _ _ => False
abbrev TS := eC → St → Hp → Prop
def EP (X : Cx) (pins : List (Addr × Obj)) (σ : St) (Q : VK) (u : Value) (s' : Shared) : Prop := ∃ v H', Inv X pins σ H' s' ∧ aJ v u ∧ Q v H'
def TP (X : Cx) (pins : List (Addr × Obj)) (σ : St) (Q : Bool → Hp → Prop) (b : Bool) (s' : Shared) : Prop := ∃ H', Inv X pins σ H' s' ∧ Q b H'
def AP (X : Cx) (pins : List (Addr × Obj)) (σ : St) (Q : List V → Hp → Prop) (us : List Value) (s' : Shared) : Prop := ∃ vs H', Inv X pins σ H' s' ∧ aK vs us ∧ Q vs H'
def SP (X : Cx) (pins : List (Addr × Obj)) (D : eC) (f : Flow) (s' : Shared) : Prop :=
 match f with
 | .next => ∃ σ' H', Inv X pins σ' H' s' ∧ D.nx σ' H'
 | .brk => ∃ σ' H', Inv X pins σ' H' s' ∧ D.bk σ' H'
 | .cont => ∃ σ' H', Inv X pins σ' H' s' ∧ D.ct σ' H'
 | .ret u => ∃ v σ' H', Inv X pins σ' H' s' ∧ aJ v u ∧ D.rt v H'
def PE (X : Cx) (e : Expr) (t : TE) : Prop :=
 ∀ (pins : List (Addr × Obj)) (s : Shared) (σ : St) (H : Hp) (Q : VK), Inv X pins σ H s → t σ H Q → wpAny (model X.prog X.w) X.A (eval e X.env) (EP X pins σ Q) X.xe s
def PT (X : Cx) (e : Expr) (t : TT) : Prop :=
 ∀ (pins : List (Addr × Obj)) (s : Shared) (σ : St) (H : Hp) (Q : Bool → Hp → Prop), Inv X pins σ H s → t σ H Q → wpAny (model X.prog X.w) X.A (isTrue e X.env (eval e X.env)) (TP X pins σ Q) X.xe s
def PW (X : Cx) (e : Expr) (t : TT) : Prop :=
 ∀ (whole : Sem Value) (pins : List (Addr × Obj)) (s : Shared) (σ : St) (H : Hp) (Q : Bool → Hp → Prop), Inv X pins σ H s → t σ H Q → wpAny (model X.prog X.w) X.A (isTrue e X.env whole) (TP X pins σ Q) X.xe s
theorem PW.pt {X : Cx} {e : Expr} {t : TT} (h : PW X e t) : PT X e t := h _
def PA (X : Cx) (es : List Expr) (t : TA) : Prop :=
 ∀ (pos : Pos) (pins : List (Addr × Obj)) (s : Shared) (σ : St) (H : Hp) (Q : List V → Hp → Prop), Inv X pins σ H s → t σ H Q → wpAny (model X.prog X.w) X.A (spliced (backTo pos (starEach es X.env))) (AP X pins σ Q) X.xe s
def PS (X : Cx) (st : Stmt) (t : TS) : Prop :=
 ∀ (pins : List (Addr × Obj)) (s : Shared) (σ : St) (H : Hp) (D : eC), Inv X pins σ H s → t D σ H → wpAny (model X.prog X.w) X.A (exec st X.env) (SP X pins D) X.xe s
def PSs (X : Cx) (st : List Stmt) (t : TS) : Prop :=
 ∀ (pins : List (Addr × Obj)) (s : Shared) (σ : St) (H : Hp) (D : eC), Inv X pins σ H s → t D σ H → wpAny (model X.prog X.w) X.A (execs st X.env) (SP X pins D) X.xe s
theorem thn {α : Type} {t : Sem α} {Q Q' : α → Shared → Prop} {M : Model} {A : Around} {E : Value → Shared → Prop} {s : Shared} (h : wpAny M A t Q E s) (hQ : ∀ a s, Q a s → Q' a s) : wpAny M A t Q' E s := wpAny_mono h hQ fun _ _ x => x
end L2
namespace L2
open PySem PySem.Spec PyProof.Rows
section
variable {X : Cx}
def Fl (i : Nat) : TE := fun σ H Q => ∃ v, σ[i]? = some (some v) ∧ Q v H
def tC (v : V) : TE := fun _ H Q => Q v H
theorem zq {i : Nat} {x : Str} {pos : Pos} (hN : X.N[i]? = some x) (hv : Vis X.env.scope x) (hd : (x == ("__debug__" : Str)) = false := by decide) (hcd : (x == ("__classdict__" : Str)) = false := by decide) : PE X (.Name x pos) (Fl i) := by
 intro pins s σ H Q I h
 obtain ⟨v, e, h⟩ := h
 obtain ⟨m, hn, hl⟩ := I.loc
 obtain ⟨u, r, l⟩ := hl i x v hN e hv
 have fin : EP X pins σ Q u s := ⟨v, H, I, r, h⟩
 rcases l with ⟨hk, hm⟩ | ⟨hk, c, hc, hcell⟩
 · exact wpAny_Name (wpAny_loadName_local I.ok.kind hk hn hm fin) hd
 · rcases hk with hk | hk
   · exact wpAny_Name (wpAny_loadName_cell I.ok.kind hk hc hcell fin) hd
   · exact wpAny_Name (wpAny_loadName_free I.ok.kind hk hc hcell fin hcd) hd
theorem yy {i j pos} : PE X (.Constant (.int i) j pos) (tC (.int i)) := fun _ _ _ H _ I h => wpAny_Constant_int ⟨.int i, H, I.tok _, ⟨_, rfl⟩, h⟩
theorem Dr {b j pos} : PE X (.Constant (.bool b) j pos) (tC (.bl b)) := fun _ _ _ H _ I h => Constant_bool ⟨.bl b, H, I, rfl, h⟩
theorem zn {j pos} : PE X (.Constant .none j pos) (tC .non) := fun _ _ _ H _ I h => Constant_none ⟨.non, H, I, rfl, h⟩
theorem yV {x j pos} : PE X (.Constant (.str x) j pos) (tC (.str x)) := fun _ _ _ H _ I h => Calls.Constant_str ⟨.str x, H, I.tok _, ⟨_, rfl⟩, h⟩
def Gl (X : Cx) (x : Str) : Prop := X.env.kindOf x = some .globalImplicit
theorem gs {E : Value → Shared → Prop} {pins : List (Addr × Obj)} {s : Shared} {σ : St} {H : Hp} {x : Str} {u : Value} {pos : Pos} {Q : Value → Shared → Prop} (I : Inv X pins σ H s) (hg : Gl X x) (hm : X.mg x = some u) (h : Q u s)
  (hd : (x == ("__debug__" : Str)) = false := by decide) : wpAny (model X.prog X.w) X.A (eval (.Name x pos) X.env) Q E s :=
 Calls.Name_function_global I.ok.kind hg (Calls.loadGlobal_global (by rw [I.ok.glob]; exact I.mod.glob.keeps I.bk) hm h) hd
theorem eA {E : Value → Shared → Prop} {pins : List (Addr × Obj)} {s : Shared} {σ : St} {H : Hp} {x : Str} {u : Value} {pos : Pos} {Q : Value → Shared → Prop} (I : Inv X pins σ H s) (hg : Gl X x) (hm : X.mg x = none) (hv : bootBuiltins x = some u) (h : Q u s)
  (hn : x ≠ "__name__" := by decide) (hd : (x == ("__debug__" : Str)) = false := by decide) : wpAny (model X.prog X.w) X.A (eval (.Name x pos) X.env) Q E s := by
 obtain ⟨mb, h1, h2⟩ := I.mod.blt
 exact Calls.Name_function_global I.ok.kind hg (Calls.loadGlobal_builtin (by rw [I.ok.glob]; exact I.mod.glob.keeps I.bk) hm (by rw [I.ok.blt]; exact h1.keeps I.bk) ((h2 x hn).trans hv) h) hd
theorem xG {x : Str} {v : V} {u : Value} {pos : Pos} (hg : Gl X x) (hm : X.mg x = some u) (r : aJ v u) (hd : (x == ("__debug__" : Str)) = false := by decide) : PE X (.Name x pos) (tC v) :=
 fun _ _ _ H _ I h => gs I hg hm ⟨v, H, I, r, h⟩ hd
theorem ya {x : Str} {v : V} {u : Value} {pos : Pos} (hg : Gl X x) (hm : X.mg x = none) (hv : bootBuiltins x = some u) (r : aJ v u) (hn : x ≠ "__name__" := by decide) (hd : (x == ("__debug__" : Str)) = false := by decide) : PE X (.Name x pos) (tC v) :=
 fun _ _ _ H _ I h => eA I hg hm hv ⟨v, H, I, r, h⟩ hn hd
variable {a b : Expr} {ta tb : TE} {pos : Pos}
variable {tA tB' : TT} {bX : List Expr}
def dM (t : TT) : TT := fun σ H Q => t σ H fun c H1 => Q (!c) H1
theorem wY (ha : PT X a tA) : PW X (.BoolOp .And [a] pos) tA := by
 intro wh pins s σ H Q I h
 refine isTrue_and (thn (ha pins s σ H Q I h) fun c s1 e => ?_)
 cases c with
 | true => exact isTrue_and_nil e
 | false => exact e
theorem zC (ha : PT X a tA) : PW X (.BoolOp .Or [a] pos) tA := by
 intro wh pins s σ H Q I h
 refine isTrue_or (thn (ha pins s σ H Q I h) fun c s1 e => ?_)
 cases c with
 | false => exact isTrue_or_nil e
 | true => exact e
theorem Ay (ha : PT X a tA) : PT X (.UnaryOp .Not a pos) (dM tA) := by
 intro pins s σ H Q I h
 exact isTrue_not (ha pins s σ H (fun c H1 => Q (!c) H1) I h)
theorem AM {op} {t : TE} (h : PE X a t) : PE X (.BoolOp op [a] pos) t := fun pins s σ H Q I hw => BoolOp_one (h pins s σ H Q I hw)
end
end L2
namespace L2
open PySem PySem.Spec PyProof.Rows
def SqL (K : W.Frag) (H : Hp) (a : Addr) (xs : List V) : Prop :=
 Rd H a (.lst xs) ∨
  ∃ (o : Obj) (its : Array Value) (n : Nat), K.lookup a = some o ∧ o.cls = .type "list" ∧ o.dict = none ∧ o.data = .seq its n ∧ its.size ≤ sizeLine ∧ aK xs its.toList
def SqT (K : W.Frag) (H : Hp) (a : Addr) (xs : List V) : Prop :=
 Rd H a (.tup xs) ∨
  ∃ (o : Obj) (its : Array Value) (n : Nat), K.lookup a = some o ∧ o.cls = .type "tuple" ∧ o.data = .seq its n ∧ its.size ≤ sizeLine ∧ aK xs its.toList
def Et : Value → Option V
 | .none => some .non
 | .bool b => some (.bl b)
 | .int i _ => some (.int i)
 | .str x _ => some (.str x)
 | .bytes b _ => some (.byt b)
 | .float b _ => some (.flt b)
 | .ref a => some (.ref a)
 | .type n => some (.ty n)
 | _ => none
theorem aJ.abs {x : V} {u : Value} (r : aJ x u) : Et u = some x := by
 cases x with
 | non => cases r; rfl
 | bl _ => cases r; rfl
 | int _ => obtain ⟨t, rfl⟩ := r; rfl
 | str _ => obtain ⟨t, rfl⟩ := r; rfl
 | byt _ => obtain ⟨t, rfl⟩ := r; rfl
 | flt _ => obtain ⟨t, rfl⟩ := r; rfl
 | ref _ => cases r; rfl
 | ty _ => cases r; rfl
theorem aJ.inj {x y : V} {u : Value} (r : aJ x u) (q : aJ y u) : x = y := Option.some.inj (r.abs.symm.trans q.abs)
theorem aK.inj : ∀ {xs ys : List V} {us : List Value}, aK xs us → aK ys us → xs = ys
 | _, _, _, .nil, .nil => rfl
 | _, _, _, .cons r t, .cons r' t' => by rw [r.inj r', aK.inj t t']
section
variable {X : Cx} {pins : List (Addr × Obj)} {σ : St} {H : Hp} {s : Shared} {a : Addr} {xs ys : List V}
theorem SqL.of {K : W.Frag} (h : H a = some (.lst xs)) : SqL K H a xs := .inl (.inl h)
theorem SqT.of {K : W.Frag} (h : H a = some (.tup xs)) : SqT K H a xs := .inl (.inl h)
theorem Inv.list (I : Inv X pins σ H s) (h : SqL X.K H a xs) : ∃ its : List Value, aK xs its ∧ PlainL s.heap a its.toArray ∧ xs.length ≤ sizeLine := by
 rcases h with h | ⟨o, its, n, hk, hc, hd, hs, hz, r⟩
 · obtain ⟨z, its, n, r, e⟩ := h.ok I.hok
   exact ⟨its, r, ⟨_, n, e, rfl, rfl, rfl⟩, z⟩
 · refine ⟨its.toList, r, ⟨o, n, I.kIn a o hk, hc, hd, by simpa using hs⟩, ?_⟩
   have e := r.length
   simp only [Array.length_toList] at e
   omega
theorem Inv.tuple (I : Inv X pins σ H s) (h : SqT X.K H a xs) : ∃ its : List Value, aK xs its ∧ IsTup s.heap a its.toArray ∧ xs.length ≤ sizeLine := by
 rcases h with h | ⟨o, its, n, hk, hc, hs, hz, r⟩
 · obtain ⟨z, its, r, p⟩ := h.ok I.hok
   exact ⟨its, r, p, z⟩
 · refine ⟨its.toList, r, ⟨o, I.kIn a o hk, hc, n, by simpa using hs⟩, ?_⟩
   have e := r.length
   simp only [Array.length_toList] at e
   omega
theorem Inv.list_inj (I : Inv X pins σ H s) (h : SqL X.K H a xs) (h' : SqL X.K H a ys) : xs = ys := by
 obtain ⟨its, r, ⟨o, n, e, _, _, d⟩, _⟩ := I.list h
 obtain ⟨its', r', ⟨o', n', e', _, _, d'⟩, _⟩ := I.list h'
 rw [e] at e'; cases e'
 rw [d] at d'
 injection d' with d1 _
 have : its = its' := by simpa using congrArg Array.toList d1
 subst this
 exact r.inj r'
theorem Inv.tuple_inj (I : Inv X pins σ H s) (h : SqT X.K H a xs) (h' : SqT X.K H a ys) : xs = ys := by
 obtain ⟨its, r, ⟨o, e, _, n, d⟩, _⟩ := I.tuple h
 obtain ⟨its', r', ⟨o', e', _, n', d'⟩, _⟩ := I.tuple h'
 rw [e] at e'; cases e'
 rw [d] at d'
 injection d' with d1 _
 have : its = its' := by simpa using congrArg Array.toList d1
 subst this
 exact r.inj r'
end
abbrev Cx.wish (X : Cx) (E : Value → Shared → Prop) : Cx := { X with xe := E }
abbrev Cx.nox (X : Cx) : Cx := X.wish fun _ _ => False
theorem Cx.Ok.wish {X : Cx} (ok : X.Ok) (E : Value → Shared → Prop) : (X.wish E).Ok :=
 ⟨ok.mod, ok.kind, ok.glob, ok.blt, ok.above, ok.inj, ok.has, ok.cab, ok.hd, ok.frames, ok.stk, ok.exf, ok.bs, ok.bsz, ok.noex, ok.exfs, ok.funs, ok.frf⟩
theorem Cx.Ok.unwish {X : Cx} {E : Value → Shared → Prop} (ok : (X.wish E).Ok) : X.Ok :=
 ⟨ok.mod, ok.kind, ok.glob, ok.blt, ok.above, ok.inj, ok.has, ok.cab, ok.hd, ok.frames, ok.stk, ok.exf, ok.bs, ok.bsz, ok.noex, ok.exfs, ok.funs, ok.frf⟩
section
variable {X : Cx} {pins : List (Addr × Obj)} {σ : St} {H : Hp} {s : Shared} {E : Value → Shared → Prop}
theorem Inv.wish (I : Inv X pins σ H s) (E : Value → Shared → Prop) : Inv (X.wish E) pins σ H s := ⟨I.ok.wish E, I.os, I.bare, I.base, I.loc, I.cell, I.free, I.freeC, I.pin, I.hok, I.len⟩
theorem Inv.unwish (I : Inv (X.wish E) pins σ H s) : Inv X pins σ H s := ⟨I.ok.unwish, I.os, I.bare, I.base, I.loc, I.cell, I.free, I.freeC, I.pin, I.hok, I.len⟩
theorem SP.unwish {D : eC} {f : Flow} {s' : Shared} (h : SP (X.wish E) pins D f s') : SP X pins D f s' := by
 cases f with
 | next => obtain ⟨σ', H', I, q⟩ := h; exact ⟨σ', H', I.unwish, q⟩
 | brk => obtain ⟨σ', H', I, q⟩ := h; exact ⟨σ', H', I.unwish, q⟩
 | cont => obtain ⟨σ', H', I, q⟩ := h; exact ⟨σ', H', I.unwish, q⟩
 | ret u => obtain ⟨v, σ', H', I, r, q⟩ := h; exact ⟨v, σ', H', I.unwish, r, q⟩
theorem PE.nox {e : Expr} {t : TE} (h : PE X.nox e t) : PE X e t := fun pins s σ H Q I hw =>
 wpAny_mono (h pins s σ H Q (I.wish _) hw) (fun _ _ ⟨v, H', I', r, q⟩ => ⟨v, H', I'.unwish, r, q⟩) fun _ _ z => False.elim z
theorem PSs.nox {st : List Stmt} {t : TS} (h : PSs X.nox st t) : PSs X st t := fun pins s σ H D I hw =>
 wpAny_mono (h pins s σ H D (I.wish _) hw) (fun _ _ q => q.unwish) fun _ _ z => False.elim z
end
section
variable {X : Cx} {st : Stmt} {bX : List Stmt} {t u : TS} {e : Expr} {te : TE} {pos : Pos}
def aM : TS := fun D σ H => D.nx σ H
def au (t u : TS) : TS := fun D σ H => t { D with nx := u D } σ H
theorem xc : PSs X [] aM := fun _ _ σ H _ I h => wpAny_execs_nil ⟨σ, H, I, h⟩
theorem tG (h1 : PS X st t) (h2 : PSs X bX u) : PSs X (st :: bX) (au t u) := by
  intro pins s σ H D I h
  refine wpAny_execs_cons (thn (h1 pins s σ H { D with nx := u D } I h) fun f s1 q => ?_)
  cases f with
  | next =>
    obtain ⟨σ', H', I', q⟩ := q
    exact h2 pins s1 σ' H' D I' q
  | ret v => exact q
  | brk => exact q
  | cont => exact q
theorem wS (h1 : PS X st t) : PSs X [st] t := by
 intro pins s σ H D I h
 refine wpAny_execs_cons (thn (h1 pins s σ H D I h) fun f s1 q => ?_)
 cases f with
 | next => exact wpAny_execs_nil q
 | ret v => exact q
 | brk => exact q
 | cont => exact q
theorem Inv.quiet {pins : List (Addr × Obj)} {σ : St} {H : Hp} {s : Shared} (I : Inv X pins σ H s) : interactive X.env = false := by simp [interactive, I.ok.kind]
def cp (te : TE) : TS := fun D σ H => te σ H fun _ H1 => D.nx σ H1
theorem xB (he : PE X e te) (hs : swapsWith e none pos.line X.env = pure false := by rfl) : PS X (.Expr e pos) (cp te) := by
 intro pins s σ H D I h
 exact wpAny_Expr_any (thn (he pins s σ H _ I h) fun v s1 ⟨x, H1, I1, r1, q1⟩ => ⟨σ, H1, I1, q1⟩) I.quiet hs
def aH (te : TE) : TS := fun D σ H => te σ H D.rt
theorem zE (he : PE X e te) : PS X (.Return (some e) pos) (aH te) := by
 intro pins s σ H D I h
 exact wpAny_Return_some (thn (he pins s σ H _ I h) fun v s1 ⟨x, H1, I1, r1, q1⟩ => ⟨x, σ, H1, I1, r1, q1⟩)
def fA : TS := fun _ _ _ => False
theorem vj : PS X st fA := fun _ _ _ _ _ _ h => h.elim
end
abbrev TG := V → St → Hp → (St → Hp → Prop) → Prop
abbrev TGs := List V → St → Hp → (St → Hp → Prop) → Prop
def PG (X : Cx) (target : Expr) (t : TG) : Prop :=
 ∀ (pins : List (Addr × Obj)) (s : Shared) (σ : St) (H : Hp) (v : V) (u : Value) (Q : St → Hp → Prop), Inv X pins σ H s → aJ v u → t v σ H Q →
  wpAny (model X.prog X.w) X.A (assign target X.env u) (fun _ s' => ∃ σ' H', Inv X pins σ' H' s' ∧ Q σ' H') X.xe s
def PGs (X : Cx) (ts : List Expr) (t : TGs) : Prop :=
 ∀ (pins : List (Addr × Obj)) (s : Shared) (σ : St) (H : Hp) (vs : List V) (us : List Value) (Q : St → Hp → Prop), Inv X pins σ H s → aK vs us → t vs σ H Q →
  wpAny (model X.prog X.w) X.A (assignInOrder ((assignEach ts X.env).map (·.2)) us) (fun _ s' => ∃ σ' H', Inv X pins σ' H' s' ∧ Q σ' H') X.xe s
abbrev uP := V → V → V → Hp → (Hp → Prop) → Prop
def rf (X : Cx) (t : uP) : Prop :=
 ∀ (pins : List (Addr × Obj)) (s : Shared) (σ : St) (H : Hp) (o i v : V) (ov iv u : Value) (Q : Hp → Prop), Inv X pins σ H s → aJ o ov → aJ i iv → aJ v u → t o i v H Q →
  wpAny (model X.prog X.w) X.A (setItem ov iv u) (fun _ s' => ∃ H', Inv X pins σ H' s' ∧ Q H') X.xe s
section
variable {X : Cx} {pos : Pos}
def av (i : Nat) : TG := fun v σ H Q => Q (σ.set i (some v)) H
theorem kK {i : Nat} {x : Str} (hN : X.N.Nodup) (hi : X.N[i]? = some x) (hx : Loc X.env.scope x) (hf : X.fn x = true ∨ X.env.scope.names.lookup x = some .local := by first | exact .inl rfl | exact .inr rfl | assumption) : PG X (.Name x pos) (av i) := by
 intro pins s σ H v u Q I r h
 exact wpAny_assign_Name (eK I hN hi hx r (fun s' I' => ⟨_, H, I', h⟩) hf)
def mI : TGs := fun vs σ H Q => vs = [] ∧ Q σ H
def fg (t : TG) (u : TGs) : TGs := fun vs σ H Q => ∃ v r, vs = v :: r ∧ t v σ H fun σ' H' => u r σ' H' Q
theorem xU : PGs X [] mI := by
 intro pins s σ H vs us Q I r h
 obtain ⟨e, h⟩ := h
 subst e
 cases r
 exact assignInOrder_nil ⟨σ, H, I, h⟩
theorem nS {e : Expr} {es : List Expr} {t : TG} {u : TGs} (h1 : PG X e t) (h2 : PGs X es u)
    (hs : (assignEach (e :: es) X.env).map (·.2) = assign e X.env :: (assignEach es X.env).map (·.2) := by rfl) : PGs X (e :: es) (fg t u) := by
  intro pins s σ H vs us Q I r h
  obtain ⟨v, vr, e1, h⟩ := h
  subst e1
  cases r with
  | cons r rr =>
    rw [hs]
    refine assignInOrder_cons (thn (h1 pins s σ H _ _ _ I r h) fun _ s1 ⟨σ1, H1, I1, q1⟩ => ?_)
    exact h2 pins s1 σ1 H1 _ _ Q I1 rr q1
def mX (K : W.Frag) (n : Nat) (t : TGs) : TG := fun v σ H Q => ∃ a xs, v = .ref a ∧ SqT K H a xs ∧ xs.length = n ∧ t xs σ H Q
theorem yX {es : List Expr} {k : Nat} {t : TGs} {n : Nat} (hc : X.calm = true) (h : PGs X es t)
  (hn : (assignEach es X.env).length = n := by rfl) (hst : (assignEach es X.env).findIdx? (·.1) = none := by rfl) : PG X (.Tuple es k pos) (mX X.K n t) := by
 intro pins s σ H v u Q I r hw
 obtain ⟨a, xs, e1, hq, hl, hw⟩ := hw
 subst e1
 cases r
 obtain ⟨its, rv, ht, hz⟩ := I.tuple hq
 refine assign_Tuple_tuple (I.ok.hd hc) ht (by simp [hn, ← hl, rv.length]) hst fun h' hx => ?_
 have I1 : Inv X pins σ H { s with heap := h' } := I.kept (t' := s.toks) fun b o e => hx b o (Nat.ne_of_lt (Heap.lt_size e)) e
 exact h pins _ σ H xs _ Q I1 (by simpa using rv) hw
def re (to ti : TE) (t : uP) : TG := fun v σ H Q => to σ H fun o H1 => ti σ H1 fun i H2 => t o i v H2 fun H3 => Q σ H3
theorem yw {o i : Expr} {to ti : TE} {t : uP} (ho : PE X o to) (hi : PE X i ti) (hs : rf X t)
  (ha : ∀ v, assign (.Subscript o i pos) X.env v = (do
   let ov ← holding [v] (eval o X.env)
   let iv ← holding [v, ov] (eval i X.env)
   standAt pos
   holding [v, ov, iv] (setItem ov iv v)
   release [v, ov, iv] []) := by intro _; rfl) : PG X (.Subscript o i pos) (re to ti t) := by
 intro pins s σ H v u Q I r h
 rw [ha]
 refine wpAny_bind (wpAny_holding (thn (ho pins s σ H _ I h) fun ov s1 ⟨x, H1, I1, r1, q1⟩ => ?_))
 refine wpAny_bind (wpAny_holding (thn (hi pins s1 σ H1 _ I1 q1) fun iv s2 ⟨y, H2, I2, r2, q2⟩ => ?_))
 refine wpAny_bind (wpAny_standAt (wpAny_bind (wpAny_holding (thn (hs pins s2 σ H2 x y v ov iv u _ I2 r1 r2 r q2) fun _ s3 ⟨H3, I3, q3⟩ => ?_))))
 exact wpAny_release ⟨σ, H3, I3, q3⟩
def aE (te : TE) (g : TG) : TS := fun D σ H => te σ H fun x H1 => g x σ H1 D.nx
theorem Aq {tg e : Expr} {te : TE} {g : TG} (he : PE X e te) (hg : PG X tg g) (hs : swapsWithSole [tg] e pos.line X.env = pure false := by rfl) (hw : swappedStores [tg] e X.env = pure none := by rfl)
  (h1 : (assignEach [tg] X.env).map (·.2) = [assign tg X.env] := by rfl) : PS X (.Assign [tg] e pos) (aE te g) := by
 intro pins s σ H D I h
 refine wpAny_Assign_stores (thn (he pins s σ H _ I h) fun v s1 ⟨x, H1, I1, r1, q1⟩ => ?_) hs hw
 rw [h1]
 exact thn (hg pins s1 σ H1 x v _ I1 r1 q1) fun _ s2 q => q
theorem zJ {i : Nat} {x : Str} {e : Expr} {te : TE} {pos' : Pos} (hN : X.N.Nodup) (hi : X.N[i]? = some x) (hx : Loc X.env.scope x) (he : PE X e te) (hs : swapsWith e (some (.Name x pos')) pos.line X.env = pure false := by rfl) (hf : X.fn x = true ∨ X.env.scope.names.lookup x = some .local := by first | exact .inl rfl | exact .inr rfl | assumption) :
  PS X (.Assign [.Name x pos'] e pos) (aE te (av i)) := by
 intro pins s σ H D I h
 refine wpAny_Assign_Name (thn (he pins s σ H _ I h) fun v s1 ⟨y, H1, I1, r1, q1⟩ => ?_) hs
 exact eK I1 hN hi hx r1 (fun s2 I2 => ⟨_, H1, I2, q1⟩) hf
end
section
variable {X : Cx} {pos : Pos}
def ig (c : TT) (tb : TS) : TS := fun D σ H => ∃ W : Nat → St → Hp → Prop, (∃ m, W m σ H) ∧ ∀ m σ H, W m σ H →
 c σ H fun b H1 => if b = true then ∃ N : St → Hp → Prop, (∀ σ' H', N σ' H' → ∃ m', m' < m ∧ W m' σ' H') ∧ tb { D with nx := N, ct := N, bk := D.nx } σ H1 else D.nx σ H1
theorem tJ {c : Expr} {body : List Stmt} {tc : TT} {tb : TS} (hp : PassesOwn (model X.prog X.w) X.A X.env X.xe) (hc : PT X c tc) (hb : PSs X body tb) : PS X (.While c body [] pos) (ig tc tb) := by
  intro pins s σ H D I h
  obtain ⟨W, ⟨m0, w0⟩, turn⟩ := h
  refine wpAny_While (codeAny_whileLoop (fun n s' => ∃ σ' H', Inv X pins σ' H' s' ∧ W n σ' H') ?_ m0 ⟨σ, H, I, w0⟩)
  rintro n s1 ⟨σ1, H1, I1, w1⟩
  refine wpAny_passesOwn hp (thn (hc pins s1 σ1 H1 _ I1 (turn n σ1 H1 w1)) fun b s2 ⟨H2, I2, q2⟩ => ?_)
  cases b with
  | true =>
    obtain ⟨N, hN, q2⟩ := q2
    rw [if_pos rfl]
    refine wpAny_passesOwn hp (thn (hb pins s2 σ1 H2 _ I2 q2) fun f s3 q3 => ?_)
    cases f with
    | next =>
      obtain ⟨σ3, H3, I3, n3⟩ := q3
      obtain ⟨m', hm, w3⟩ := hN σ3 H3 n3
      exact ⟨m', hm, σ3, H3, I3, w3⟩
    | cont =>
      obtain ⟨σ3, H3, I3, n3⟩ := q3
      obtain ⟨m', hm, w3⟩ := hN σ3 H3 n3
      exact ⟨m', hm, σ3, H3, I3, w3⟩
    | brk => exact q3
    | ret v => exact q3
  | false =>
    rw [if_neg Bool.false_ne_true]
    exact wpAny_execs_nil ⟨σ1, H2, I2, q2⟩
end
structure It where
 go : Nat → Hp → Prop
 yld : Nat → Hp → V → Hp → Prop
 stop : Nat → Hp → Prop
def gw (X : Cx) (pins : List (Addr × Obj)) (H : Hp) (b : Addr) : Prop :=
 H b = none ∧ b ≠ X.env.locals ∧ b ∉ X.fs ∧ (b ∈ X.ex ∨ X.s₀.heap.objs.size ≤ b) ∧ (∀ x c, X.env.cells.lookup x = some c → c ≠ b) ∧ ∀ p ∈ X.pn ++ pins, p.1 ≠ b
theorem Inv.fpOk {X : Cx} {pins : List (Addr × Obj)} {σ : St} {H H' : Hp} {s : Shared} {b : Addr} (I : Inv X pins σ H s) (hb : s.heap.objs.size ≤ b) (hn : H' b = none) : gw X pins H' b := by
 refine ⟨hn, Nat.ne_of_gt (Nat.lt_of_lt_of_le I.lt hb), I.nofs hb, .inr (Nat.le_trans I.sz hb), fun x c e z => ?_, fun p hp z => ?_⟩
 · obtain ⟨v, q⟩ := I.cell x c e
   exact absurd (Nat.lt_of_lt_of_le q.lt (by rw [z]; exact hb)) (Nat.lt_irrefl _)
 · exact absurd (Nat.lt_of_lt_of_le (Heap.lt_size (I.pin p hp).1) (by rw [z]; exact hb)) (Nat.lt_irrefl _)
structure ik (P : Program) (w : World) (K : W.Frag) (tg : Expr) (J : It) (fp : List Addr) (it : Addr) (tn : Nat → Heap → Prop) : Prop where
 mem : it ∈ fp
 obj : ∀ i h, tn i h → ∀ b ∈ fp, ∃ o, h.get? b = some o ∧ ∀ v, o.data ≠ .cell v
 keep : ∀ i h h', tn i h → (∀ b ∈ fp, ∀ o, h.get? b = some o → h'.get? b = some o) → tn i h'
 item : ∀ (X : Cx), X.prog = P → X.w = w → X.K = K → X.calm = true → ∀ (i : Nat) (pins : List (Addr × Obj)) (s : Shared) (σ : St) (H : Hp) (E : Value → Shared → Prop), Inv X pins σ H s → (∀ b ∈ fp, gw X pins H b) → tn i s.heap → J.go i H →
  wpAny (model P w) X.A (pyNext (.ref it)) (fun r s1 => ∃ u, r = some u ∧
   wpAny (model P w) X.A (letOwnedTupleGo tg (.ref it) u) (fun _ s2 => ∃ x H', Inv X pins σ H' s2 ∧ aJ x u ∧ J.yld i H x H' ∧ tn (i + 1) s2.heap ∧ ∀ b ∈ fp, H' b = none) E s1) E s
 done : ∀ (X : Cx), X.prog = P → X.w = w → X.K = K → X.calm = true → ∀ (i : Nat) (pins : List (Addr × Obj)) (s : Shared) (σ : St) (H : Hp) (E : Value → Shared → Prop), Inv X pins σ H s → (∀ b ∈ fp, gw X pins H b) → tn i s.heap → J.stop i H →
  wpAny (model P w) X.A (pyNext (.ref it)) (fun r s1 => r = none ∧ Inv X pins σ H s1) E s
 self : ∀ (A : Around) (i : Nat) (s : Shared) (Q : Value → Shared → Prop) (E : Value → Shared → Prop), tn i s.heap → Q (.ref it) s → wpAny (model P w) A (pyIter (.ref it)) Q E s
abbrev TI := St → Hp → (It → Hp → Prop) → Prop
def PIE (X : Cx) (pins : List (Addr × Obj)) (σ : St) (tg : Expr) (R : It → Hp → Prop) (itv : Value) (s2 : Shared) : Prop :=
 ∃ (it : Addr) (fp : List Addr) (tn : Nat → Heap → Prop) (J : It) (H' : Hp), itv = .ref it ∧ Inv X pins σ H' s2 ∧ ik X.prog X.w X.K tg J fp it tn ∧ tn 0 s2.heap ∧ (∀ b ∈ fp, gw X pins H' b) ∧ R J H'
def PI (X : Cx) (tg iter : Expr) (wi : TI) : Prop :=
 ∀ (pins : List (Addr × Obj)) (s : Shared) (σ : St) (H : Hp) (R : It → Hp → Prop), Inv X pins σ H s → wi σ H R →
  wpAny (model X.prog X.w) X.A (eval iter X.env) (fun v s1 => wpAny (model X.prog X.w) X.A (pyIter v) (PIE X pins σ tg R) X.xe s1) X.xe s
theorem me {M : Model} {A : Around} {E : Value → Shared → Prop} {s : Shared} {tg : Expr} {it : Addr} {u : Value} {o : Obj} {n : String} {vs : Array Value} {Q : Unit → Shared → Prop} (ho : s.heap.get? it = some o) (hc : o.cls = .type n) (hd : o.data = .fields vs)
    (hn : ["enumerate", "zip", "dict_itemiterator", "dict_reverseitemiterator", "odict_iterator", "itertools.zip_longest", "itertools.pairwise"].contains n = false) (hQ : Q () s) : wpAny M A (letOwnedTupleGo tg (.ref it) u) Q E s := by
  unfold letOwnedTupleGo
  cases tg <;> first
    | exact wpAny_pure hQ
    | (cases u <;> first
        | exact wpAny_pure hQ
        | (refine wpAny_bind (wpAny_load ho ?_)
           rw [hc, hd]
           show wpAny M A (if (["enumerate", "zip", "dict_itemiterator", "dict_reverseitemiterator", "odict_iterator", "itertools.zip_longest", "itertools.pairwise"].contains n && vs[0]? == some (rawInt _)) = true then _ else _) Q E s
           rw [if_neg (by intro h; rw [hn, Bool.false_and] at h; cases h)]
           exact wpAny_pure hQ))
def Itl (K : W.Frag) (a : Addr) : It :=
 ⟨fun i H => ∃ xs x, SqL K H a xs ∧ xs[i]? = some x, fun i H x H' => H' = H ∧ ∀ xs, SqL K H a xs → xs[i]? = some x, fun i H => ∃ xs, SqL K H a xs ∧ xs.length ≤ i⟩
def Itt (K : W.Frag) (a : Addr) : It :=
 ⟨fun i H => ∃ xs x, SqT K H a xs ∧ xs[i]? = some x, fun i H x H' => H' = H ∧ ∀ xs, SqT K H a xs → xs[i]? = some x, fun i H => ∃ xs, SqT K H a xs ∧ xs.length ≤ i⟩
def Itr (lo : Int) (n : Nat) : It := ⟨fun i _ => i < n, fun i H x H' => H' = H ∧ x = .int (lo + i), fun i _ => n ≤ i⟩
theorem rS {P : Program} {w : World} {K : W.Frag} {tg : Expr} (a it : Addr) : ik P w K tg (Itl K a) [it] it (fun i h => h.IsListIter it a i) where
 mem := by simp
 obj := fun i h st b hb => by
  have e : b = it := by simpa using hb
  subst e
  obtain ⟨o, e, c, d⟩ := st
  exact ⟨o, e, fun v z => by rw [d] at z; cases z⟩
 keep := fun i h h' st k => st.at fun o e => k it (by simp) o e
 item := by
  intro X hP hw hK hc i pins s σ H E I hf st hg
  subst hP hw hK
  obtain ⟨xs, x, hq, hx⟩ := hg
  obtain ⟨its, rv, p, hz⟩ := I.list hq
  obtain ⟨u, hu, ru⟩ := rv.get hx
  obtain ⟨f0, f1, f2, f3, f4, f5⟩ := hf it (by simp)
  refine wpAny_pyNext_list_item st p.isList (x := u) (by simpa using hu) fun h' st' sb => ?_
  have I1 : Inv X pins σ H { s with heap := h' } := I.turned (t' := s.toks) (fun b o hb e => (sb.2 b hb).trans e) f0 f1 f3 f4 f5
  obtain ⟨o, e, c, d⟩ := id st'
  exact ⟨u, rfl, me (s := { s with heap := h' }) e c d (by decide) ⟨x, H, I1, ru, ⟨rfl, fun ys hy => by rw [I.list_inj hy hq]; exact hx⟩, st', fun b hb => (hf b hb).1⟩⟩
 done := by
  intro X hP hw hK hc i pins s σ H E I hf st hg
  subst hP hw hK
  obtain ⟨xs, hq, hx⟩ := hg
  obtain ⟨its, rv, p, hz⟩ := I.list hq
  obtain ⟨f0, f1, f2, f3, f4, f5⟩ := hf it (by simp)
  have hl := rv.length
  exact wpAny_pyNext_list_end (I.ok.hd hc) st p.isList (by simp; omega) fun h' eb => ⟨rfl, I.turned (t' := s.toks) (fun b o hb e => eb b o hb e) f0 f1 f3 f4 f5⟩
 self := fun _ _ _ _ _ st h => wpAny_pyIter_listiter st h
theorem qA {P : Program} {w : World} {K : W.Frag} {tg : Expr} (a it : Addr) : ik P w K tg (Itt K a) [it] it (fun i h => h.IsTupleIter it a i) where
 mem := by simp
 obj := fun i h st b hb => by
  have e : b = it := by simpa using hb
  subst e
  obtain ⟨o, e, c, d⟩ := st
  exact ⟨o, e, fun v z => by rw [d] at z; cases z⟩
 keep := fun i h h' st k => st.at fun o e => k it (by simp) o e
 item := by
  intro X hP hw hK hc i pins s σ H E I hf st hg
  subst hP hw hK
  obtain ⟨xs, x, hq, hx⟩ := hg
  obtain ⟨its, rv, p, hz⟩ := I.tuple hq
  obtain ⟨u, hu, ru⟩ := rv.get hx
  obtain ⟨f0, f1, f2, f3, f4, f5⟩ := hf it (by simp)
  refine wpAny_pyNext_tuple_item st (show s.heap.IsTuple a its.toArray from p) (x := u) (by simpa using hu) fun h' st' sb => ?_
  have I1 : Inv X pins σ H { s with heap := h' } := I.turned (t' := s.toks) (fun b o hb e => (sb.2 b hb).trans e) f0 f1 f3 f4 f5
  obtain ⟨o, e, c, d⟩ := id st'
  exact ⟨u, rfl, me (s := { s with heap := h' }) e c d (by decide) ⟨x, H, I1, ru, ⟨rfl, fun ys hy => by rw [I.tuple_inj hy hq]; exact hx⟩, st', fun b hb => (hf b hb).1⟩⟩
 done := by
  intro X hP hw hK hc i pins s σ H E I hf st hg
  subst hP hw hK
  obtain ⟨xs, hq, hx⟩ := hg
  obtain ⟨its, rv, p, hz⟩ := I.tuple hq
  obtain ⟨f0, f1, f2, f3, f4, f5⟩ := hf it (by simp)
  have hl := rv.length
  exact wpAny_pyNext_tuple_end (I.ok.hd hc) st (show s.heap.IsTuple a its.toArray from p) (by simp; omega) fun h' eb => ⟨rfl, I.turned (t' := s.toks) (fun b o hb e => eb b o hb e) f0 f1 f3 f4 f5⟩
 self := fun _ _ _ _ _ st h => wpAny_pyIter_tupleiter st h
theorem qQ {P : Program} {w : World} {K : W.Frag} {tg : Expr} (it : Addr) (lo : Int) (n : Nat) : ik P w K tg (Itr lo n) [it] it (fun i h => IsRangeIter h it (lo + (i : Nat) * 1) ((n : Int) - (i : Nat)) 1) where
 mem := by simp
 obj := fun i h st b hb => by
  have e : b = it := by simpa using hb
  subst e
  exact ⟨_, st, fun v z => by
   have z' : Data.fields _ = Data.cell v := z
   cases z'⟩
 keep := fun i h h' st k => k it (by simp) _ st
 item := by
  intro X hP hw hK hc i pins s σ H E I hf st hg
  subst hP hw hK
  obtain ⟨f0, f1, f2, f3, f4, f5⟩ := hf it (by simp)
  have W := Walks.range (prog := X.prog) (w := X.w) (I.ok.hd hc) it lo 1 n
  refine W.item i s _ _ hg st fun v h' tk hv st' kk => ?_
  obtain ⟨t, rfl⟩ := hv
  have I1 : Inv X pins σ H { s with heap := h', toks := tk } := I.turned (fun b o hb e => kk b o (by simpa using hb) e) f0 f1 f3 f4 f5
  refine ⟨_, rfl, me (s := { s with heap := h', toks := tk }) (n := "range_iterator") st' rfl rfl (by decide) ⟨.int (lo + i), H, I1, ⟨t, ?_⟩, ⟨rfl, rfl⟩, st', fun b hb => (hf b hb).1⟩⟩
  rw [Int.mul_one]
 done := by
  intro X hP hw hK hc i pins s σ H E I hf st hg
  subst hP hw hK
  obtain ⟨f0, f1, f2, f3, f4, f5⟩ := hf it (by simp)
  exact wpAny_pyNext_range_end (I.ok.hd hc) st (by have : n ≤ i := hg; omega) fun h' eb => ⟨rfl, I.turned (t' := s.toks) (fun b o hb e => eb b o hb e) f0 f1 f3 f4 f5⟩
 self := fun _ _ _ _ _ st h => wpAny_pyIter_rangeiter st h
end L2
namespace L2
open PySem PySem.Spec PyProof.Rows
section
variable {X : Cx} {tg : Expr}
theorem vR {pins : List (Addr × Obj)} {σ : St} {H : Hp} {s : Shared} {R : It → Hp → Prop} {E : Value → Shared → Prop} {lo hi : Int} {t u v : Tok} {tk : Nat} (I : Inv X pins σ H s) (h1 : -(2 ^ 62) ≤ lo) (h2 : lo < 2 ^ 62) (h3 : -(2 ^ 62) ≤ hi) (h4 : hi < 2 ^ 62)
   (q : R (Itr lo (hi - lo).toNat) H) : wpAny (model X.prog X.w) X.A (pyIter (.ref s.heap.objs.size)) (PIE X pins σ tg R) E { s with heap := s.heap.push { cls := .type "range", data := .fields #[.int lo t, .int hi u, .int 1 v] }, toks := tk } := by
 refine wpAny_pyIter_range (IsRange.new ..) (small_one h1 h2 h3 h4) ?_
 have I1 : Inv X pins σ H { s with heap := s.heap.push { cls := .type "range", data := .fields #[.int lo t, .int hi u, .int 1 v] }, toks := tk } := I.kept fun b o e => Heap.get?_push_of_some _ e
 refine ⟨(s.heap.push { cls := .type "range", data := .fields #[.int lo t, .int hi u, .int 1 v] }).objs.size, [(s.heap.push { cls := .type "range", data := .fields #[.int lo t, .int hi u, .int 1 v] }).objs.size], _, _, H, rfl,
   I1.kept (t' := tk) fun b o e => Heap.get?_push_of_some _ e, qQ _ lo (hi - lo).toNat, ?_, fun b hb => ?_, q⟩
 · have e1 : lo + ((0 : Nat) : Int) * 1 = lo := by simp
   have e2 : (((hi - lo).toNat : Nat) : Int) - ((0 : Nat) : Int) = Builtin.Range.rangeSize lo hi 1 := by rw [rangeSize_one]; split <;> omega
   show IsRangeIter _ _ (lo + ((0 : Nat) : Int) * 1) ((((hi - lo).toNat : Nat) : Int) - ((0 : Nat) : Int)) 1
   rw [e1, e2]
   exact Heap.get?_push_size _ rfl
 · have e : b = (s.heap.push { cls := .type "range", data := .fields #[.int lo t, .int hi u, .int 1 v] }).objs.size := by simpa using hb
   subst e
   exact I1.fpOk (Nat.le_refl _) (I1.hok.fresh (Nat.le_refl _))
def iW (ta : TA) : TI := fun σ H R => ta σ H fun vs H1 => ∃ j : Int, vs = [.int j] ∧ -(2 ^ 62) ≤ j ∧ j < 2 ^ 62 ∧ R (Itr 0 j.toNat) H1
theorem rH {a : Expr} {ta : TA} {p pos : Pos} (hg : Gl X "range") (hm : X.mg "range" = none) (ha : PA X [a] ta) (hs : starEach [a] X.env = [(false, eval a X.env)] := by rfl) : PI X tg (.Call (.Name "range" p) [a] [] pos) (iW ta) := by
  intro pins s σ H R I h
  refine Call_ (eA I hg hm boot_range (PyProof.Rows.callWith_type1 (thn (ha pos pins s σ H _ I h) fun us s1 ⟨vs, H1, I1, r1, q1⟩ => ?_) hs rfl))
  obtain ⟨j, e, q1, q2, q⟩ := q1
  subst e
  cases r1 with
  | cons r rr =>
    cases rr
    obtain ⟨t, rfl⟩ := r
    exact call_range_1 (vR I1 (by omega) (by omega) q1 q2 (by simpa using q))
def eW (wi : TI) (g : TG) (tb : TS) : TS := fun D σ H => wi σ H fun J H1 => ∃ W : Nat → Nat → St → Hp → Prop, (∃ m, W 0 m σ H1) ∧ ∀ i m σ H, W i m σ H →
 (J.stop i H ∧ D.nx σ H) ∨ (J.go i H ∧ ∃ N : St → Hp → Prop, (∀ σ' H', N σ' H' → ∃ m', m' < m ∧ W (i + 1) m' σ' H') ∧ ∀ x H', J.yld i H x H' → g x σ H' fun σ2 H2 => tb { D with nx := N, ct := N, bk := D.nx } σ2 H2)
def iG (fp : List Addr) (h : Heap) : List (Addr × Obj) := fp.filterMap fun b => (h.get? b).map fun o => (b, o)
theorem fk {fp : List Addr} {h : Heap} {b : Addr} {o : Obj} (hb : b ∈ fp) (e : h.get? b = some o) : (b, o) ∈ iG fp h := List.mem_filterMap.mpr ⟨b, hb, by rw [e]; rfl⟩
theorem rV {fp : List Addr} {h : Heap} {p : Addr × Obj} (hp : p ∈ iG fp h) : p.1 ∈ fp ∧ h.get? p.1 = some p.2 := by
  obtain ⟨b, hb, e⟩ := List.mem_filterMap.mp hp
  cases q : h.get? b with
  | none => rw [q] at e; cases e
  | some o =>
    rw [q] at e
    have e' : (b, o) = p := Option.some.inj e
    subst e'
    exact ⟨hb, q⟩
theorem Inv.pinned {pins : List (Addr × Obj)} {σ : St} {H : Hp} {s : Shared} {fp : List Addr} (I : Inv X pins σ H s) (hf : ∀ b ∈ fp, gw X pins H b) (ho : ∀ b ∈ fp, ∃ o, s.heap.get? b = some o ∧ ∀ v, o.data ≠ .cell v) : Inv X (pins ++ iG fp s.heap) σ H s :=
 I.pins_of fun p hp => (List.mem_append.mp hp).elim (fun z => I.pin p (List.mem_append_right _ z)) fun z => by
  obtain ⟨hb, e⟩ := rV z
  obtain ⟨f0, f1, f2, _⟩ := hf p.1 hb
  obtain ⟨o, e', d⟩ := ho p.1 hb
  rw [e] at e'; cases e'
  exact ⟨e, f0, f1, f2, d⟩
theorem Inv.unpinned {pins pl : List (Addr × Obj)} {σ : St} {H : Hp} {s : Shared} (I : Inv X (pins ++ pl) σ H s) : Inv X pins σ H s := I.pins_of fun p hp => I.pin p (List.mem_append_right _ (List.mem_append_left _ hp))
theorem rD {iter : Expr} {body : List Stmt} {wi : TI} {g : TG} {tb : TS} {pos : Pos} (hp : PassesOwn (model X.prog X.w) X.A X.env X.xe) (hc : X.calm = true) (hi : PI X tg iter wi) (hg : PG X tg g) (hb : PSs X body tb)
   (hs : ∀ x, foldedSetIterable iter X.env x = pure x := by intro _; rfl) : PS X (.For tg iter body [] pos) (eW wi g tb) := by
 intro pins s σ H D I h
 refine wpAny_For (thn (hi pins s σ H _ I h) fun v s1 h1 => thn h1 fun itv s2 h2 => ?_) hs
 obtain ⟨it, fp, tn, J, H2, e, I2, T, st2, f2, W, ⟨m0, w0⟩, turn⟩ := h2
 subst e
 have stat : ∀ {H' : Hp}, (∀ b ∈ fp, H' b = none) → ∀ b ∈ fp, gw X pins H' b := fun hn b hb => ⟨hn b hb, (f2 b hb).2⟩
 refine codeAny_forLoop_any (fun n s' => ∃ i σ' H', Inv X pins σ' H' s' ∧ tn i s'.heap ∧ (∀ b ∈ fp, H' b = none) ∧ W i n σ' H') ?_ m0 ⟨0, σ, H2, I2, st2, fun b hb => (f2 b hb).1, w0⟩
 rintro n s3 ⟨i, σ3, H3, I3, st3, fr3, w3⟩
 rcases turn i n σ3 H3 w3 with ⟨stop, qn⟩ | ⟨go, N, hN, step⟩
 · refine wpAny_passesOwn hp (thn (T.done X rfl rfl rfl hc i pins s3 σ3 H3 X.xe I3 (stat fr3) st3 stop) fun r s4 ⟨hr, I4⟩ => ?_)
   subst hr
   exact wpAny_execs_nil ⟨σ3, H3, I4, qn⟩
 · refine wpAny_passesOwn hp (thn (T.item X rfl rfl rfl hc i pins s3 σ3 H3 X.xe I3 (stat fr3) st3 go) fun r s4 ⟨u, hr, h4⟩ => ?_)
   subst hr
   refine wpAny_passesOwn hp (thn h4 fun _ s5 ⟨x, H5, I5, r5, y5, st5, fr5⟩ => ?_)
   have I5' := I5.pinned (stat fr5) (T.obj _ _ st5)
   refine wpAny_passesOwn hp (thn (hg _ s5 σ3 H5 x u _ I5' r5 (step x H5 y5)) fun _ s6 ⟨σ6, H6, I6, q6⟩ => ?_)
   refine wpAny_passesOwn hp (thn (hb _ s6 σ6 H6 _ I6 q6) fun f s7 q7 => ?_)
   have again : ∀ {σ7 : St} {H7 : Hp}, Inv X (pins ++ iG fp s5.heap) σ7 H7 s7 → N σ7 H7 → ∃ m, m < n ∧ ∃ i σ' H', Inv X pins σ' H' s7 ∧ tn i s7.heap ∧ (∀ b ∈ fp, H' b = none) ∧ W i m σ' H' := fun {σ7 H7} I7 n7 => by
    obtain ⟨m', hm, w7⟩ := hN σ7 H7 n7
    refine ⟨m', hm, i + 1, σ7, H7, I7.unpinned, T.keep _ _ _ st5 fun b hb o e => (I7.pin (b, o) (List.mem_append_right _ (List.mem_append_right _ (fk hb e)))).1, fun b hb => ?_, w7⟩
    obtain ⟨o, e, d⟩ := T.obj _ _ st5 b hb
    exact (I7.pin (b, o) (List.mem_append_right _ (List.mem_append_right _ (fk hb e)))).2.1
   cases f with
   | next => obtain ⟨σ7, H7, I7, n7⟩ := q7; exact again I7 n7
   | cont => obtain ⟨σ7, H7, I7, n7⟩ := q7; exact again I7 n7
   | brk => obtain ⟨σ7, H7, I7, q7⟩ := q7; exact ⟨σ7, H7, I7.unpinned, q7⟩
   | ret v => obtain ⟨x7, σ7, H7, I7, r7, q7⟩ := q7; exact ⟨x7, σ7, H7, I7.unpinned, r7, q7⟩
end
theorem fy {K : W.Frag} {a : Addr} {xs : List V} {g : TG} {tb : TS} {D : eC} {σ : St} {H : Hp} (Pv : Nat → St → Hp → Prop) (h0 : Pv 0 σ H) (hl : ∀ i σ H, i ≤ xs.length → Pv i σ H → SqL K H a xs)
   (hs : ∀ i x σ H, xs[i]? = some x → Pv i σ H → g x σ H fun σ2 H2 => tb { D with nx := Pv (i + 1), ct := Pv (i + 1), bk := D.nx } σ2 H2) (hd : ∀ σ H, Pv xs.length σ H → D.nx σ H) :
   ∃ W : Nat → Nat → St → Hp → Prop, (∃ m, W 0 m σ H) ∧ ∀ i m σ H, W i m σ H →
    ((Itl K a).stop i H ∧ D.nx σ H) ∨ ((Itl K a).go i H ∧ ∃ N : St → Hp → Prop, (∀ σ' H', N σ' H' → ∃ m', m' < m ∧ W (i + 1) m' σ' H') ∧ ∀ x H', (Itl K a).yld i H x H' → g x σ H' fun σ2 H2 => tb { D with nx := N, ct := N, bk := D.nx } σ2 H2) := by
 refine ⟨fun i m σ H => m = xs.length - i ∧ i ≤ xs.length ∧ Pv i σ H, ⟨xs.length, by simp, Nat.zero_le _, h0⟩, ?_⟩
 rintro i m σ H ⟨rfl, hi, p⟩
 have q := hl i σ H hi p
 by_cases hlt : i < xs.length
 · refine .inr ⟨⟨xs, xs[i], q, by simp [hlt]⟩, Pv (i + 1), fun σ' H' p' => ⟨xs.length - (i + 1), by omega, rfl, hlt, p'⟩, fun x H' y => ?_⟩
   obtain ⟨e, y⟩ := y
   subst e
   exact hs i x σ _ (y xs q) p
 · have e : i = xs.length := by omega
   subst e
   exact .inl ⟨⟨xs, q, Nat.le_refl _⟩, hd σ H p⟩
theorem xT {K : W.Frag} {a : Addr} {xs : List V} {g : TG} {tb : TS} {D : eC} {σ : St} {H : Hp} (Pv : Nat → St → Hp → Prop) (h0 : Pv 0 σ H) (hl : ∀ i σ H, i ≤ xs.length → Pv i σ H → SqT K H a xs)
   (hs : ∀ i x σ H, xs[i]? = some x → Pv i σ H → g x σ H fun σ2 H2 => tb { D with nx := Pv (i + 1), ct := Pv (i + 1), bk := D.nx } σ2 H2) (hd : ∀ σ H, Pv xs.length σ H → D.nx σ H) :
   ∃ W : Nat → Nat → St → Hp → Prop, (∃ m, W 0 m σ H) ∧ ∀ i m σ H, W i m σ H →
    ((Itt K a).stop i H ∧ D.nx σ H) ∨ ((Itt K a).go i H ∧ ∃ N : St → Hp → Prop, (∀ σ' H', N σ' H' → ∃ m', m' < m ∧ W (i + 1) m' σ' H') ∧ ∀ x H', (Itt K a).yld i H x H' → g x σ H' fun σ2 H2 => tb { D with nx := N, ct := N, bk := D.nx } σ2 H2) := by
 refine ⟨fun i m σ H => m = xs.length - i ∧ i ≤ xs.length ∧ Pv i σ H, ⟨xs.length, by simp, Nat.zero_le _, h0⟩, ?_⟩
 rintro i m σ H ⟨rfl, hi, p⟩
 have q := hl i σ H hi p
 by_cases hlt : i < xs.length
 · refine .inr ⟨⟨xs, xs[i], q, by simp [hlt]⟩, Pv (i + 1), fun σ' H' p' => ⟨xs.length - (i + 1), by omega, rfl, hlt, p'⟩, fun x H' y => ?_⟩
   obtain ⟨e, y⟩ := y
   subst e
   exact hs i x σ _ (y xs q) p
 · have e : i = xs.length := by omega
   subst e
   exact .inl ⟨⟨xs, q, Nat.le_refl _⟩, hd σ H p⟩
theorem sm {lo : Int} {n : Nat} {g : TG} {tb : TS} {D : eC} {σ : St} {H : Hp} (Pv : Nat → St → Hp → Prop) (h0 : Pv 0 σ H)
   (hs : ∀ i σ H, i < n → Pv i σ H → g (.int (lo + i)) σ H fun σ2 H2 => tb { D with nx := Pv (i + 1), ct := Pv (i + 1), bk := D.nx } σ2 H2) (hd : ∀ σ H, Pv n σ H → D.nx σ H) :
   ∃ W : Nat → Nat → St → Hp → Prop, (∃ m, W 0 m σ H) ∧ ∀ i m σ H, W i m σ H →
    ((Itr lo n).stop i H ∧ D.nx σ H) ∨ ((Itr lo n).go i H ∧ ∃ N : St → Hp → Prop, (∀ σ' H', N σ' H' → ∃ m', m' < m ∧ W (i + 1) m' σ' H') ∧ ∀ x H', (Itr lo n).yld i H x H' → g x σ H' fun σ2 H2 => tb { D with nx := N, ct := N, bk := D.nx } σ2 H2) := by
 refine ⟨fun i m σ H => m = n - i ∧ i ≤ n ∧ Pv i σ H, ⟨n, by simp, Nat.zero_le _, h0⟩, ?_⟩
 rintro i m σ H ⟨rfl, hi, p⟩
 by_cases hlt : i < n
 · refine .inr ⟨hlt, Pv (i + 1), fun σ' H' p' => ⟨n - (i + 1), by omega, rfl, hlt, p'⟩, fun x H' y => ?_⟩
   obtain ⟨e, y⟩ := y
   subst e y
   exact hs i σ _ hlt p
 · have e : i = n := by omega
   subst e
   exact .inl ⟨Nat.le_refl _, hd σ H p⟩
end L2
namespace L2
open PySem PySem.Spec PyProof.Rows
abbrev R2 := V → V → Hp → VK → Prop
def OpR (X : Cx) (f : Value → Value → Sem Value) (r : R2) : Prop :=
 ∀ (pins : List (Addr × Obj)) (s : Shared) (σ : St) (H : Hp) (x y : V) (v u : Value) (Q : VK), Inv X pins σ H s → aJ x v → aJ y u → r x y H Q →
  wpAny (model X.prog X.w) X.A (f v u) (EP X pins σ Q) X.xe s
def UnR (X : Cx) (f : Value → Sem Value) (r : V → Hp → VK → Prop) : Prop :=
 ∀ (pins : List (Addr × Obj)) (s : Shared) (σ : St) (H : Hp) (x : V) (v : Value) (Q : VK), Inv X pins σ H s → aJ x v → r x H Q →
  wpAny (model X.prog X.w) X.A (f v) (EP X pins σ Q) X.xe s
def bM (X : Cx) (f : Value) (r : List V → Hp → VK → Prop) : Prop :=
 ∀ (pins : List (Addr × Obj)) (s : Shared) (σ : St) (H : Hp) (xs : List V) (us : List Value) (Q : VK), Inv X pins σ H s → aK xs us → r xs H Q →
  wpAny (model X.prog X.w) X.A (call f us) (EP X pins σ Q) X.xe s
def DT (X : Cx) (r : V → Hp → (Bool → Hp → Prop) → Prop) : Prop :=
 ∀ (pins : List (Addr × Obj)) (s : Shared) (σ : St) (H : Hp) (x : V) (v : Value) (Q : Bool → Hp → Prop), Inv X pins σ H s → aJ x v → r x H Q →
  wpAny (model X.prog X.w) X.A (truthy v) (TP X pins σ Q) X.xe s
def tOp (r : R2) (ta tb : TE) : TE := fun σ H Q => ta σ H fun x H1 => tb σ H1 fun y H2 => r x y H2 Q
def tUn (r : V → Hp → VK → Prop) (ta : TE) : TE := fun σ H Q => ta σ H fun x H1 => r x H1 Q
def rI (C : Int → Int → Prop) (g : Int → Int → V) : R2 := fun x y H Q => ∃ i j, x = .int i ∧ y = .int j ∧ C i j ∧ Q (g i j) H
def rI0 (g : Int → Int → V) : R2 := fun x y H Q => ∃ i j, x = .int i ∧ y = .int j ∧ Q (g i j) H
def rU (g : Int → V) : V → Hp → VK → Prop := fun x H Q => ∃ i, x = .int i ∧ Q (g i) H
section
variable {X : Cx} {a b c : Expr} {ta tb tc : TE} {pos : Pos}
theorem vT (ha : PE X a ta) (hb : PE X b tb) {pins : List (Addr × Obj)} {s : Shared} {σ : St} {H : Hp} {R : V → V → Hp → Prop} (I : Inv X pins σ H s)
  (h : ta σ H fun x H1 => tb σ H1 fun y H2 => R x y H2) {Q : Value → Shared → Prop} {f : Value → Value → Sem Value}
  (hf : ∀ v u s2 x y H2, Inv X pins σ H2 s2 → aJ x v → aJ y u → R x y H2 → wpAny (model X.prog X.w) X.A (f v u) Q X.xe s2) :
  wpAny (model X.prog X.w) X.A (eval a X.env) (fun v s₁ => wpAny (model X.prog X.w) X.A (eval b X.env) (fun u s₂ => wpAny (model X.prog X.w) X.A (f v u) Q X.xe s₂) X.xe s₁) X.xe s := by
 refine thn (ha pins s σ H _ I h) fun v s1 ⟨x, H1, I1, r1, q1⟩ => ?_
 refine thn (hb pins s1 σ H1 _ I1 q1) fun u s2 ⟨y, H2, I2, r2, q2⟩ => ?_
 exact hf v u s2 x y H2 I2 r1 r2 q2
theorem Bf {op : Operator} {r : R2} (ho : OpR X (binaryOp op) r) (ha : PE X a ta) (hb : PE X b tb) : PE X (.BinOp a op b pos) (tOp r ta tb) := by
 intro pins s σ H Q I h
 exact wpAny_BinOp (vT ha hb I h fun v u s2 x y H2 I2 rx ry q => ho pins s2 σ H2 x y v u Q I2 rx ry q)
theorem Dq {op : UnaryOp} {r : V → Hp → VK → Prop} (ho : UnR X (unaryOp op) r) (ha : PE X a ta) : PE X (.UnaryOp op a pos) (tUn r ta) := by
 intro pins s σ H Q I h
 exact UnaryOp_ (thn (ha pins s σ H _ I h) fun v s1 ⟨x, H1, I1, r1, q1⟩ => ho pins s1 σ H1 x v Q I1 r1 q1)
theorem opI {f : Value → Value → Sem Value} {C : Int → Int → Prop} {g : Int → Int → Int}
  (rule : ∀ (i j : Int) (t u : Tok) (s : Shared) (Q : Value → Shared → Prop) (E : Value → Shared → Prop), C i j → Q (.int (g i j) s.toks) { s with toks := s.toks + 1 } → wpAny (model X.prog X.w) X.A (f (.int i t) (.int j u)) Q E s) :
  OpR X f (rI C fun i j => .int (g i j)) := by
 intro pins s σ H x y v u Q I rx ry h
 obtain ⟨i, j, rfl, rfl, hc, q⟩ := h
 obtain ⟨t, rfl⟩ := rx
 obtain ⟨t', rfl⟩ := ry
 exact rule i j t t' s _ _ hc ⟨.int (g i j), H, I.tok _, ⟨_, rfl⟩, q⟩
theorem zP {f : Value → Value → Sem Value} {g : Int → Int → Int}
  (rule : ∀ (i j : Int) (t u : Tok) (s : Shared) (Q : Value → Shared → Prop) (E : Value → Shared → Prop), Q (.int (g i j) s.toks) { s with toks := s.toks + 1 } → wpAny (model X.prog X.w) X.A (f (.int i t) (.int j u)) Q E s) :
  OpR X f (rI0 fun i j => .int (g i j)) := by
 intro pins s σ H x y v u Q I rx ry h
 obtain ⟨i, j, rfl, rfl, q⟩ := h
 obtain ⟨t, rfl⟩ := rx
 obtain ⟨t', rfl⟩ := ry
 exact rule i j t t' s _ _ ⟨.int (g i j), H, I.tok _, ⟨_, rfl⟩, q⟩
theorem pX {f : Value → Value → Sem Value} {g : Int → Int → Bool}
  (rule : ∀ (i j : Int) (t u : Tok) (s : Shared) (Q : Value → Shared → Prop) (E : Value → Shared → Prop), Q (.bool (g i j)) s → wpAny (model X.prog X.w) X.A (f (.int i t) (.int j u)) Q E s) :
  OpR X f (rI0 fun i j => .bl (g i j)) := by
 intro pins s σ H x y v u Q I rx ry h
 obtain ⟨i, j, rfl, rfl, q⟩ := h
 obtain ⟨t, rfl⟩ := rx
 obtain ⟨t', rfl⟩ := ry
 exact rule i j t t' s _ _ ⟨.bl (g i j), H, I, rfl, q⟩
def Ae (i j : Int) : Prop := 0 ≤ j ∧ j ≤ 1000000 ∧ i.natAbs < 2 ^ 64
theorem yk : OpR X (binaryOp .Add) (rI0 fun i j => .int (i + j)) := zP fun _ _ _ _ _ _ _ q => add_int q
theorem Aj : OpR X (binaryOp .Sub) (rI0 fun i j => .int (i - j)) := zP fun _ _ _ _ _ _ _ q => sub_int q
theorem AQ : OpR X (binaryOp .Mod) (rI (fun _ j => 0 < j) fun i j => .int (i % j)) := opI fun i j _ _ _ _ _ hc q => by
 have h1 : (0 : Int) < j := hc
 exact mod_int' (by omega) (by rw [Int.fmod_eq_emod_of_nonneg i (by omega)]; exact q)
theorem ze : OpR X (binaryOp .Pow) (rI Ae fun i j => .int (i ^ j.toNat)) := opI fun _ _ _ _ _ _ _ hc q => pow_int_small hc.1 hc.2.1 hc.2.2 q
theorem zu : OpR X (binaryOp .LShift) (rI Ae fun i j => .int (i * 2 ^ j.toNat)) := opI fun _ _ _ _ _ _ _ hc q => lshift_int_small hc.1 hc.2.1 hc.2.2 q
theorem unI {f : Value → Sem Value} {g : Int → Int}
  (rule : ∀ (i : Int) (t : Tok) (s : Shared) (Q : Value → Shared → Prop) (E : Value → Shared → Prop), Q (.int (g i) s.toks) { s with toks := s.toks + 1 } → wpAny (model X.prog X.w) X.A (f (.int i t)) Q E s) :
  UnR X f (rU fun i => .int (g i)) := by
 intro pins s σ H x v Q I rx h
 obtain ⟨i, rfl, q⟩ := h
 obtain ⟨t, rfl⟩ := rx
 exact rule i t s _ _ ⟨.int (g i), H, I.tok _, ⟨_, rfl⟩, q⟩
theorem AO : UnR X (unaryOp .USub) (rU fun i => .int (-i)) := unI fun _ _ _ _ _ q => neg_int q
end
def zM : V → V → Bool
 | .non, .non => true | .non, .int _ => true | .int _, .non => true | .non, .bl _ => true | .bl _, .non => true | .non, .str _ => true | .str _, .non => true
 | .int _, .int _ => true | .bl _, .bl _ => true | .str _, .str _ => true | .byt _, .byt _ => true
 | .int _, .str _ => true | .str _, .int _ => true | .bl _, .str _ => true | .str _, .bl _ => true
 | _, _ => false
def rEq : R2 := fun x y H Q => zM x y = true ∧ Q (.bl (decide (x = y))) H
def rNe : R2 := fun x y H Q => zM x y = true ∧ Q (.bl (!decide (x = y))) H
theorem oJ {i j : Int} : decide (V.int i = V.int j) = (i == j) := by
 rw [Bool.eq_iff_iff]
 simp
theorem rM {i j : Bool} : decide (V.bl i = V.bl j) = (i == j) := by
 rw [Bool.eq_iff_iff]
 simp
theorem pO {i j : Str} : decide (V.str i = V.str j) = (i == j) := by
 rw [Bool.eq_iff_iff]
 simp
theorem oX {i j : Array UInt8} : decide (V.byt i = V.byt j) = (i.toList == j.toList) := by
 rw [Bool.eq_iff_iff]
 cases i
 cases j
 simp
section
variable {X : Cx} {a b c : Expr} {ta tb tc : TE} {pos : Pos}
theorem aW {pins : List (Addr × Obj)} {σ : St} {H : Hp} {s : Shared} {Q : VK} {k k' : Bool} (I : Inv X pins σ H s) (q : Q (.bl k) H) (e : k = k') : EP X pins σ Q (.bool k') s := by
 subst e
 exact ⟨.bl k, H, I, rfl, q⟩
theorem Ba : OpR X (compareOp .Eq) rEq := by
  intro pins s σ H x y v u Q I rx ry h
  obtain ⟨hs, q⟩ := h
  cases x with
  | non =>
    cases rx
    cases y with
    | non => cases ry; exact PySem.EqNone.eq_none_none (aW I q (by simp))
    | bl j => cases ry; exact PySem.EqNone.eq_none_bool (aW I q (by simp))
    | int j => obtain ⟨t', rfl⟩ := ry; exact PySem.EqNone.eq_none_int (aW I q (by simp))
    | str j => obtain ⟨t', rfl⟩ := ry; exact PySem.EqNone.eq_none_str (aW I q (by simp))
    | _ => exact absurd (show false = true from hs) Bool.false_ne_true
  | bl i =>
    cases rx
    cases y with
    | non => cases ry; exact PySem.EqNone.eq_bool_none (aW I q (by simp))
    | bl j => cases ry; exact eq_bool (aW I q rM)
    | str j => obtain ⟨t', rfl⟩ := ry; exact PySem.EqMixed.eq_bool_str (aW I q (by simp))
    | _ => exact absurd (show false = true from hs) Bool.false_ne_true
  | int i =>
    obtain ⟨t, rfl⟩ := rx
    cases y with
    | non => cases ry; exact PySem.EqNone.eq_int_none (aW I q (by simp))
    | int j => obtain ⟨t', rfl⟩ := ry; exact eq_int (aW I q oJ)
    | str j => obtain ⟨t', rfl⟩ := ry; exact PySem.EqMixed.eq_int_str (aW I q (by simp))
    | _ => exact absurd (show false = true from hs) Bool.false_ne_true
  | str i =>
    obtain ⟨t, rfl⟩ := rx
    cases y with
    | non => cases ry; exact PySem.EqNone.eq_str_none (aW I q (by simp))
    | bl j => cases ry; exact PySem.EqMixed.eq_str_bool (aW I q (by simp))
    | int j => obtain ⟨t', rfl⟩ := ry; exact PySem.EqMixed.eq_str_int (aW I q (by simp))
    | str j => obtain ⟨t', rfl⟩ := ry; exact eq_str (aW I q pO)
    | _ => exact absurd (show false = true from hs) Bool.false_ne_true
  | byt i =>
    obtain ⟨t, rfl⟩ := rx
    cases y with
    | byt j => obtain ⟨t', rfl⟩ := ry; exact W.eq_bytes (aW I q oX)
    | _ => exact absurd (show false = true from hs) Bool.false_ne_true
  | _ => cases y <;> exact absurd (show false = true from hs) Bool.false_ne_true
theorem Cd : OpR X (compareOp .NotEq) rNe := by
  intro pins s σ H x y v u Q I rx ry h
  obtain ⟨hs, q⟩ := h
  cases x with
  | non =>
    cases rx
    cases y with
    | non => cases ry; exact PySem.EqNone.ne_none_none (aW I q (by simp))
    | bl j => cases ry; exact PySem.EqNone.ne_none_bool (aW I q (by simp))
    | int j => obtain ⟨t', rfl⟩ := ry; exact PySem.EqNone.ne_none_int (aW I q (by simp))
    | str j => obtain ⟨t', rfl⟩ := ry; exact PySem.EqNone.ne_none_str (aW I q (by simp))
    | _ => exact absurd (show false = true from hs) Bool.false_ne_true
  | bl i =>
    cases rx
    cases y with
    | non => cases ry; exact PySem.EqNone.ne_bool_none (aW I q (by simp))
    | bl j => cases ry; exact ne_bool (aW I q (congrArg not rM))
    | str j => obtain ⟨t', rfl⟩ := ry; exact PySem.EqMixed.ne_bool_str (aW I q (by simp))
    | _ => exact absurd (show false = true from hs) Bool.false_ne_true
  | int i =>
    obtain ⟨t, rfl⟩ := rx
    cases y with
    | non => cases ry; exact PySem.EqNone.ne_int_none (aW I q (by simp))
    | int j => obtain ⟨t', rfl⟩ := ry; exact ne_int (aW I q (congrArg not oJ))
    | str j => obtain ⟨t', rfl⟩ := ry; exact PySem.EqMixed.ne_int_str (aW I q (by simp))
    | _ => exact absurd (show false = true from hs) Bool.false_ne_true
  | str i =>
    obtain ⟨t, rfl⟩ := rx
    cases y with
    | non => cases ry; exact PySem.EqNone.ne_str_none (aW I q (by simp))
    | bl j => cases ry; exact PySem.EqMixed.ne_str_bool (aW I q (by simp))
    | int j => obtain ⟨t', rfl⟩ := ry; exact PySem.EqMixed.ne_str_int (aW I q (by simp))
    | str j => obtain ⟨t', rfl⟩ := ry; exact ne_str (aW I q (congrArg not pO))
    | _ => exact absurd (show false = true from hs) Bool.false_ne_true
  | byt i =>
    obtain ⟨t, rfl⟩ := rx
    cases y with
    | byt j => obtain ⟨t', rfl⟩ := ry; exact W.ne_bytes (aW I q (congrArg not oX))
    | _ => exact absurd (show false = true from hs) Bool.false_ne_true
  | _ => cases y <;> exact absurd (show false = true from hs) Bool.false_ne_true
theorem CJ : OpR X (compareOp .Lt) (rI0 fun i j => .bl (decide (i < j))) := pX fun _ _ _ _ _ _ _ q => lt_int q
theorem CC : OpR X (compareOp .LtE) (rI0 fun i j => .bl (decide (i ≤ j))) := pX fun _ _ _ _ _ _ _ q => le_int q
theorem Ce : OpR X (compareOp .Gt) (rI0 fun i j => .bl (decide (j < i))) := pX fun _ _ _ _ _ _ _ q => gt_int q
theorem Cj : OpR X (compareOp .GtE) (rI0 fun i j => .bl (decide (j ≤ i))) := pX fun _ _ _ _ _ _ _ q => ge_int q
theorem yU : OpR X (compareOp .Is) (fun x y H Q => y = .non ∧ Q (.bl (decide (x = .non))) H) := by
 intro pins s σ H x y v u Q I rx ry h
 obtain ⟨rfl, q⟩ := h
 cases ry
 refine is_none_gen (aW I q ?_)
 cases x <;> first
  | (cases rx; rfl)
  | (obtain ⟨t, rfl⟩ := rx; rfl)
theorem xg : OpR X (compareOp .IsNot) (fun x y H Q => y = .non ∧ Q (.bl (!decide (x = .non))) H) := by
 intro pins s σ H x y v u Q I rx ry h
 obtain ⟨rfl, q⟩ := h
 cases ry
 refine isnot_none_gen (aW I q ?_)
 cases x <;> first
  | (cases rx; rfl)
  | (obtain ⟨t, rfl⟩ := rx; rfl)
theorem OpR.or {f : Value → Value → Sem Value} {r r' : R2} (h : OpR X f r) (h' : OpR X f r') : OpR X f (fun x y H Q => r x y H Q ∨ r' x y H Q) := by
 intro pins s σ H x y v u Q I rx ry q
 rcases q with q | q
 · exact h pins s σ H x y v u Q I rx ry q
 · exact h' pins s σ H x y v u Q I rx ry q
theorem jT (b : Expr) {op : CmpOp} (h : op ≠ .In := by decide) (h2 : op ≠ .NotIn := by decide) : behindInMarks op b = false := by
 have e1 : (op == CmpOp.In) = false := by cases op <;> first | rfl | exact absurd rfl h
 have e2 : (op == CmpOp.NotIn) = false := by cases op <;> first | rfl | exact absurd rfl h2
 cases b <;> simp [behindInMarks, e1, e2]
theorem xn {op : CmpOp} {r : R2} (ho : OpR X (compareOp op) r) (ha : PE X a ta) (hb : PE X b tb) (hm : behindInMarks op b = false) : PE X (.Compare a [op] [b] pos) (tOp r ta tb) := by
 intro pins s σ H Q I h
 exact wpAny_Compare1 (vT ha hb I h fun v u s2 x y H2 I2 rx ry q => ho pins s2 σ H2 x y v u Q I2 rx ry q) hm
def AD (K : W.Frag) (x : V) (H : Hp) (k : Bool) : Prop :=
 match x with
 | .non => k = false
 | .bl b => k = b
 | .int i => k = (i != 0)
 | .str y => y.length ≤ sizeLine ∧ k = ((y.length : Int) != 0)
 | .byt y => y.size ≤ sizeLine ∧ k = ((y.size : Int) != 0)
 | .ref p => (∃ xs, SqL K H p xs ∧ k = !xs.isEmpty) ∨ (∃ xs, SqT K H p xs ∧ k = !xs.isEmpty) ∨ ∃ kvs, H p = some (.dK kvs) ∧ k = !kvs.isEmpty
 | _ => False
theorem pZ {κ : Type} {kvs : List (κ × V)} {vs : List (κ × Value)} (r : KV kvs vs) : (!vs.isEmpty) = !kvs.isEmpty := by
 cases r <;> rfl
theorem jM {xs : List V} {its : List Value} (r : aK xs its) : (!its.toArray.isEmpty) = !xs.isEmpty := by
 cases r <;> simp
theorem gi : (sizeLine : Nat) < 2 ^ 63 := by rw [sizeLine_eq]; decide
theorem yu : DT X (fun x H Q => ∃ k, AD X.K x H k ∧ Q k H) := by
  intro pins s σ H x v Q I rx h
  obtain ⟨k, e, q⟩ := h
  have hl := gi
  have hs : sizeLine = 16777216 := sizeLine_eq
  cases x with
  | non =>
    cases rx
    have e' : k = false := e
    subst e'
    exact truthy_none ⟨H, I, q⟩
  | bl b =>
    cases rx
    have e' : k = b := e
    subst e'
    exact wpAny_truthy_bool ⟨H, I, q⟩
  | int i =>
    obtain ⟨t, rfl⟩ := rx
    have e' : k = (i != 0) := e
    subst e'
    exact PySem.P.truthy_int ⟨H, I, q⟩
  | str y =>
    obtain ⟨t, rfl⟩ := rx
    obtain ⟨hy, e'⟩ : y.length ≤ sizeLine ∧ k = ((y.length : Int) != 0) := e
    subst e'
    exact PySem.P.truthy_str (by omega) ⟨H, I.tok _, q⟩
  | byt y =>
    obtain ⟨t, rfl⟩ := rx
    obtain ⟨hy, e'⟩ : y.size ≤ sizeLine ∧ k = ((y.size : Int) != 0) := e
    subst e'
    exact W.truthy_bytes (by omega) ⟨H, I.tok _, q⟩
  | ref p =>
    cases rx
    have e' : (∃ xs, SqL X.K H p xs ∧ k = !xs.isEmpty) ∨ (∃ xs, SqT X.K H p xs ∧ k = !xs.isEmpty) ∨ ∃ kvs, H p = some (.dK kvs) ∧ k = !kvs.isEmpty := e
    rcases e' with ⟨xs, hx, e'⟩ | ⟨xs, hx, e'⟩ | ⟨kvs, hx, e'⟩
    · subst e'
      obtain ⟨its, r, pl, hz⟩ := I.list hx
      have hlen := r.length
      exact wpAny_truthy_list pl.isList (by simp only [List.size_toArray]; omega) ⟨H, I.tok _, by rw [jM r]; exact q⟩
    · subst e'
      obtain ⟨its, r, pl, hz⟩ := I.tuple hx
      have hlen := r.length
      exact truthy_tuple pl (by simp only [List.size_toArray]; omega) ⟨H, I.tok _, by rw [jM r]; exact q⟩
    · subst e'
      obtain ⟨hz, hS, vs, r, m⟩ : kvs.length ≤ sizeLine ∧ (p == sysModules) = false ∧ ∃ vs, KV kvs vs ∧ s.heap.DictOf (bI X.prog X.w) p vs := I.hok p _ hx
      have hlen : kvs.length = vs.length := Paired.length r
      exact wpAny_truthy_dict hS m (by omega) ⟨H, I.tok _, by rw [pZ r]; exact q⟩
  | _ => exact (show False from e).elim
theorem qu : OpR X (binaryOp .Add) (fun x y H Q => ∃ i j, x = .str i ∧ y = .str j ∧ i.length + j.length ≤ sizeLine ∧ Q (.str (i ++ j)) H) := by
 intro pins s σ H x y v u Q I rx ry h
 obtain ⟨i, j, rfl, rfl, hz, q⟩ := h
 obtain ⟨t, rfl⟩ := rx
 obtain ⟨t', rfl⟩ := ry
 exact add_str (fun t' tk => ⟨.str (i ++ j), H, I.tok _, ⟨_, rfl⟩, q⟩) hz
theorem fh {x : V} {us : List Value} (r : aK [x] us) : ∃ u, us = [u] ∧ aJ x u := by
 cases r with
 | cons r1 r2 => cases r2; exact ⟨_, rfl, r1⟩
theorem mh {x y : V} {us : List Value} (r : aK [x, y] us) : ∃ u w', us = [u, w'] ∧ aJ x u ∧ aJ y w' := by
  cases r with
  | cons r1 r2 =>
    cases r2 with
    | cons r3 r4 => cases r4; exact ⟨_, _, rfl, r1, r3⟩
def DQ (K : W.Frag) (x : V) (H : Hp) (n : Nat) : Prop :=
 match x with
 | .str y => y.length ≤ sizeLine ∧ n = y.length
 | .byt y => y.size ≤ sizeLine ∧ n = y.size
 | .ref p => (∃ xs, SqL K H p xs ∧ n = xs.length) ∨ ∃ xs, SqT K H p xs ∧ n = xs.length
 | _ => False
theorem jk : bM X (.builtin "len") (fun xs H Q => ∃ x n, xs = [x] ∧ DQ X.K x H n ∧ Q (.int n) H) := by
  intro pins s σ H xs us Q I r h
  obtain ⟨x, n, rfl, e, q⟩ := h
  obtain ⟨u, rfl, rx⟩ := fh r
  have hl := gi
  have hs : sizeLine = 16777216 := sizeLine_eq
  cases x with
  | str y =>
    obtain ⟨t, rfl⟩ := rx
    obtain ⟨hy, e'⟩ : y.length ≤ sizeLine ∧ n = y.length := e
    subst e'
    exact len_str (by omega) ⟨.int _, H, I.tok _, ⟨_, rfl⟩, q⟩
  | byt y =>
    obtain ⟨t, rfl⟩ := rx
    obtain ⟨hy, e'⟩ : y.size ≤ sizeLine ∧ n = y.size := e
    subst e'
    exact W.len_bytes (by omega) ⟨.int _, H, I.tok _, ⟨_, rfl⟩, q⟩
  | ref p =>
    cases rx
    have e' : (∃ xs, SqL X.K H p xs ∧ n = xs.length) ∨ ∃ xs, SqT X.K H p xs ∧ n = xs.length := e
    rcases e' with ⟨xs, hx, e'⟩ | ⟨xs, hx, e'⟩
    · subst e'
      obtain ⟨its, r', pl, hz⟩ := I.list hx
      have hlen := r'.length
      exact Calls.call_len_list pl.isList (by simp only [List.size_toArray]; omega) ⟨.int xs.length, H, I.tok _, ⟨_, by simp only [List.size_toArray]; rw [hlen]⟩, q⟩
    · subst e'
      obtain ⟨its, r', pl, hz⟩ := I.tuple hx
      have hlen := r'.length
      exact len_tuple pl (by simp only [List.size_toArray]; omega) ⟨.int xs.length, H, I.tok _, ⟨_, by simp only [List.size_toArray]; rw [hlen]⟩, q⟩
  | _ => exact (show False from e).elim
end
end L2
namespace L2
open PySem PySem.Spec PyProof.Rows
structure jr (h : Heap) (x dx C : Addr) (mA : Str → Option Value) : Prop where
 obj : h.get? x = some (W.instObj C dx)
 ns : h.Ns1 dx mA
 ne : dx ≠ x
theorem kW {h : Heap} {dx : Addr} {mA : Str → Option Value} (n : h.Ns1 dx mA) : ∃ od, h.get? dx = some od ∧ ∀ name, W.lookIn name od = some (mA name) := by
 obtain ⟨o, es, ep, ho, hd, hk, _, hm⟩ := n
 refine ⟨o, ho, fun name => ?_⟩
 have e := hm name
 unfold nsFind findBy at e
 rw [← Array.find?_toList] at e
 unfold W.lookIn
 rw [hd]
 dsimp only
 split
 · rename_i y q
   rw [q] at e
   exact congrArg some e
 · rename_i q
   rw [q] at e
   have a : es.toList.any (·.refKey) = false := by
    rw [List.any_eq_false]
    intro y hy
    obtain ⟨z, t, hkey⟩ := hk y (Array.mem_toList_iff.mp hy)
    simp [DictEntry.refKey, hkey]
   have a' : ¬ es.toList.any (·.refKey) = true := by rw [a]; exact Bool.false_ne_true
   rw [if_neg a']
   exact congrArg some e
theorem jr.look {h : Heap} {x dx C : Addr} {mA : Str → Option Value} (I : jr h x dx C mA) : ∃ od, W.InstAt h x (W.instObj C dx) C (some od) ∧ ∀ name, W.lookIn name od = some (mA name) :=
 let ⟨od, ho, hl⟩ := kW I.ns
 ⟨od, ⟨I.obj, rfl, rfl, ho⟩, hl⟩
section
variable {prog : Program} {w : World} {A : Around} {E : Value → Shared → Prop} {s : Shared} {K : W.Frag} {x dx C f : Addr} {mA : Str → Option Value} {name : Str} {v : Value}
theorem xO {expr : Bool} {Q : Value → Shared → Prop} (X : K.In s.heap) (I : jr s.heap x dx C mA) (hg : W.plainGet K C name = true) (hh : W.hasDictIn K C = true)
  (ha : W.findIn K (.ref C) name = some none) (hv : mA name = some v) (hv' : W.handedIn v = true) (h : Q v { s with toks := s.toks + 1 }) :
  wpAny (model prog w) A (getAttr (.ref x) name expr) Q E s := by
 obtain ⟨od, J, hl⟩ := I.look
 exact W.get_value X J (W.plainGet_of hg).1 (W.findObj_own hh ha rfl (by rw [hl, hv])) hv' h
theorem vO {pl : Sem Bool} {Q : Value × List Value → Shared → Prop} (X : K.In s.heap) (I : jr s.heap x dx C mA) (hg : W.plainGet K C name = true)
  (hf : W.findIn K (.ref C) name = some (some (.ref f))) (ht : W.isFn K (.ref f) = true) (hv : mA name = none) (h : Q (.ref f, [.ref x]) s) :
  wpAny (model prog w) A (getMethod (.ref x) name pl) Q E s := by
 obtain ⟨od, J, hl⟩ := I.look
 exact W.method_fn X J (W.plainGet_of hg).1 (W.plainGet_of hg).2 hf (beq_iff_eq.mp ht) (by show (W.lookIn name od).map (·.isSome) = some false; rw [hl, hv]; rfl) h
theorem xi {ns : List Str} {Q : Unit → Shared → Prop} (X : K.In s.heap) (I : jr s.heap x dx C mA)
  (hs : W.findIn K (.ref C) "__setattr__" = some (some (.builtin "object.__setattr__"))) (hp : W.plainOver K C = true) (ht : W.takerIn K C name = some none) (hh : W.hasDictIn K C = true)
  (hw : PySem.Within mA ns) (hsz : ns.length ≤ sizeLine)
  (h : ∀ h', jr h' x dx C (fun y => if y = name then some v else mA y) → Heap.SameBut dx s.heap h' → Q () { s with heap := h', toks := s.toks + 2 }) :
  wpAny (model prog w) A (setAttr (.ref x) name v) Q E s := by
 obtain ⟨od, J, hl⟩ := I.look
 refine W.set_plain X J hs (W.osa_open (s := { s with toks := s.toks + 1 }) (r := none) X J hp ht fun b => ?_)
 obtain ⟨cd, hc, hd'⟩ := W.any_some hh
 have hx : s.heap.get? x = some ⟨.ref C, some dx, .plain, #[]⟩ := I.obj
 refine wpAny_bind (wpAny_pure (wpAny_bind (wpAny_bind (wpAny_loadPart hx (wpAny_bind (W.Looks.here (s := { s with toks := s.toks + 1 }) (W.looks_clsIn X hc) ?_))))))
 rw [hd']
 refine wpAny_pure (a := some dx) (wpAny_bind (wpAny_pure (wpAny_bind ?_)))
 refine wpAny_nsSet1 (s := { s with toks := s.toks + 1 }) I.ns fun h' hn2 hs2 => ?_
 obtain ⟨oD, esD, epD, hoD, hdD, hcD⟩ := hn2.count (PySem.Within.cons name v hw)
 refine wpAny_bind (wpAny_lookBehind hoD (by rw [hdD]; exact pastItsLine_dict (Nat.le_trans hcD (by rw [List.length_cons]; omega))) ?_)
 exact wpAny_pure (h _ ⟨(hs2.2 _ (Ne.symm I.ne)).trans I.obj, hn2, I.ne⟩ hs2)
theorem uw {R : Result → Shared → Prop} {vs : List Value} {kw : List (Str × Value)} (X : K.In s.heap) (hm : W.makesIn K C = true)
  (hi : W.findIn K (.ref C) "__init__" = some (some (.ref f))) (hf : W.typeIn K (.ref f) = some (.type "function"))
  (h : codeAny (model prog w) (A.under (.builtin "type.__call__" ⟨.ref C :: vs, kw⟩)) (.call (.ref f) ⟨.ref (s.heap.objs.size + 1) :: vs, kw⟩) (W.InitBack (s.heap.objs.size + 1) R)
   { s with heap := (s.heap.push W.emptyDict).push (W.instObj C s.heap.objs.size) }) :
  codeAny (model prog w) A (.call (.ref C) ⟨vs, kw⟩) R s := by
 obtain ⟨hh, g, d, t, os⟩ := s
 exact W.make_core (W.makes_of X hm) (W.looks_findIn X hi) (fun self => W.bind_fn X self hf) (.inl rfl) h
end
def da (f : Str) (v : V) : List (Str × V) → List (Str × V)
 | [] => [(f, v)]
 | (g, x) :: r => if g = f then (g, v) :: r else (g, x) :: da f v r
theorem fR (f g : Str) (v : V) : ∀ fs : List (Str × V), (da f v fs).lookup g = if g = f then some v else fs.lookup g
  | [] => by
    show List.lookup g [(f, v)] = _
    by_cases h : g = f
    · have hb : (g == f) = true := beq_iff_eq.mpr h
      simp only [List.lookup, hb, if_pos h]
    · have hb : (g == f) = false := beq_eq_false_iff_ne.mpr h
      simp only [List.lookup, hb, if_neg h]
  | (k, x) :: r => by
    have ih := fR f g v r
    rw [show da f v ((k, x) :: r) = (if k = f then (k, v) :: r else (k, x) :: da f v r) from rfl]
    by_cases hk : k = f
    · rw [if_pos hk]
      by_cases h : g = k
      · have hb : (g == k) = true := beq_iff_eq.mpr h
        simp only [List.lookup, hb, if_pos (h.trans hk)]
      · have hb : (g == k) = false := beq_eq_false_iff_ne.mpr h
        simp only [List.lookup, hb, if_neg (fun e : g = f => h (e.trans hk.symm))]
    · rw [if_neg hk]
      by_cases h : g = k
      · have hb : (g == k) = true := beq_iff_eq.mpr h
        simp only [List.lookup, hb, if_neg (fun e : g = f => hk (h.symm.trans e))]
      · have hb : (g == k) = false := beq_eq_false_iff_ne.mpr h
        simp only [List.lookup, hb]
        exact ih
theorem iw (f : Str) (v : V) : ∀ fs : List (Str × V), f ∈ (da f v fs).map (·.1) ∧ ∀ g, g ∈ fs.map (·.1) → g ∈ (da f v fs).map (·.1)
  | [] => ⟨by simp [da], fun g h => by simp at h⟩
  | (k, x) :: r => by
    obtain ⟨i1, i2⟩ := iw f v r
    rw [show da f v ((k, x) :: r) = (if k = f then (k, v) :: r else (k, x) :: da f v r) from rfl]
    by_cases hk : k = f
    · rw [if_pos hk]
      subst hk
      exact ⟨by simp, fun g h => by simpa using h⟩
    · rw [if_neg hk]
      refine ⟨?_, fun g h => ?_⟩
      · rw [List.map_cons]
        exact List.mem_cons_of_mem _ i1
      · rw [List.map_cons] at h ⊢
        rcases List.mem_cons.mp h with e | e
        · exact List.mem_cons.mpr (.inl e)
        · exact List.mem_cons_of_mem _ (i2 g e)
theorem jc (f : Str) (v : V) : ∀ fs : List (Str × V), (da f v fs).length ≤ fs.length + 1
  | [] => by simp [da]
  | (k, x) :: r => by
    have ih := jc f v r
    rw [show da f v ((k, x) :: r) = (if k = f then (k, v) :: r else (k, x) :: da f v r) from rfl]
    by_cases hk : k = f
    · rw [if_pos hk, List.length_cons, List.length_cons]; omega
    · rw [if_neg hk, List.length_cons, List.length_cons]; omega
theorem bS.some_of {v : V} {o : Option Value} (r : bS (some v) o) : ∃ u, o = some u ∧ aJ v u := by
 cases o with
 | none => exact (show False from r).elim
 | some u => exact ⟨u, rfl, r⟩
theorem bS.none_of {o : Option Value} (r : bS none o) : o = none := by
 cases o with
 | none => rfl
 | some u => exact (show False from r).elim
theorem lh {v : V} {u : Value} (r : aJ v u) : W.handedIn u = true := by
 cases v with
 | non => cases (show u = Value.none from r); rfl
 | bl b => cases (show u = Value.bool b from r); rfl
 | int i => obtain ⟨t, e⟩ := (show ∃ t, u = Value.int i t from r); cases e; rfl
 | str x => obtain ⟨t, e⟩ := (show ∃ t, u = Value.str x t from r); cases e; rfl
 | byt b => obtain ⟨t, e⟩ := (show ∃ t, u = Value.bytes b t from r); cases e; rfl
 | flt b => obtain ⟨t, e⟩ := (show ∃ t, u = Value.float b t from r); cases e; rfl
 | ref a => cases (show u = Value.ref a from r); rfl
 | ty n => cases (show u = Value.type n from r); rfl
section
variable {P : Program} {w : World} {H H' : Hp} {h h' : Heap} {a C dx : Addr} {fs fs' : List (Str × V)}
theorem iQ (hok : HOk P w H h) (e : H a = some (.ins C dx fs)) : ∃ mA, jr h a dx C mA ∧ (∀ f, bS (fs.lookup f) (mA f)) ∧ PySem.Within mA (fs.map (·.1)) ∧ fs.length ≤ 1000 ∧ H dx = some (.own a) := by
 obtain ⟨d, z, ne, ob, mA, n, r, q⟩ := (show aR P w H h a (.ins C dx fs) from hok a _ e)
 exact ⟨mA, ⟨ob, n, ne⟩, r, q, z, d⟩
end
structure Cls (K : W.Frag) (C : Addr) : Prop where
 pg : W.plainGet K C Str.empty = true
 hd : W.hasDictIn K C = true
 po : W.plainOver K C = true
 sa : W.findIn K (.ref C) "__setattr__" = some (some (.builtin "object.__setattr__"))
theorem Cls.get {K : W.Frag} {C : Addr} (c : Cls K C) (f : Str) : W.plainGet K C f = true := c.pg
def fF (K : W.Frag) (C : Addr) (f : Str) : Prop := W.findIn K (.ref C) f = some none
theorem fF.taker {K : W.Frag} {C : Addr} {f : Str} (n : fF K C f) : W.takerIn K C f = some none := by
 unfold W.takerIn
 rw [show W.findIn K (.ref C) f = some none from n]
 rfl
structure vn (K : W.Frag) (C : Addr) (m : Str) (f : Addr) : Prop where
 at_ : W.findIn K (.ref C) m = some (some (.ref f))
 fn : W.isFn K (.ref f) = true
 kp : W.keepIn K (.ref f) = true
section
variable {X : Cx} {pins : List (Addr × Obj)} {σ : St} {H : Hp} {s : Shared} {a C dx : Addr} {fs : List (Str × V)} {f : Str} {v : V} {A : Around} {E : Value → Shared → Prop}
theorem qr {b : Bool} {Q : Value → Shared → Prop} (I : Inv X pins σ H s) (e : H a = some (.ins C dx fs)) (c : Cls X.K C) (n : fF X.K C f) (l : fs.lookup f = some v)
  (h : ∀ u s', Inv X pins σ H s' → aJ v u → Q u s') : wpAny (model X.prog X.w) A (getAttr (.ref a) f b) Q E s := by
 obtain ⟨mA, O, r, _, _, _⟩ := iQ I.hok e
 obtain ⟨u, hu, ru⟩ := bS.some_of (v := v) (o := mA f) (by rw [← l]; exact r f)
 exact xO I.kIn O (c.get f) c.hd n hu (lh ru) (h u _ (I.tok _) ru)
theorem pR {m : Str} {g : Addr} {pl : Sem Bool} {Q : Value × List Value → Shared → Prop} (I : Inv X pins σ H s) (e : H a = some (.ins C dx fs)) (c : Cls X.K C) (k : vn X.K C m g) (l : fs.lookup m = none)
  (h : Q (.ref g, [.ref a]) s) : wpAny (model X.prog X.w) A (getMethod (.ref a) m pl) Q E s := by
 obtain ⟨mA, O, r, _, _, _⟩ := iQ I.hok e
 have hn : mA m = none := bS.none_of (by rw [← l]; exact r m)
 exact vO I.kIn O (c.get m) k.at_ k.fn hn h
theorem qN {y : V} {u : Value} {Q : Unit → Shared → Prop} (I : Inv X pins σ H s) (e : H a = some (.ins C dx fs)) (c : Cls X.K C) (n : fF X.K C f) (hl : fs.length < 1000) (ry : aJ y u)
   (h : ∀ s', Inv X pins σ (upd H a (.ins C dx (da f y fs))) s' → Q () s') : wpAny (model X.prog X.w) A (setAttr (.ref a) f u) Q E s := by
 obtain ⟨mA, O, r, wi, _, ho⟩ := iQ I.hok e
 have hz : (fs.map (·.1)).length ≤ sizeLine := by rw [List.length_map, sizeLine_eq]; omega
 refine xi I.kIn O c.sa c.po n.taker c.hd wi hz fun h' O' sb => h _ ?_
 have hd : ∃ o, h'.get? dx = some o := let ⟨o, _, _, e', _⟩ := O'.ns; ⟨o, e'⟩
 refine I.write (x := a) (e := dx) (by rw [e]; exact True.intro) (.inr ho) (fun b q hb z => (sb.2 b hb).trans z) hd ?_
 refine ⟨by rw [ak O.ne]; exact ho, ?_, O.ne, O'.obj, _, O'.ns, fun g => ?_, fun g hg => ?_⟩
 · have := jc f y fs; omega
 · show bS ((da f y fs).lookup g) (if g = f then some u else mA g)
   rw [fR]
   by_cases q : g = f
   · rw [if_pos q, if_pos q]; exact ry
   · rw [if_neg q, if_neg q]; exact r g
 · by_cases q : g = f
   · rw [q]; exact (iw f y fs).1
   · refine (iw f y fs).2 g (wi g fun z => hg ?_)
     show (if g = f then some u else mA g) = none
     rw [if_neg q]; exact z
theorem Inv.made (I : Inv X pins σ H s) : Inv X pins σ (upd (upd H s.heap.objs.size (.own (s.heap.objs.size + 1))) (s.heap.objs.size + 1) (.ins C s.heap.objs.size []))
  { s with heap := (s.heap.push W.emptyDict).push (W.instObj C s.heap.objs.size) } := by
 have e1 : (s.heap.push W.emptyDict).get? s.heap.objs.size = some W.emptyDict := Heap.get?_push_size s.heap rfl
 have e2 : ((s.heap.push W.emptyDict).push (W.instObj C s.heap.objs.size)).get? (s.heap.objs.size + 1) = some (W.instObj C s.heap.objs.size) := by
  have := Heap.get?_push_size (s.heap.push W.emptyDict) (o := W.instObj C s.heap.objs.size) rfl
  rwa [Heap.size_push] at this
 have e3 : (s.heap.push W.emptyDict).Ns s.heap.objs.size (fun _ => none) := ⟨W.emptyDict, #[], _, e1, rfl, (fun e he => absurd he (by simp)), fun _ => rfl⟩
 have I1 := I.laid (a := s.heap.objs.size) (o := .own (s.heap.objs.size + 1)) (h' := s.heap.push W.emptyDict) (t' := s.toks) (fun b u q => Heap.get?_push_of_some _ q) (Nat.le_refl _) ⟨_, e1⟩
 refine I1.laid (a := s.heap.objs.size + 1) (o := .ins C s.heap.objs.size []) (t' := s.toks) (fun b u q => Heap.get?_push_of_some _ q) (Nat.le_of_eq (Heap.size_push _ _)) ?_
 have ne : s.heap.objs.size ≠ s.heap.objs.size + 1 := Nat.ne_of_lt (Nat.lt_succ_self _)
 refine ⟨by rw [ak ne, ag], Nat.zero_le _, ne, e2, fun _ => none, (Heap.Ns1.of_empty e3).at fun o q => Heap.get?_push_of_some _ q, fun _ => True.intro, fun y hy => absurd rfl hy⟩
theorem oV {prog : Program} {w : World} {env : Env} {e : Expr} {f : Str} {pos : Pos} {s : Shared} {Q : Value → Shared → Prop} (hb : attributeBase e f env (eval e env) = eval e env)
  (h : wpAny (model prog w) A (eval e env) (fun o s₁ => wpAny (model prog w) A (getAttr o f true) Q E s₁) E s) : wpAny (model prog w) A (eval (.Attribute e f pos) env) Q E s :=
 Attribute_any_ h (by rw [arm_eval_Attribute, hb])
end
def kS (K : W.Frag) (ta : TE) (f : Str) : TE := fun σ H Q => ta σ H fun x H1 => ∃ a C dx fs v, x = .ref a ∧ H1 a = some (.ins C dx fs) ∧ Cls K C ∧ fF K C f ∧ fs.lookup f = some v ∧ Q v H1
def vF (K : W.Frag) (ta tv : TE) (f : Str) : TS := fun D σ H => tv σ H fun y H1 => ta σ H1 fun x H2 => ∃ a C dx fs, x = .ref a ∧ H2 a = some (.ins C dx fs) ∧ Cls K C ∧ fF K C f ∧ fs.length < 1000 ∧
 D.nx σ (upd H2 a (.ins C dx (da f y fs)))
section
variable {X : Cx} {o e value : Expr} {f : Str} {pos pos' tpos : Pos} {ta tv : TE}
theorem Aa (he : PE X e ta) (hb : attributeBase e f X.env (eval e X.env) = eval e X.env) : PE X (.Attribute e f pos) (kS X.K ta f) := by
 intro pins s σ H Q I h
 refine oV hb (thn (he pins s σ H _ I h) fun u s1 ⟨x, H1, I1, rx, a, C, dx, fs, v, ex, ea, c, n, l, q⟩ => ?_)
 subst ex
 obtain rfl : u = Value.ref a := rx
 exact qr I1 ea c n l fun u' s2 I2 ru => ⟨v, H1, I2, ru, q⟩
theorem zT (ha : PE X o ta) (hv : PE X value tv) (hs : swapsWith value (some (.Attribute o f pos')) pos.line X.env = pure false) : PS X (.Assign [.Attribute o f pos'] value pos) (vF X.K ta tv f) := by
 intro pins s σ H D I h
 refine plainObj_wpAny_Assign_Attribute (thn (hv pins s σ H _ I h) fun u s1 ⟨y, H1, I1, ry, q⟩ => thn (ha pins s1 σ H1 _ I1 q) fun ov s2 ⟨x, H2, I2, rx, a, C, dx, fs, ex, ea, c, n, l, q2⟩ => ?_) hs
 subst ex
 obtain rfl : ov = Value.ref a := rx
 exact qN I2 ea c n l ry fun s3 I3 => ⟨σ, _, I3, q2⟩
end
section
variable {X : Cx} {pins : List (Addr × Obj)} {σ : St} {H : Hp} {s : Shared} {A : Around} {E : Value → Shared → Prop} {Q : Value → Shared → Prop} {c : Value} {b : Bool}
inductive eL (K : W.Frag) (H : Hp) : V → Value → Prop where
 | non : eL K H .non (.type "NoneType")
 | bl (x : Bool) : eL K H (.bl x) (.type "bool")
 | int (i : Int) : eL K H (.int i) (.type "int")
 | str (x : Str) : eL K H (.str x) (.type "str")
 | flt (x : UInt64) : eL K H (.flt x) (.type "float")
 | lst {a : Addr} {xs : List V} (e : H a = some (.lst xs)) : eL K H (.ref a) (.type "list")
 | frz {a : Addr} {o : Obj} {xs : List V} (e : H a = some (.frz o (.lst xs))) : eL K H (.ref a) (.type "list")
 | tup {a : Addr} {xs : List V} (e : H a = some (.tup xs)) : eL K H (.ref a) (.type "tuple")
 | dK {a : Addr} {kvs : List (Key × V)} (e : H a = some (.dK kvs)) : eL K H (.ref a) (.type "dict")
 | dT {a : Addr} {kvs : List (List Key × V)} (e : H a = some (.dT kvs)) : eL K H (.ref a) (.type "dict")
 | ins {a C dx : Addr} {fs : List (Str × V)} (e : H a = some (.ins C dx fs)) (cl : Cls K C) (ha : W.findIn K (.ref C) "__class__" = some (some (.builtin "object.__class__")))
  (hn : W.specialIn K (.builtin "object.__class__") "__get__" = some (some (.builtin "getset_descriptor.__get__"))) (htk : W.takesIn K (.builtin "object.__class__") = some true)
  (hm : W.mroIn K C (.type "object") = some true) : eL K H (.ref a) (.ref C)
theorem sg {x : V} {u t : Value} (I : Inv X pins σ H s) (rx : aJ x u) (ty : eL X.K H x t) (e : W.kitOne X.K t c = some b) (h : ∀ tk, Q (.bool b) { s with toks := tk }) :
    wpAny (model X.prog X.w) A (call (.builtin "isinstance") [u, c]) Q E s := by
  cases ty with
  | non => cases (show u = Value.none from rx); exact W.kia_one W.kitx_none I.kIn True.intro e (fun z => nomatch z) h
  | bl y => cases (show u = Value.bool y from rx); exact W.kia_one W.kitx_bool I.kIn True.intro e (fun z => nomatch z) h
  | int i => obtain ⟨t, q⟩ := (show ∃ t, u = Value.int i t from rx); cases q; exact W.kia_one W.kitx_int I.kIn True.intro e (fun z => nomatch z) h
  | str y => obtain ⟨t, q⟩ := (show ∃ t, u = Value.str y t from rx); cases q; exact W.kia_one W.kitx_str I.kIn True.intro e (fun z => nomatch z) h
  | flt y => obtain ⟨t, q⟩ := (show ∃ t, u = Value.float y t from rx); cases q; exact W.kia_one W.kitx_float I.kIn True.intro e (fun z => nomatch z) h
  | @lst a xs ea =>
    cases (show u = Value.ref a from rx)
    obtain ⟨_, _, n, _, h1⟩ := (show aR X.prog X.w H s.heap a (.lst xs) from I.hok a _ ea)
    exact W.kia_one W.kitx_list I.kIn ⟨_, h1, rfl⟩ e (fun z => nomatch z) h
  | @frz a ob xs ea =>
    cases (show u = Value.ref a from rx)
    obtain ⟨_, _, _, n, _, h1⟩ := (show aR X.prog X.w H s.heap a (.frz ob (.lst xs)) from I.hok a _ ea)
    exact W.kia_one W.kitx_list I.kIn ⟨_, h1, rfl⟩ e (fun z => nomatch z) h
  | @tup a xs ea =>
    cases (show u = Value.ref a from rx)
    obtain ⟨_, _, _, p⟩ := (show aR X.prog X.w H s.heap a (.tup xs) from I.hok a _ ea)
    obtain ⟨o, h1, h2, _⟩ := p
    exact W.kia_one W.kitx_tuple I.kIn ⟨o, h1, h2⟩ e (fun z => nomatch z) h
  | @dK a kvs ea =>
    cases (show u = Value.ref a from rx)
    obtain ⟨_, _, vs, _, p⟩ := (show aR X.prog X.w H s.heap a (.dK kvs) from I.hok a _ ea)
    obtain ⟨o, es, ep, h1, h2, _⟩ := p
    exact W.kia_one W.kitx_dict I.kIn ⟨o, h1, h2.1⟩ e (fun z => nomatch z) h
  | @dT a kvs ea =>
    cases (show u = Value.ref a from rx)
    obtain ⟨_, _, xs, _, o, es, ep, h1, h2, _⟩ := (show aR X.prog X.w H s.heap a (.dT kvs) from I.hok a _ ea)
    exact W.kia_one W.kitx_dict I.kIn ⟨o, h1, h2.1⟩ e (fun z => nomatch z) h
  | @ins a C dx fs ea cl ha hn htk hm =>
    cases (show u = Value.ref a from rx)
    obtain ⟨mA, O, _⟩ := iQ I.hok ea
    obtain ⟨od, J, _⟩ := O.look
    exact W.kia_one (W.kitx_own (cl.get _) cl.hd ha hn htk hm) I.kIn J e (fun z => nomatch z) h
end
end L2
namespace L2
open PySem PySem.Spec PyProof.Rows
structure bc (k : Nat) (A : Around) : Prop where
 hd : A.handled = none
 dp : A.depth + 3 * k + 5 < recursionLimit
 un : A.units + 16 * k + 200 < cLine
theorem bc.mono {j k : Nat} {A : Around} (r : bc k A) (h : j ≤ k) : bc j A := ⟨r.hd, by have := r.dp; omega, by have := r.un; omega⟩
theorem bc.deeper {k : Nat} {A : Around} (r : bc (k + 1) A) (env : Env) : bc k (A.deeper env) :=
 ⟨r.hd, by have := r.dp; show A.depth + 1 + 3 * k + 5 < _; omega, by have := r.un; show A.units + 3 + 16 * k + 200 < _; omega⟩
theorem qO {A : Around} {C : Addr} {us : List Value} {kw : List (Str × Value)} : (A.under (.builtin "type.__call__" ⟨.ref C :: us, kw⟩)).depth = A.depth + 1 := by
 first | rfl | simp [Around.under, Code.weight, Code.isCreation, Code.isGuard, Code.isCaller, Code.frames, Code.isFrame, guardIds]
theorem qZ {A : Around} {C : Addr} {us : List Value} {kw : List (Str × Value)} : (A.under (.builtin "type.__call__" ⟨.ref C :: us, kw⟩)).units = A.units + 1 := by
 first | rfl | simp [Around.under, Code.cUnits, Code.frames, Code.isFrame]
theorem bc.make {k : Nat} {A : Around} (r : bc (k + 1) A) (C : Addr) (us : List Value) (kw : List (Str × Value)) : bc k (A.under (.builtin "type.__call__" ⟨.ref C :: us, kw⟩)) :=
 ⟨r.hd, by have := r.dp; rw [qO]; omega, by have := r.un; rw [qZ]; omega⟩
theorem bc.depth {k : Nat} {A : Around} (r : bc k A) : A.depth < recursionLimit := by have := r.dp; omega
def af : TA := fun _ H Q => Q [] H
def ad (ta : TE) (tr : TA) : TA := fun σ H Q => ta σ H fun x H1 => tr σ H1 fun xs H2 => Q (x :: xs) H2
section
variable {X : Cx} {e : Expr} {es : List Expr} {te : TE} {t : TA} {pos : Pos}
theorem AN : PA X [] af := fun _ _ _ _ H Q I h => Calls.spliced_nil ⟨[], H, I, .nil, h⟩
theorem wZ (ha : PE X e te) (hr : PA X es t) (hs : starEach (e :: es) X.env = (false, eval e X.env) :: starEach es X.env := by rfl) : PA X (e :: es) (ad te t) := by
 intro pos pins s σ H Q I h
 rw [hs]
 show wpAny _ _ (spliced ((false, eval e X.env) :: backTo pos (starEach es X.env))) _ _ s
 refine Calls.spliced_cons (thn (ha pins s σ H _ I h) fun u s1 ⟨x, H1, I1, r1, q1⟩ => ?_)
 exact thn (hr pos pins s1 σ H1 _ I1 q1) fun us s2 ⟨xs, H2, I2, r2, q2⟩ => ⟨x :: xs, H2, I2, .cons r1 r2, q2⟩
def bf (t : TA) : TE := fun σ H Q => t σ H fun xs H1 => xs.length ≤ sizeLine ∧ ∀ p, H1 p = none → Q (.ref p) (upd H1 p (.tup xs))
def cM (t : TA) : TE := fun σ H Q => t σ H fun xs H1 => xs.length ≤ sizeLine ∧ ∀ p, H1 p = none → Q (.ref p) (upd H1 p (.lst xs))
theorem Am {x1} (h : PA X es t) : PE X (.Tuple es x1 pos) (bf t) := by
 intro pins s σ H Q I hq
 refine wpAny_Tuple_spliced (thn (h pos pins s σ H _ I hq) fun us s1 ⟨xs, H1, I1, r, z, q⟩ => ⟨by rw [← r.length]; exact z, ?_⟩)
 have hf : H1 s1.heap.objs.size = none := I1.hok.fresh (Nat.le_refl _)
 refine ⟨.ref s1.heap.objs.size, upd H1 s1.heap.objs.size (.tup xs), I1.laid (t' := s1.toks) (fun b u e => Heap.get?_push_of_some _ e) (Nat.le_refl _) ?_, rfl, q _ hf⟩
 exact ⟨z, us, r, ⟨_, Heap.get?_push_size _ rfl, rfl, _, rfl⟩⟩
theorem yj (h : PA X es t) : PE X (.List es pos) (cM t) := by
 intro pins s σ H Q I hq
 refine wpAny_List_spliced (thn (h pos pins s σ H _ I hq) fun us s1 ⟨xs, H1, I1, r, z, q⟩ => ⟨by rw [← r.length]; exact z, ?_⟩)
 have hf : H1 s1.heap.objs.size = none := I1.hok.fresh (Nat.le_refl _)
 refine ⟨.ref s1.heap.objs.size, upd H1 s1.heap.objs.size (.lst xs), I1.laid (t' := s1.toks) (fun b u e => Heap.get?_push_of_some _ e) (Nat.le_refl _) ?_, rfl, q _ hf⟩
 exact ⟨z, us, 0, r, Heap.get?_push_size _ rfl⟩
end
abbrev Sp := List V → Hp → VK → XK → Prop
abbrev CXT := List Env → Hp → Shared → XK → Value → Shared → Prop
structure gU (P : Program) (w : World) (K : W.Frag) (mg : Str → Option Value) (base : Heap) (A : Around) (outer : List Env) (s : Shared) (H : Hp) : Prop where
 frames : A.frames = some outer
 mod : Mod K mg base
 bs : ∀ b o, base.get? b = some o → s.heap.get? b = some o ∧ H b = none
 bsz : base.objs.size ≤ s.heap.objs.size
 funs : s.heap.FunFrames base outer
 frf : ∀ b ∈ frs outer, H b = none
 hok : HOk P w H s.heap
 bare : AllBare s.gens
def CE (outer : List Env) (P : Program) (w : World) (H : Hp) (s : Shared) (Q : VK) (u : Value) (s' : Shared) : Prop :=
 ∃ v H', s'.os = s.os ∧ AllBare s'.gens ∧ Un (frs outer) [] H H' s.heap s'.heap ∧ HOk P w H' s'.heap ∧ aJ v u ∧ Q v H'
def CR (CX : CXT) (outer : List Env) (P : Program) (w : World) (H : Hp) (s : Shared) (Q : VK) (E : XK) (r : Result) (s' : Shared) : Prop :=
 match r with
 | .ok (.ret u) => CE outer P w H s Q u s'
 | .ok _ => False
 | .error e => CX outer H s E e s'
structure aV (P : Program) (w : World) (K : W.Frag) (mg : Str → Option Value) (base : Heap) (CX : CXT) (k : Nat) (f : Addr) (fd : FuncData) (ps : List Str) (sp : Sp) : Prop where
 len : ∀ vs H Q E, sp vs H Q E → vs.length = ps.length
 run : ∀ (A : Around) (outer : List Env) (s : Shared) (H : Hp) (args : Args) (us : List Value) (vs : List V) (Q : VK) (E : XK), bc k A → gU P w K mg base A outer s H → BindsTo s fd args (ps.zip us) → aK vs us → sp vs H Q E →
  codeAny (model P w) A (.call (.ref f) args) (CR CX outer P w H s Q E) s
theorem gU.make {P : Program} {w : World} {K : W.Frag} {mg : Str → Option Value} {base : Heap} {A : Around} {outer : List Env} {s : Shared} {H : Hp} (e : gU P w K mg base A outer s H) (C : Addr) (us : List Value) (kw : List (Str × Value)) :
 gU P w K mg base (A.under (.builtin "type.__call__" ⟨.ref C :: us, kw⟩)) outer s H := ⟨by first | exact e.frames | (simpa [Around.under, Code.envs, Code.isFrame, pushEnvs] using e.frames), e.mod, e.bs, e.bsz, e.funs, e.frf, e.hok, e.bare⟩
section
variable {X : Cx} {pins : List (Addr × Obj)} {σ : St} {H : Hp} {s s' : Shared}
theorem Inv.env0 (I : Inv X pins σ H s) : gU X.prog X.w X.K X.mg X.base X.A X.stack s H :=
 ⟨I.ok.frames, I.ok.mod, I.bs, Nat.le_trans I.ok.bsz I.sz, I.stack, I.stkFree, I.hok, I.bare⟩
theorem Inv.after {Q : VK} {u : Value} (I : Inv X pins σ H s) (h : CE X.stack X.prog X.w H s Q u s') : EP X pins σ Q u s' := by
 obtain ⟨v, H', os, bare, un, hok, r, q⟩ := h
 obtain ⟨hh, g, d, t, os'⟩ := s'
 obtain rfl : os' = s.os := os
 exact ⟨v, H', I.call (h' := hh) (g' := g) (d' := d) (t' := t) (ch := []) un hok bare (fun b z => absurd z (by simp)), r, q⟩
end
def bY (K : W.Frag) (fd : FuncData) (ps : List Str) (ds : List Value) : Prop :=
 ∀ (s : Shared) (us : List Value), K.In s.heap → (us ++ ds).length = ps.length → BindsTo s fd ⟨us, []⟩ (ps.zip (us ++ ds))
theorem bY.all {K : W.Frag} {fd : FuncData} {ps : List Str} (h : ∀ us : List Value, us.length = ps.length → bindArgs fd ⟨us, []⟩ = pure (ps.zip us)) : bY K fd ps [] := fun s us _ hl => by
 rw [List.append_nil] at hl ⊢
 exact .of_eq (h us hl)
section
variable {X : Cx} {CX : CXT} {k : Nat} {f C : Addr} {fd : FuncData} {ps : List Str} {sp : Sp} {dvs : List V} {ds : List Value} {E : XK} {x m : Str} {p pos apos : Pos} {e o : Expr} {es : List Expr} {ta : TE} {t : TA}
structure Mk (K : W.Frag) (C f : Addr) : Prop where
 makes : W.makesIn K C = true
 init : W.findIn K (.ref C) "__init__" = some (some (.ref f))
 fn : W.isFn K (.ref f) = true
 kp : W.keepIn K (.ref C) = true
end
def PK (X : Cx) (kws : List Keyword) (t : TA) : Prop :=
 ∀ (pos : Pos) (pins : List (Addr × Obj)) (s : Shared) (σ : St) (H : Hp) (Q : List V → Hp → Prop), Inv X pins σ H s → t σ H Q → wpAny (model X.prog X.w) X.A (evalAll ((backToKw pos (keywordEach kws X.env)).map (·.2))) (AP X pins σ Q) X.xe s
section
variable {X : Cx} {CX : CXT} {k : Nat} {f C : Addr} {fd : FuncData} {ps ks : List Str} {sp : Sp} {E : XK} {x m : Str} {p pos apos kpos : Pos} {e o : Expr} {es : List Expr} {kws : List Keyword} {te ta : TE} {t tk : TA} {nm : Option Str}
variable {g : List Value → List Value → List Value} {gV : List V → List V → List V}
end
structure aF (N P : List Str) (sc : Scope) : Prop where
 kind : sc.kind = .function
 co : sc.isCoroutine = false
 gen : sc.isGenerator = false
 nd : N.Nodup
 pre : N.take P.length = P
 par : ∀ x ∈ P, sc.names.lookup x = some .local ∨ sc.names.lookup x = some .cell
 nofree : ∀ y ∈ sc.names, y.2 ≠ .free
theorem kX {kindOf : Str → Option NameKind} {x : Str} : ∀ {binds : List (Str × Value)} {m : Str → Option Value}, (∀ v, (x, v) ∉ binds) → bindL kindOf binds m x = m x
  | [], _, _ => rfl
  | (n, v) :: r, m, h => by
    unfold bindL
    rw [kX fun w hw => h w (List.mem_cons_of_mem _ hw)]
    split
    · have : x ≠ n := by rintro rfl; exact h v List.mem_cons_self
      simp [this]
    · rfl
theorem lj {kindOf : Str → Option NameKind} {x : Str} : ∀ {binds : List (Str × Value)} {m : Str → Option Value}, (∀ v, (x, v) ∉ binds) → bindC kindOf binds m x = m x
  | [], _, _ => rfl
  | (n, v) :: r, m, h => by
    unfold bindC
    rw [lj fun w hw => h w (List.mem_cons_of_mem _ hw)]
    split
    · rfl
    · have : x ≠ n := by rintro rfl; exact h v List.mem_cons_self
      simp [this]
theorem lw {kindOf : Str → Option NameKind} {x : Str} {v : Value} : ∀ {P : List Str} {vs : List Value} {i : Nat} {m : Str → Option Value}, P.Nodup → P[i]? = some x → vs[i]? = some v → kindOf x = some .local →
    bindL kindOf (P.zip vs) m x = some v
  | [], _, _, _, _, h, _, _ => by simp at h
  | _ :: _, [], _, _, _, _, h, _ => by simp at h
  | p :: P, w :: vs, 0, m, nd, h1, h2, hk => by
    simp at h1 h2; subst h1; subst h2
    show bindL kindOf ((p, w) :: P.zip vs) m p = _
    unfold bindL
    rw [kX fun v hv => (List.nodup_cons.mp nd).1 (List.of_mem_zip hv).1, if_pos hk]
    simp
  | p :: P, w :: vs, i + 1, m, nd, h1, h2, hk => by
    show bindL kindOf ((p, w) :: P.zip vs) m x = _
    unfold bindL
    exact lw (i := i) (List.nodup_cons.mp nd).2 (by simpa using h1) (by simpa using h2) hk
theorem lu {kindOf : Str → Option NameKind} {x : Str} {v : Value} : ∀ {P : List Str} {vs : List Value} {i : Nat} {m : Str → Option Value}, P.Nodup → P[i]? = some x → vs[i]? = some v → kindOf x ≠ some .local →
    bindC kindOf (P.zip vs) m x = some v
  | [], _, _, _, _, h, _, _ => by simp at h
  | _ :: _, [], _, _, _, _, h, _ => by simp at h
  | p :: P, w :: vs, 0, m, nd, h1, h2, hk => by
    simp at h1 h2; subst h1; subst h2
    show bindC kindOf ((p, w) :: P.zip vs) m p = _
    unfold bindC
    rw [lj fun v hv => (List.nodup_cons.mp nd).1 (List.of_mem_zip hv).1, if_neg hk]
    simp
  | p :: P, w :: vs, i + 1, m, nd, h1, h2, hk => by
    show bindC kindOf ((p, w) :: P.zip vs) m x = _
    unfold bindC
    exact lu (i := i) (List.nodup_cons.mp nd).2 (by simpa using h1) (by simpa using h2) hk
def start (N : List Str) (vs : List V) : St := vs.map some ++ List.replicate (N.length - vs.length) none
def de (CX : CXT) (P : Program) (w : World) (K : W.Frag) (mg : Str → Option Value) (base : Heap) (N : List Str) (qual : Str) (scope : Scope) (f : Addr) (cd : Value) (A : Around) (outer : List Env) (s : Shared) (H : Hp) (E : XK) : Cx where
 prog := P
 w := w
 K := K
 mg := mg
 base := base
 A := A.deeper (envOfC qual scope s.heap.objs.size f cd)
 N := N
 s₀ := s
 H₀ := H
 env := envOfC qual scope s.heap.objs.size f cd
 outer := outer
 stack := envOfC qual scope s.heap.objs.size f cd :: outer
 ex := []
 calm := true
 fn := fun _ => true
 pn := []
 xe := fun e s' => wpAny (model P w) (A.deeper (envOfC qual scope s.heap.objs.size f cd)) (leaving (envOfC qual scope s.heap.objs.size f cd) e) (fun _ s'' => CX outer H s E e s'') (fun e' s'' => CX outer H s E e' s'') s'
theorem nk {sc : Scope} {n : Nat} {x : Str} (h : sc.names.lookup x = some .cell) : ∃ c, (cellsFrom n sc.names []).lookup x = some c := by
 have q := W.cellsFrom_some sc.names n [] (.inl h)
 exact Option.isSome_iff_exists.mp q
theorem kU {CX : CXT} {P : Program} {w : World} {K : W.Frag} {mg : Str → Option Value} {base : Heap} {N ps : List Str} {qual : Str} {scope : Scope} {f : Addr} {cd : Value} {A : Around} {outer : List Env} {s s1 : Shared} {H : Hp} {E : XK} {us : List Value} {vs : List V}
   (S : aF N ps scope) (hd : A.handled = none) (e0 : gU P w K mg base A outer s H) (hl : vs.length = ps.length) (r : aK vs us)
   (x : InCallC s s.heap.objs.size (bindL (envOfC qual scope s.heap.objs.size f cd).kindOf (ps.zip us) fun _ => none) (cellsFrom (s.heap.objs.size + 1) scope.names []) (bindC (envOfC qual scope s.heap.objs.size f cd).kindOf (ps.zip us) fun _ => none) s1) :
   Inv (de CX P w K mg base N qual scope f cd A outer s H E) [] (start N vs) H s1 := by
 have hpl : ps.length ≤ N.length := by have := congrArg List.length S.pre; rw [List.length_take] at this; omega
 obtain ⟨h1, tk, rfl, hk⟩ := x.done
 have noA : ∀ b : Addr, b ∉ (de CX P w K mg base N qual scope f cd A outer s H E).ex := fun b z => absurd (show b ∈ ([] : List Addr) from z) (by simp)
 refine ⟨⟨e0.mod, S.kind, rfl, rfl, Nat.le_refl _, fun y z c h1 h2 => ?_, fun y hy => ?_, fun y c _ h => ?_, fun _ => hd, Around.frames_deeper e0.frames, .inr ⟨rfl, rfl⟩, fun b z => absurd z (noA b), e0.bs, e0.bsz, fun b _ _ => noA b, fun b z => absurd z (noA b), e0.funs, e0.frf⟩,
   rfl, e0.bare, Un.kept hk, ⟨_, x.toInCall.ns, fun i y v h1 h2 h3 => ?_⟩, fun y c h => ⟨_, x.cell y c h⟩, e0.hok.fresh (Nat.le_refl _), fun y c h => ?_, fun p hp => absurd (show p ∈ ([] : List (Addr × Obj)) from hp) (by simp), e0.hok.kept hk, ?_⟩
 · exact name_of_addr x.apart (PySem.mem_of_lookup h1) (PySem.mem_of_lookup h2)
 · have hy : scope.names.lookup y = some .cell ∨ scope.names.lookup y = some .free := hy
   rcases hy with hy | hy
   · exact nk hy
   · exact absurd rfl (S.nofree _ (PySem.mem_of_lookup hy))
 · exact Nat.le_of_lt (x.above y c (PySem.mem_of_lookup h))
 · have hi : i < vs.length := by
     unfold start at h2
     by_cases hi : i < vs.length
     · exact hi
     · rw [List.getElem?_append_right (by simpa using hi)] at h2
       rw [List.getElem?_replicate] at h2
       split at h2 <;> cases h2
   have ha : vs[i]? = some v := by
     unfold start at h2
     rw [List.getElem?_append_left (by simpa using hi), List.getElem?_map] at h2
     cases e : vs[i]? with
     | none => rw [e] at h2; cases h2
     | some a => rw [e] at h2; cases h2; rfl
   obtain ⟨u, hu, rv⟩ := r.get ha
   have hp : ps[i]? = some y := by
     rw [← S.pre, List.getElem?_take_of_lt (by omega)]; exact h1
   have ndP : ps.Nodup := by rw [← S.pre]; exact S.nd.sublist (List.take_sublist _ _)
   refine ⟨u, rv, ?_⟩
   rcases S.par y (List.mem_of_getElem? hp) with k | k
   · exact .inl ⟨k, lw ndP hp hu k⟩
   · obtain ⟨c, e⟩ := nk (n := s.heap.objs.size + 1) k
     refine .inr ⟨.inl k, c, e, ?_⟩
     have q := x.cell y c e
     rw [lu ndP hp hu (by show scope.names.lookup y ≠ _; rw [k]; decide)] at q
     exact q
 · exact e0.hok.fresh (Nat.le_of_lt (x.above y c (PySem.mem_of_lookup h)))
 · unfold start
   show _ = N.length
   rw [List.length_append, List.length_map, List.length_replicate]
   omega
theorem wM {CX : CXT} {P : Program} {w : World} {K : W.Frag} {mg : Str → Option Value} {base : Heap} {k : Nat} {f : Addr} {name qual : Str} {params : Arguments} {body : List Stmt} {scope : Scope} {dV kV doc pm cdv ct oc : Value} {an od : Option Addr}
    {osl : Array (Option Value)} {N ps : List Str} {sp : Sp} (lk : K.lookup f = some ⟨oc, od, .func (W.fnOf name qual params body scope dV kV doc pm an cdv ct), osl⟩) (hcd : W.codeIn K cdv qual = true) (S : aF N ps scope)
    (len : ∀ vs H Q E, sp vs H Q E → vs.length = ps.length)
    (hbody : ∀ (A : Around) (outer : List Env) (s : Shared) (H : Hp) (vs : List V) (Q : VK) (E : XK), bc k (A.deeper (envOfC qual scope s.heap.objs.size f cdv)) → sp vs H Q E →
      ∃ t, PSs (de CX P w K mg base N qual scope f cdv A outer s H E) body t ∧ t { nx := fun _ H' => Q .non H', rt := Q } (start N vs) H) :
    aV P w K mg base CX (k + 1) f (W.fnOf name qual params body scope dV kV doc pm an cdv ct) ps sp := by
  refine ⟨len, fun A outer s H args us vs Q E hr e0 hb r hsp => ?_⟩
  have hl := len _ _ _ _ hsp
  have KX : K.In s.heap := e0.mod.kin.keeps fun b o e => (e0.bs b o e).1
  have lim : s.heap.NoLimit := e0.mod.nolimit.keeps fun b o e => (e0.bs b o e).1
  have hkind : ∀ y ∈ ps.zip us, scope.names.lookup y.1 = some .local ∨ (scope.names.lookup y.1 = some .cell ∧ ((cellsFrom (s.heap.objs.size + 1) scope.names []).lookup y.1).isSome = true) := fun ⟨n, v⟩ hy => by
    rcases S.par n (List.of_mem_zip hy).1 with q | q
    · exact .inl q
    · exact .inr ⟨q, W.cellsFrom_some _ _ _ (.inl q)⟩
  refine codeAny_call_function hr.depth (KX _ _ lk) rfl S.co S.gen rfl (W.codeRec_of KX hcd) (hb _ _ _ _ ?_)
  refine wpAny_newFunctionEnv_cells S.kind hkind fun env he s1 x => ?_
  subst he
  refine ⟨lim.keeps x.toInCall.keep, codeAny_func ?_⟩
  obtain ⟨t, ht, hq⟩ := hbody A outer s H vs Q E (hr.deeper _) hsp
  have I : Inv (de CX P w K mg base N qual scope f cdv A outer s H E) [] (start N vs) H s1 := kU S hr.hd e0 hl r x
  refine wpAny_mono (ht [] s1 (start N vs) H _ I hq) (fun fl s' hs => ?_) fun e s' hs => hs
  have fin : ∀ {σ' : St} {H' : Hp} {v : V} {u : Value}, Inv (de CX P w K mg base N qual scope f cdv A outer s H E) [] σ' H' s' → aJ v u → Q v H' → CE outer P w H s Q u s' :=
    fun {σ' H' v u} J rv q => ⟨v, H', J.os, J.bare, J.base, J.hok, rv, q⟩
  cases fl with
  | ret u =>
    obtain ⟨v, σ', H', J, rv, q⟩ := hs
    exact fin J rv q
  | next =>
    obtain ⟨σ', H', J, q⟩ := hs
    exact fin (v := V.non) (u := Value.none) J rfl q
  | brk =>
    obtain ⟨_, _, _, q⟩ := hs
    exact False.elim q
  | cont =>
    obtain ⟨_, _, _, q⟩ := hs
    exact False.elim q
end L2
namespace L2
open PySem PySem.Spec PyProof.Rows
section
variable {X : Cx} {x : Str} {p pos : Pos} {e : Expr} {es : List Expr} {t : TA} {id T : String} {r : List V → Hp → VK → Prop}
def tCB (r : List V → Hp → VK → Prop) (t : TA) : TE := fun σ H Q => t σ H fun vs H1 => r vs H1 Q
theorem tF (hc : bM X (.builtin id) r) (hg : Gl X x) (hm : X.mg x = none) (hv : bootBuiltins x = some (.builtin id)) (ha : PA X (e :: es) t) (hn : x ≠ "__name__" := by decide) (hdb : (x == ("__debug__" : Str)) = false := by decide)
  (he : starEach (e :: es) X.env = (false, eval e X.env) :: starEach es X.env := by rfl) (hpl : (backTo pos (starEach es X.env)).any (·.1) = false := by rfl) : PE X (.Call (.Name x p) (e :: es) [] pos) (tCB r t) := by
 intro pins s σ H Q I h
 refine wpAny_Call_Name_kw (eA I hg hm hv ?_ hn hdb)
 exact PyProof.Rows.callWith_builtin1 (thn (ha pos pins s σ H _ I h) fun us s1 ⟨vs, H1, I1, r1, q1⟩ => hc pins s1 σ H1 vs us Q I1 r1 q1) he hpl
theorem rj (hc : bM X (.type T) r) (hg : Gl X x) (hm : X.mg x = none) (hv : bootBuiltins x = some (.type T)) (ha : PA X (e :: es) t) (hn : x ≠ "__name__" := by decide) (hdb : (x == ("__debug__" : Str)) = false := by decide)
  (he : starEach (e :: es) X.env = (false, eval e X.env) :: starEach es X.env := by rfl) (hpl : (backTo pos (starEach es X.env)).any (·.1) = false := by rfl) : PE X (.Call (.Name x p) (e :: es) [] pos) (tCB r t) := by
 intro pins s σ H Q I h
 refine wpAny_Call_Name_kw (eA I hg hm hv ?_ hn hdb)
 exact PyProof.Rows.callWith_type1 (thn (ha pos pins s σ H _ I h) fun us s1 ⟨vs, H1, I1, r1, q1⟩ => hc pins s1 σ H1 vs us Q I1 r1 q1) he hpl
end
end L2
namespace HT
open PySem PyProof.Rows
section
open PySem.SeqAt
open PySem.AutoSeq1 (wpAny_loadPart')
open PySem.MeetsSeq PySem.MeetsSeq2 PySem.MeetsSeq3
end
section
variable {prog : Program} {w : World} {A : Around} {E : Value → Shared → Prop} {s : Shared}
theorem xI {t b : Addr} {vs ws : List Value} {Q : Value → Shared → Prop} (ht : IsTup s.heap t vs.toArray) (hb : IsTup s.heap b ws.toArray) (hv : vs ≠ [])
   (h1 : ws = [] → Q (.ref t) s) (h2 : ws ≠ [] → Q (.ref s.heap.objs.size) { s with heap := s.heap.push { cls := .type "tuple", data := .seq (vs ++ ws).toArray } })
   (hsz : vs.length + ws.length ≤ sizeLine) : wpAny (model prog w) A (binaryOp .Add (.ref t) (.ref b)) Q E s := by
 obtain ⟨⟨cls, dd, data, sl⟩, ho, hc, n, hd⟩ := id ht
 obtain ⟨⟨cls2, dd2, data2, sl2⟩, ho2, hc2, n2, hd2⟩ := id hb
 simp only at hc hd hc2 hd2
 subst hc hd hc2 hd2
 have e : vs.toArray ++ ws.toArray = (vs ++ ws).toArray := by simp
 by_cases hw : ws = []
 · exact concat_meets ⟨_, ho, rfl⟩ ⟨_, ho2, rfl⟩ noFill_tuple_add seq_tuple_add PySem.F.slot_tuple_add PySem.F.entry_tuple_add (PySem.F.args_tuple_add_2 _ _)
    (tuple_addW1 t b vs.toArray ws.toArray n n2 dd dd2 sl sl2 (by simpa using hv) (by simp [hw])) ⟨ho, ho2, h1 hw⟩
 · refine concat_meets ⟨_, ho, rfl⟩ ⟨_, ho2, rfl⟩ noFill_tuple_add seq_tuple_add PySem.F.slot_tuple_add PySem.F.entry_tuple_add (PySem.F.args_tuple_add_2 _ _)
    (tuple_addW2 t b vs.toArray ws.toArray n n2 dd dd2 sl sl2 (by simpa using hv) (by simpa using hw) (by rw [List.size_toArray, List.size_toArray]; exact hsz)) ⟨ho, ho2, ?_⟩
   rw [e]
   exact h2 hw
def sIx (n d : Nat) : Option Int → Nat
 | none => d
 | some v => if v < 0 then (v + (n : Int)).toNat else min v.toNat n
theorem oa (n d : Nat) : sIx n d none = d := rfl
theorem oR (n d k : Nat) : sIx n d (some (k : Int)) = min k n := by
 show (if (k : Int) < 0 then ((k : Int) + (n : Int)).toNat else min (k : Int).toNat n) = min k n
 rw [if_neg (by omega), Int.toNat_natCast]
theorem yD (n d : Nat) (hd : d ≤ n) (o : Option Int) : sIx n d o ≤ n := by
  cases o with
  | none => exact hd
  | some v =>
    show (if v < 0 then (v + (n : Int)).toNat else min v.toNat n) ≤ n
    by_cases hv : v < 0
    · rw [if_pos hv]; omega
    · rw [if_neg hv]; exact Nat.min_le_right _ _
theorem pD (v : Int) (n d : Nat) : (if v < 0 then max (v + (n : Int)) 0 else min v (n : Int)) = ((sIx n d (some v) : Nat) : Int) := by
 show (if v < 0 then max (v + (n : Int)) 0 else min v (n : Int)) = (((if v < 0 then (v + (n : Int)).toNat else min v.toNat n) : Nat) : Int)
 by_cases hv : v < 0
 · simp only [if_pos hv]; omega
 · simp only [if_neg hv]; omega
theorem qB (lo hi : Option Int) (n : Nat) : Builtin.Slice.sliceAdjust lo hi 1 (n : Int) = (((sIx n 0 lo : Nat) : Int), ((sIx n n hi : Nat) : Int)) := by
 have h1 : ¬ ((1 : Int) < 0) := by omega
 unfold Builtin.Slice.sliceAdjust
 simp only [h1, if_false]
 refine Prod.ext ?_ ?_
 · cases lo with
   | none => rfl
   | some v => exact pD v n 0
 · cases hi with
   | none => rfl
   | some v => exact pD v n n
theorem qg (i j : Nat) : Builtin.Slice.slicePlaces (i : Int) (j : Int) 1 = j - i := by
 unfold Builtin.Slice.slicePlaces
 have h1 : (1 : Int) > 0 := by omega
 simp only [h1, if_true, Int.ediv_one]
 split <;> omega
theorem jV {v : Value} {o : Option Int} {Q : Option Int → Shared → Prop} (p : IsPart v o) (h : Q o s) : wpAny (model prog w) A (Builtin.Slice.slicePartIndex v) Q E s := by
 cases p with
 | none => exact slicePart_none h
 | int i t => exact slicePart_int h
theorem fG {sl : Addr} {vl vu : Value} {lo hi : Option Int} {n : Nat} {Q : Int × Int × Nat → Shared → Prop} (hs : s.heap.IsSliceOf sl vl vu .none) (pl : IsPart vl lo) (pu : IsPart vu hi)
  (h : Q (((sIx n 0 lo : Nat) : Int), 1, sIx n n hi - sIx n 0 lo) s) : wpAny (model prog w) A (Builtin.Slice.sliceApplied (.ref sl) (pure (n : Int))) Q E s := by
 obtain ⟨os, hos, hcs, hds⟩ := id hs
 unfold Builtin.Slice.sliceApplied Builtin.Slice.sliceFields
 refine wpAny_bind (wpAny_bind (wpAny_field hos hds (x := vl) rfl (wpAny_bind (wpAny_field hos hds (x := vu) rfl (wpAny_bind (wpAny_field hos hds (x := .none) rfl (wpAny_pure ?_)))))))
 refine wpAny_bind (slicePart_none ?_)
 show wpAny _ _ (if ((1 : Int) == 0) = true then _ else _) _ _ s
 rw [if_neg (by decide)]
 refine wpAny_bind (jV pl (wpAny_bind (jV pu (wpAny_bind (wpAny_pure ?_)))))
 show wpAny _ _ (match Builtin.Slice.sliceAdjust lo hi 1 (n : Int) with | (lo, hi) => pure (lo, (1 : Int), Builtin.Slice.slicePlaces lo hi 1)) _ _ s
 rw [qB lo hi n]
 show wpAny _ _ (pure (((sIx n 0 lo : Nat) : Int), (1 : Int), Builtin.Slice.slicePlaces ((sIx n 0 lo : Nat) : Int) ((sIx n n hi : Nat) : Int) 1)) _ _ s
 rw [qg]
 exact wpAny_pure h
theorem vG (xs : Array Value) (i k : Nat) : ((List.range k).filterMap fun (m : Nat) => xs[((i : Int) + (m : Int) * 1).toNat]?).toArray = ((xs.toList.drop i).take k).toArray := by
 have e : (fun (m : Nat) => xs[((i : Int) + (m : Int) * 1).toNat]?) = fun m => xs[i + m]? := by
  funext m
  have : ((i : Int) + (m : Int) * 1).toNat = i + m := by omega
  rw [this]
 rw [e]
 have := pick_run xs i k
 rw [List.filterMap_map] at this
 have e2 : ((fun x => xs[x]?) ∘ fun x => i + x) = fun m => xs[i + m]? := rfl
 rw [e2] at this
 rw [this]
theorem ja {t sl : Addr} {items : Array Value} {vl vu : Value} {lo hi : Option Int} {Q : Value → Shared → Prop} (ht : IsTup s.heap t items) (hs : s.heap.IsSliceOf sl vl vu .none) (pl : IsPart vl lo) (pu : IsPart vu hi)
  (hw : ¬ (sIx items.size 0 lo = 0 ∧ sIx items.size items.size hi = items.size))
  (h : Q (.ref s.heap.objs.size) { s with heap := s.heap.push { cls := .type "tuple", data := .seq ((items.toList.drop (sIx items.size 0 lo)).take (sIx items.size items.size hi - sIx items.size 0 lo)).toArray } })
  (hsz : items.size ≤ sizeLine) : wpAny (model prog w) A (getItem (.ref t) (.ref sl)) Q E s := by
 have htake : sizeOk (.seq ((items.toList.drop (sIx items.size 0 lo)).take (sIx items.size items.size hi - sIx items.size 0 lo)).toArray) := by
  show ((items.toList.drop (sIx items.size 0 lo)).take (sIx items.size items.size hi - sIx items.size 0 lo)).toArray.size ≤ sizeLine
  rw [List.size_toArray, List.length_take, List.length_drop, Array.length_toList]
  omega
 have hj : sIx items.size items.size hi ≤ items.size := yD _ _ (Nat.le_refl _) hi
 obtain ⟨os, hos, hcs, hds⟩ := id hs
 have hTs : s.TypeIs (.ref sl) "slice" := ⟨os, hos, hcs⟩
 unfold getItem
 try with_reducible refine wpAny_holding ?_
 first | refine wpAny_bind (wpAny_pure ?_) | skip
 refine wpAny_bind (wpAny_sequenceKey ht.typeIs (by decide) ?_)
 refine wpAny_bind (wpAny_callSpecial?_slot (name := Str.ofString "__getitem__") ht.typeIs PyProof.Rows.slot_tuple_getitem
  (wpAny_call_entry PyProof.Rows.slot_tuple_getitem ht.typeIs entry_tuple_getitem ?_ (args_tuple_getitem _ _)))
 show wpAny _ _ (Builtin.Tuple.tupleItemsOf (.ref t) >>= _) _ _ s
 refine wpAny_bind (tupleItemsOf_ ht ?_)
 refine wpAny_bind (wpAny_typeOf hTs ?_)
 rw [if_pos (by decide)]
 refine wpAny_bind (fG hs pl pu ?_)
 have hno : ¬ ((((sIx items.size 0 lo : Nat) : Int) == 0 && (1 : Int) == 1 && (sIx items.size items.size hi - sIx items.size 0 lo) == items.size) = true) := by
  intro q
  rw [Bool.and_eq_true, Bool.and_eq_true] at q
  have q1 : ((sIx items.size 0 lo : Nat) : Int) = 0 := eq_of_beq q.1.1
  have q2 : sIx items.size items.size hi - sIx items.size 0 lo = items.size := eq_of_beq q.2
  exact hw ⟨by omega, by omega⟩
 show wpAny _ _ (if (((sIx items.size 0 lo : Nat) : Int) == 0 && (1 : Int) == 1 && (sIx items.size items.size hi - sIx items.size 0 lo) == items.size) = true then _ else _) _ _ s
 rw [if_neg hno, vG]
 first
  | exact wpAny_bind (m := Builtin.Tuple.tupleExact _) (wpAny_newObj_type (wpAny_pure ⟨_, rfl, wpAny_pure h⟩) htake)
  | exact wpAny_bind (m := Builtin.Tuple.tupleExact _) (wpAny_newObj_type (wpAny_bind (wpAny_pure (wpAny_pure ⟨_, rfl, wpAny_pure h⟩))) htake)
  | exact wpAny_bind (wpAny_bind (m := Builtin.Tuple.tupleExact _) (wpAny_newObj_type (wpAny_pure (wpAny_pure ⟨_, rfl, wpAny_pure h⟩)) htake))
  | exact wpAny_bind (wpAny_bind (m := Builtin.Tuple.tupleExact _) (wpAny_newObj_type (wpAny_pure ⟨_, rfl, wpAny_pure h⟩) htake))
end
end HT
namespace L2
open PySem PySem.Spec PyProof.Rows
abbrev TO := St → Hp → (Option Int → Hp → Prop) → Prop
def PO (X : Cx) (e : Option Expr) (t : TO) : Prop :=
 ∀ (pins : List (Addr × Obj)) (s : Shared) (σ : St) (H : Hp) (Q : Option Int → Hp → Prop), Inv X pins σ H s → t σ H Q →
  wpAny (model X.prog X.w) X.A (evalPart e X.env) (fun u s' => ∃ o H', Inv X pins σ H' s' ∧ IsPart u o ∧ Q o H') X.xe s
def cZ : TO := fun _ H Q => Q none H
def dZ (t : TE) : TO := fun σ H Q => t σ H fun x H1 => ∃ i, x = .int i ∧ Q (some i) H1
section
variable {X : Cx} {e : Expr} {te : TE} {lo hi : Option Expr} {tl th : TO} {pos p2 : Pos}
theorem xF : PO X none cZ := by
 intro pins s σ H Q I h
 rw [evalPart_none]
 exact wpAny_pure ⟨none, H, I, .none, h⟩
theorem wW (h : PE X e te) : PO X (some e) (dZ te) := by
 intro pins s σ H Q I hw
 rw [evalPart_some]
 refine thn (h pins s σ H _ I hw) fun u s1 ⟨x, H1, I1, r1, q1⟩ => ?_
 obtain ⟨i, rfl, q⟩ := q1
 obtain ⟨t, rfl⟩ := r1
 exact ⟨some i, H1, I1, .int i t, q⟩
def SlR (X : Cx) (r : V → Option Int → Option Int → Hp → VK → Prop) : Prop :=
 ∀ (pins : List (Addr × Obj)) (s : Shared) (σ : St) (H : Hp) (x : V) (v vl vu : Value) (lo hi : Option Int) (sl : Addr) (Q : VK), Inv X pins σ H s → aJ x v → s.heap.IsSliceOf sl vl vu .none → IsPart vl lo → IsPart vu hi → r x lo hi H Q →
  ∃ T id, typeLookup (.type T) "__getitem__" = pure (some (.builtin id)) ∧ s.TypeIs v T ∧ wpAny (model X.prog X.w) X.A (getItem v (.ref sl)) (EP X pins σ Q) X.xe s
theorem SlR.or {r r' : V → Option Int → Option Int → Hp → VK → Prop} (h : SlR X r) (h' : SlR X r') : SlR X (fun x lo hi H Q => r x lo hi H Q ∨ r' x lo hi H Q) := by
 intro pins s σ H x v vl vu lo hi sl Q I rx hs pl pu q
 rcases q with q | q
 · exact h pins s σ H x v vl vu lo hi sl Q I rx hs pl pu q
 · exact h' pins s σ H x v vl vu lo hi sl Q I rx hs pl pu q
def tSl (r : V → Option Int → Option Int → Hp → VK → Prop) (te : TE) (tl th : TO) : TE := fun σ H Q => te σ H fun x H1 => tl σ H1 fun l H2 => th σ H2 fun u H3 => r x l u H3 Q
theorem vt {r : V → Option Int → Option Int → Hp → VK → Prop} (hr : SlR X r) (he : PE X e te) (hl : PO X lo tl) (hu : PO X hi th) : PE X (.Subscript e (.Slice lo hi none p2) pos) (tSl r te tl th) := by
 intro pins s σ H Q I h
 refine Subscript_ (thn (he pins s σ H _ I h) fun v s1 ⟨x, H1, I1, r1, q1⟩ => ?_)
 refine wpAny_Slice (thn (hl pins s1 σ H1 _ I1 q1) fun vl s2 ⟨l, H2, I2, pl, q2⟩ => thn (hu pins s2 σ H2 _ I2 q2) fun vu s3 ⟨u, H3, I3, pu, q3⟩ => ?_)
 rw [evalPart_none]
 refine wpAny_pure ?_
 have I4 : Inv X pins σ H3 { s3 with heap := s3.heap.push { cls := .type "slice", data := .fields #[vl, vu, .none] } } := I3.kept (t' := s3.toks) fun b ob q => Heap.get?_push_of_some _ q
 obtain ⟨T, id, hT, ht, hg⟩ := hr pins { s3 with heap := s3.heap.push { cls := .type "slice", data := .fields #[vl, vu, .none] } } σ H3 x v vl vu l u s3.heap.objs.size Q I4 r1 (Heap.IsSliceOf.new ..) pl pu q3
 show wpAny (model X.prog X.w) X.A (subscriptTail e (.Slice lo hi none p2) v (.ref s3.heap.objs.size)) (EP X pins σ Q) X.xe { s3 with heap := s3.heap.push { cls := .type "slice", data := .fields #[vl, vu, .none] } }
 exact tail_any (ops := [.ref s3.heap.objs.size, v]) ht hT hg (by with_unfolding_all rfl)
def eJ (xs : List V) (lo hi : Option Int) : List V := (xs.drop (HT.sIx xs.length 0 lo)).take (HT.sIx xs.length xs.length hi - HT.sIx xs.length 0 lo)
theorem jd (xs : List V) (lo hi : Option Int) : (eJ xs lo hi).length ≤ xs.length := by
 unfold eJ
 rw [List.length_take, List.length_drop]
 omega
def Ev (K : W.Frag) : V → Option Int → Option Int → Hp → VK → Prop := fun x lo hi H Q => ∃ a xs, x = .ref a ∧ SqT K H a xs ∧
 ¬ (HT.sIx xs.length 0 lo = 0 ∧ HT.sIx xs.length xs.length hi = xs.length) ∧ ∀ p, H p = none → Q (.ref p) (upd H p (.tup (eJ xs lo hi)))
theorem yf : SlR X (Ev X.K) := by
 intro pins s σ H x v vl vu lo hi sl Q I rx hs pl pu h
 obtain ⟨a, xs, rfl, hx, hw, q⟩ := h
 cases rx
 obtain ⟨its, r, ht, hz⟩ := I.tuple hx
 have hlen : its.toArray.size = xs.length := by rw [List.size_toArray]; exact r.length.symm
 refine ⟨"tuple", _, PyProof.Rows.slot_tuple_getitem.lookup, ht.typeIs, ?_⟩
 refine HT.ja ht hs pl pu (by rw [hlen]; exact hw) ?_ (by rw [hlen]; exact hz)
 rw [hlen]
 refine ⟨.ref s.heap.objs.size, _, I.laid (t' := s.toks) (o := .tup (eJ xs lo hi)) (fun b ob q => Heap.get?_push_of_some _ q) (Nat.le_refl _) ?_, rfl, q _ (I.hok.fresh (Nat.le_refl _))⟩
 exact ⟨Nat.le_trans (jd xs lo hi) hz, _, (r.drop (HT.sIx xs.length 0 lo)).take (HT.sIx xs.length xs.length hi - HT.sIx xs.length 0 lo), IsTup.new _ _⟩
def Bt (K : W.Frag) : R2 := fun x y H Q => ∃ a b xs ys, x = .ref a ∧ y = .ref b ∧ SqT K H a xs ∧ SqT K H b ys ∧ xs ≠ [] ∧ xs.length + ys.length ≤ sizeLine ∧
 (ys = [] → Q (.ref a) H) ∧ (ys ≠ [] → ∀ p, H p = none → Q (.ref p) (upd H p (.tup (xs ++ ys))))
theorem aK.nil_iff {xs : List V} {us : List Value} (r : aK xs us) : us = [] ↔ xs = [] := by
 cases r with
 | nil => simp
 | cons _ _ => simp
theorem xj : OpR X (binaryOp .Add) (Bt X.K) := by
 intro pins s σ H x y v u Q I rx ry h
 obtain ⟨a, b, xs, ys, rfl, rfl, ha, hb, hx, hz, q1, q2⟩ := h
 cases rx
 cases ry
 obtain ⟨its, r1, p1, _⟩ := I.tuple ha
 obtain ⟨its2, r2, p2, _⟩ := I.tuple hb
 refine HT.xI p1 p2 (fun z => hx (r1.nil_iff.mp z)) (fun z => ⟨.ref a, H, I, rfl, q1 (r2.nil_iff.mp z)⟩) (fun z => ?_) (by rw [← r1.length, ← r2.length]; exact hz)
 refine ⟨.ref s.heap.objs.size, _, I.laid (t' := s.toks) (o := .tup (xs ++ ys)) (fun b ob q => Heap.get?_push_of_some _ q) (Nat.le_refl _) ?_, rfl, q2 (fun w => z (r2.nil_iff.mpr w)) _ (I.hok.fresh (Nat.le_refl _))⟩
 exact ⟨by rw [List.length_append]; exact hz, _, r1.append r2, IsTup.new _ _⟩
end
end L2
namespace L2
open PySem PySem.Spec PyProof.Rows
def ixN (n : Nat) (i : Int) : Option Nat := if 0 ≤ i then (if i < n then some i.toNat else none) else if -(n : Int) ≤ i then some (i + n).toNat else none
def atI {α : Type} (xs : List α) (i : Int) : Option α := (ixN xs.length i).bind fun j => xs[j]?
theorem oY {n : Nat} {i : Int} {j : Nat} (h : ixN n i = some j) : seqIndex? i n = some j ∧ j < n ∧ -(n : Int) ≤ i ∧ i < n := by
 unfold ixN at h
 by_cases h0 : 0 ≤ i
 · rw [if_pos h0] at h
   by_cases h1 : i < n
   · rw [if_pos h1] at h
     have e : i.toNat = j := Option.some.inj h
     exact ⟨by rw [seqIndex_of h0 h1, e], by omega, by omega, h1⟩
   · rw [if_neg h1] at h; cases h
 · rw [if_neg h0] at h
   by_cases h1 : -(n : Int) ≤ i
   · rw [if_pos h1] at h
     have e : (i + n).toNat = j := Option.some.inj h
     exact ⟨by rw [seqIndex_neg (by omega) h1, e], by omega, h1, by omega⟩
   · rw [if_neg h1] at h; cases h
theorem gl {α : Type} {xs : List α} {i : Int} {v : α} (h : atI xs i = some v) : ∃ j, seqIndex? i xs.length = some j ∧ xs[j]? = some v ∧ j < xs.length ∧ -(xs.length : Int) ≤ i ∧ i < xs.length := by
  unfold atI at h
  cases e : ixN xs.length i with
  | none => rw [e] at h; cases h
  | some j =>
    rw [e] at h
    obtain ⟨h1, h2, h3, h4⟩ := oY e
    exact ⟨j, h1, h, h2, h3, h4⟩
theorem vb {α : Type} (xs : List α) (v : α) : atI (xs ++ [v]) (-1) = some v := by
 have hl : (xs ++ [v]).length = xs.length + 1 := by simp
 have e : ixN (xs ++ [v]).length (-1) = some xs.length := by
  unfold ixN
  rw [hl, if_neg (by decide), if_pos (by omega)]
  congr 1
  omega
 unfold atI
 rw [e]
 show (xs ++ [v])[xs.length]? = some v
 simp
def oH (b : Expr) : Prop := ∀ o i, subscripted b false o i = operate [o, i] (getItem o i)
def IxR (X : Cx) (r : R2) : Prop :=
 ∀ (value slice : Expr) (pins : List (Addr × Obj)) (s : Shared) (σ : St) (H : Hp) (x y : V) (v u : Value) (Q : VK), Inv X pins σ H s → aJ x v → aJ y u → r x y H Q →
  subscripted slice false v u = operate [v, u] (getItem v u) → wpAny (model X.prog X.w) X.A (subscriptTail value slice v u) (EP X pins σ Q) X.xe s
def MtR (X : Cx) (id : String) (r : V → List V → Hp → VK → Prop) : Prop :=
 ∀ (pins : List (Addr × Obj)) (s : Shared) (σ : St) (H : Hp) (x : V) (xs : List V) (v : Value) (us : List Value) (Q : VK), Inv X pins σ H s → aJ x v → aK xs us → r x xs H Q →
  wpAny (model X.prog X.w) X.A (call (.builtin id) (v :: us)) (EP X pins σ Q) X.xe s
section
variable {X : Cx} {a b : Expr} {ta tb : TE} {pos : Pos}
theorem IxR.or {r r' : R2} (h : IxR X r) (h' : IxR X r') : IxR X (fun x y H Q => r x y H Q ∨ r' x y H Q) := by
 intro value slice pins s σ H x y v u Q I rx ry q hs
 rcases q with q | q
 · exact h value slice pins s σ H x y v u Q I rx ry q hs
 · exact h' value slice pins s σ H x y v u Q I rx ry q hs
theorem CM {r : R2} (hr : IxR X r) (ha : PE X a ta) (hb : PE X b tb) (hs : oH b) : PE X (.Subscript a b pos) (tOp r ta tb) := by
 intro pins s σ H Q I h
 exact Subscript_ (vT ha hb I h fun v u s2 x y H2 I2 rx ry q => hr a b pins s2 σ H2 x y v u Q I2 rx ry q (hs _ _))
def Ap (K : W.Frag) : R2 := fun x y H Q => ∃ p xs i v, x = .ref p ∧ y = .int i ∧ SqL K H p xs ∧ atI xs i = some v ∧ Q v H
def yz (K : W.Frag) : R2 := fun x y H Q => ∃ p xs i v, x = .ref p ∧ y = .int i ∧ SqT K H p xs ∧ atI xs i = some v ∧ Q v H
def zS : R2 := fun x y H Q => ∃ z i c, x = .str z ∧ y = .int i ∧ z.length ≤ sizeLine ∧ atI z.cps.toList i = some c ∧ Q (.str ⟨#[c]⟩) H
theorem wV : IxR X (Ap X.K) := by
 intro value slice pins s σ H x y v u Q I rx ry h hs
 obtain ⟨p, xs, i, z, rfl, rfl, hq, he, q⟩ := h
 cases rx
 obtain ⟨t, rfl⟩ := ry
 obtain ⟨its, r, pl, hz⟩ := I.list hq
 obtain ⟨j, h1, h2, h3, h4, h5⟩ := gl he
 obtain ⟨w, ew, rw'⟩ := r.get h2
 have hl := r.length
 have hn := gi
 have fin : EP X pins σ Q w s := ⟨z, H, I, rw', q⟩
 by_cases h0 : 0 ≤ i
 · have hj : i.toNat = j := by
    rw [seqIndex_of h0 h5] at h1
    exact Option.some.inj h1
   exact item_listR pl.isList h0 (by omega) (by rw [hj]; simpa using ew) fin hs
 · have hj : (i + (its.toArray.size : Int)).toNat = j := by
    rw [seqIndex_neg (by omega) h4] at h1
    rw [List.size_toArray, ← hl]
    exact Option.some.inj h1
   exact subscriptTail_builtinR (x := w) pl.isList.typeIs slot_list_getitem.lookup
    (wpAny_getItem_list_neg (Q := fun r s' => r = w ∧ EP X pins σ Q r s') pl.isList (by omega) (by rw [List.size_toArray] <;> omega) (by omega) (by rw [hj]; simpa using ew) ⟨rfl, fin⟩) hs
theorem zZ : IxR X (yz X.K) := by
 intro value slice pins s σ H x y v u Q I rx ry h hs
 obtain ⟨p, xs, i, z, rfl, rfl, hq, he, q⟩ := h
 cases rx
 obtain ⟨t, rfl⟩ := ry
 obtain ⟨its, r, pl, hz⟩ := I.tuple hq
 obtain ⟨j, h1, h2, h3, h4, h5⟩ := gl he
 obtain ⟨w, ew, rw'⟩ := r.get h2
 have hl := r.length
 have hn := gi
 have fin : EP X pins σ Q w s := ⟨z, H, I, rw', q⟩
 exact subscriptTail_builtinR (x := w) pl.typeIs slot_tuple_getitem.lookup
  (getItem_tuple (j := j) (Q := fun r s' => r = w ∧ EP X pins σ Q r s') pl (by omega) (by omega) (by rw [List.size_toArray, ← hl]; exact h1) (by simpa using ew) ⟨rfl, fin⟩) hs
theorem Au : IxR X zS := by
 intro value slice pins s σ H x y v u Q I rx ry h hs
 obtain ⟨z, i, c, rfl, rfl, hz, he, q⟩ := h
 obtain ⟨t, rfl⟩ := rx
 obtain ⟨t', rfl⟩ := ry
 obtain ⟨j, h1, h2, h3, h4, h5⟩ := gl he
 have hl : z.cps.toList.length = z.length := by simp [Str.length]
 rw [hl] at h1 h4 h5
 have hn := gi
 exact tail_any (typeIs_str s z t) slot_str_getitem.lookup (getItem_str (c := c) (by
  have e1 : decide (i < -(2 ^ 63 : Int)) = false := decide_eq_false (by omega)
  have e2 : decide (i ≥ 2 ^ 63) = false := decide_eq_false (by omega)
  rw [e1, e2, Bool.or_false]) (by rw [h1]; simpa using h2) ⟨.str ⟨#[c]⟩, H, I.tok _, ⟨_, rfl⟩, q⟩) hs
def rIx (K : W.Frag) : R2 := fun x y H Q => Ap K x y H Q ∨ yz K x y H Q ∨ zS x y H Q
theorem zL : IxR X (rIx X.K) := wV.or (zZ.or Au)
theorem rc (its : List Value) (n j : Nat) (u : Value) : Obj.mapSeq (·.setIfInBounds j u) { cls := .type "list", data := .seq its.toArray n } = { cls := .type "list", data := .seq (its.set j u).toArray n } := by
 simp [Obj.mapSeq]
theorem Inv.lst {pins : List (Addr × Obj)} {σ : St} {H : Hp} {s : Shared} {p : Addr} {xs : List V} (I : Inv X pins σ H s) (h : H p = some (.lst xs)) :
  ∃ (its : List Value) (n : Nat), aK xs its ∧ s.heap.get? p = some { cls := .type "list", data := .seq its.toArray n } ∧ xs.length ≤ sizeLine := by
 obtain ⟨z, its, n, r, e⟩ := I.hok p _ h
 exact ⟨its, n, r, e, z⟩
theorem Inv.lstUpd {pins : List (Addr × Obj)} {σ : St} {H : Hp} {s : Shared} {p : Addr} {xs ys : List V} {its its' : List Value} {n n' : Nat} {f : Obj → Obj} (I : Inv X pins σ H s) (h : H p = some (.lst xs))
  (ho : s.heap.get? p = some { cls := .type "list", data := .seq its.toArray n }) (hf : f { cls := .type "list", data := .seq its.toArray n } = { cls := .type "list", data := .seq its'.toArray n' }) (r : aK ys its') (hz : ys.length ≤ sizeLine) (t : Nat) :
  Inv X pins σ (upd H p (.lst ys)) { s with heap := s.heap.update p f, toks := t } := by
 have e : (s.heap.update p f).get? p = some { cls := .type "list", data := .seq its'.toArray n' } := by
  rw [Heap.get?_update_self f ho (by rw [hf] <;> rfl), hf]
 refine I.write (x := p) (e := p) (by rw [h]; trivial) (.inl rfl) (fun b u hb q => (Heap.get?_update_other _ _ (Ne.symm hb)).trans q) ⟨_, e⟩ ?_
 exact ⟨hz, its', n', r, e⟩
def wF : V → V → V → Hp → (Hp → Prop) → Prop := fun o i v H Q => ∃ p xs k j, o = .ref p ∧ i = .int k ∧ H p = some (.lst xs) ∧ ixN xs.length k = some j ∧ Q (upd H p (.lst (xs.set j v)))
theorem vE : rf X wF := by
 intro pins s σ H o i v ov iv u Q I ro ri rv h
 obtain ⟨p, xs, k, j, rfl, rfl, hp, hj, q⟩ := h
 cases ro
 obtain ⟨t, rfl⟩ := ri
 obtain ⟨its, n, r, ho, hz⟩ := I.lst hp
 obtain ⟨h1, h2, h3, h4⟩ := oY hj
 have hl := r.length
 have hn := gi
 have I' : Inv X pins σ (upd H p (.lst (xs.set j v))) { s with heap := s.heap.update p (Obj.mapSeq (·.setIfInBounds j u)) } :=
   I.lstUpd hp ho (rc its n j u) (r.set rv j) (by rw [List.length_set]; exact hz) s.toks
 by_cases h0 : 0 ≤ k
 · have hk : k.toNat = j := by
    rw [seqIndex_of h0 h4] at h1
    exact Option.some.inj h1
   exact W.ki_setAt ho h0 (by omega) (by rw [List.size_toArray, ← hl]; exact h4) (by rw [hk]; exact ⟨_, I', q⟩)
 · have hk : (k + (its.toArray.size : Int)).toNat = j := by
    rw [seqIndex_neg (by omega) h3] at h1
    rw [List.size_toArray, ← hl]
    exact Option.some.inj h1
   exact W.ki_setBack ho (by omega) (by rw [List.size_toArray, ← hl]; exact h3) (by omega) (by rw [hk]; exact ⟨_, I', q⟩)
theorem nI (lo hi : Option Int) (n : Nat) : (sliceBounds lo hi none n).1 = ((HT.sIx n 0 lo : Nat) : Int) ∧ (sliceBounds lo hi none n).2.1 = ((HT.sIx n n hi : Nat) : Int) ∧ (sliceBounds lo hi none n).2.2 = 1 := by
  refine ⟨?_, ?_, rfl⟩
  · cases lo with
    | none => simp [sliceBounds, HT.sIx]
    | some i =>
      simp only [sliceBounds, HT.sIx, Option.getD_none, show (1 : Int) > 0 by decide, if_true]
      by_cases h : i < 0
      · simp only [h, if_true] <;> omega
      · simp only [h, if_false] <;> omega
  · cases hi with
    | none => simp [sliceBounds, HT.sIx]
    | some i =>
      simp only [sliceBounds, HT.sIx, Option.getD_none, show (1 : Int) > 0 by decide, if_true]
      by_cases h : i < 0
      · simp only [h, if_true] <;> omega
      · simp only [h, if_false] <;> omega
theorem lM (its : List Value) (lo hi : Option Int) : slicePick its.toArray lo hi none = ((its.drop (HT.sIx its.length 0 lo)).take (HT.sIx its.length its.length hi - HT.sIx its.length 0 lo)).toArray := by
 obtain ⟨h1, h2, h3⟩ := nI lo hi its.toArray.size
 unfold slicePick
 rw [h1, h2, h3]
 simp only [sliceRange_one, pick_run, List.size_toArray] <;> rfl
def zQ (K : W.Frag) : V → Option Int → Option Int → Hp → VK → Prop := fun x lo hi H Q => ∃ a xs, x = .ref a ∧ SqL K H a xs ∧ ∀ p, H p = none → Q (.ref p) (upd H p (.lst (eJ xs lo hi)))
theorem yb : SlR X (zQ X.K) := by
 intro pins s σ H x v vl vu lo hi sl Q I rx hs pl pu h
 obtain ⟨a, xs, rfl, hx, q⟩ := h
 cases rx
 obtain ⟨its, r, ht, hz⟩ := I.list hx
 have hlen := r.length
 refine ⟨"list", _, slot_list_getitem.lookup, ht.isList.typeIs, ?_⟩
 refine wpAny_getItem_list_slice ht.isList hs pl pu .none (by simp) ?_ (by rw [List.size_toArray] <;> omega)
 rw [lM, ← hlen]
 refine ⟨.ref s.heap.objs.size, _, I.laid (t' := s.toks) (o := .lst (eJ xs lo hi)) (fun b ob q => Heap.get?_push_of_some _ q) (Nat.le_refl _) ?_, rfl, q _ (I.hok.fresh (Nat.le_refl _))⟩
 exact ⟨Nat.le_trans (jd xs lo hi) hz, _, 0, (r.drop (HT.sIx xs.length 0 lo)).take (HT.sIx xs.length xs.length hi - HT.sIx xs.length 0 lo), Heap.get?_push_size _ rfl⟩
theorem bM.or {f : Value} {r r' : List V → Hp → VK → Prop} (h : bM X f r) (h' : bM X f r') : bM X f (fun xs H Q => r xs H Q ∨ r' xs H Q) := by
 intro pins s σ H xs us Q I rs q
 rcases q with q | q
 · exact h pins s σ H xs us Q I rs q
 · exact h' pins s σ H xs us Q I rs q
theorem lR : bM X (.type "tuple") (fun xs H Q => ∃ p ys, xs = [.ref p] ∧ ((SqL X.K H p ys ∧ ∀ l, H l = none → Q (.ref l) (upd H l (.tup ys))) ∨ (SqT X.K H p ys ∧ Q (.ref p) H))) := by
 intro pins s σ H xs us Q I r h
 obtain ⟨p, ys, rfl, h⟩ := h
 obtain ⟨u, rfl, rx⟩ := fh r
 cases rx
 rcases h with ⟨hq, q⟩ | ⟨hq, q⟩
 · obtain ⟨its, r', pl, hz⟩ := I.list hq
   have hlen := r'.length
   refine call_tuple_list pl.isList (fun h' kp => ?_) (by simp only [List.size_toArray] <;> omega)
   have I1 : Inv X pins σ H { s with heap := h' } := I.kept (t' := s.toks) kp
   have I2 : Inv X pins σ (upd H h'.objs.size (.tup ys)) { s with heap := h'.push { cls := .type "tuple", data := .seq its.toArray } } :=
    I1.laid (t' := s.toks) (fun b o e => Heap.get?_push_of_some _ e) (Nat.le_refl _) (show aR X.prog X.w _ _ _ (.tup ys) from ⟨hz, its, r', IsTup.new _ _⟩)
   exact ⟨.ref h'.objs.size, _, I2, rfl, q _ (I1.hok.fresh (Nat.le_refl _))⟩
 · obtain ⟨its, r', pl, hz⟩ := I.tuple hq
   exact call_tuple_same pl ⟨.ref p, H, I, rfl, q⟩
def tyV (K : W.Frag) (T : String) (x : V) (H : Hp) : Prop := match x with
 | .str _ => T = "str"
 | .int _ => T = "int"
 | .ref p => (T = "list" ∧ ∃ xs, SqL K H p xs) ∨ (T = "tuple" ∧ ∃ o, K.lookup p = some o ∧ o.cls = .type "tuple" ∧ o.dict = none) ∨
  (T = "dict" ∧ ((∃ kvs, H p = some (.dK kvs)) ∨ ∃ kvs, H p = some (.dT kvs))) ∨ (T = "set" ∧ ∃ S n, H p = some (.set S n))
 | _ => False
theorem rq {pins : List (Addr × Obj)} {σ : St} {H : Hp} {s : Shared} {T : String} {x : V} {v : Value} (I : Inv X pins σ H s) (r : aJ x v) (ty : tyV X.K T x H) :
    s.TypeIs v T ∧ ∀ a, v = .ref a → ∃ ob, s.heap.get? a = some ob ∧ ob.dict = none := by
  cases x with
  | str z =>
    obtain ⟨t, rfl⟩ := r
    cases (show T = "str" from ty)
    exact ⟨typeIs_str s z t, fun _ e => nomatch e⟩
  | int i =>
    obtain ⟨t, rfl⟩ := r
    cases (show T = "int" from ty)
    exact ⟨typeIs_int s i t, fun _ e => nomatch e⟩
  | ref p =>
    cases r
    rcases ty with ⟨rfl, xs, hq⟩ | ⟨rfl, o, hk, hc, hd⟩ | ⟨rfl, hk⟩ | ⟨rfl, S, n, hk⟩
    · obtain ⟨its, _, pl, _⟩ := I.list hq
      refine ⟨pl.isList.typeIs, fun a e => ?_⟩
      cases e
      obtain ⟨o, n, e, c, hd, _⟩ := pl
      exact ⟨o, e, hd⟩
    · refine ⟨⟨o, I.kIn p o hk, hc⟩, fun a e => ?_⟩
      cases e
      exact ⟨o, I.kIn _ o hk, hd⟩
    · have z : ∃ o, s.heap.get? p = some o ∧ o.ExactDict := by
        rcases hk with ⟨kvs, hk⟩ | ⟨kvs, hk⟩
        · obtain ⟨_, _, _, _, o, _, _, e, ex, _⟩ := I.hok p _ hk
          exact ⟨o, e, ex⟩
        · obtain ⟨_, _, _, _, o, _, _, e, ex, _⟩ := I.hok p _ hk
          exact ⟨o, e, ex⟩
      obtain ⟨o, e, ex⟩ := z
      refine ⟨⟨o, e, ex.1⟩, fun a e2 => ?_⟩
      cases e2
      exact ⟨o, e, ex.2.1⟩
    · obtain ⟨o, _, _, _, e, ex, _⟩ := I.hok p _ hk
      refine ⟨⟨o, e, ex.1⟩, fun a e2 => ?_⟩
      cases e2
      exact ⟨o, e, ex.2.1⟩
  | _ => exact False.elim ty
def um (K : W.Frag) (T : String) (r : V → List V → Hp → VK → Prop) (to : TE) : TE := fun σ H Q => to σ H fun x H1 => tyV K T x H1 ∧ r x [] H1 Q
def tBM (K : W.Frag) (T : String) (r : V → List V → Hp → VK → Prop) (to : TE) (t : TA) : TE := fun σ H Q => to σ H fun x H1 => tyV K T x H1 ∧ t σ H1 fun xs H2 => r x xs H2 Q
variable {o e : Expr} {es : List Expr} {to : TE} {t : TA} {name : Str} {apos cpos : Pos} {T id : String} {r : V → List V → Hp → VK → Prop}
theorem yB (pa : PlainAttrs T) (slot : Slot T name id) (hty : typeOf (.builtin id) = pure (.type "method_descriptor")) (hm : MtR X id r) (ho : PE X o to)
  (hbase : attributeBase o name X.env (eval o X.env) = eval o X.env := by rfl) (hline : (apos.endLine == cpos.line) = true := by rfl) : PE X (.Call (.Attribute o name apos) [] [] cpos) (um X.K T r to) := by
 intro pins s σ H Q I h
 refine wpAny_Call_method0_late hbase hline (thn (ho pins s σ H _ I h) fun v s1 ⟨x, H1, I1, r1, ty, q1⟩ => ?_)
 obtain ⟨h1, h2⟩ := rq I1 r1 ty
 exact ⟨T, id, pa, slot, hty, h1, h2, Calls.callWith_builtin rfl (PySem.evalArgs_none (hm pins s1 σ H1 x [] v [] Q I1 r1 .nil q1))⟩
theorem Dt (pa : PlainAttrs T) (slot : Slot T name id) (hty : typeOf (.builtin id) = pure (.type "method_descriptor")) (hm : MtR X id r) (ho : PE X o to) (ha : PA X (e :: es) t)
  (hbase : attributeBase o name X.env (eval o X.env) = eval o X.env := by rfl)
  (hfew : ((backTo cpos (starEach (e :: es) X.env)).all (fun x => !x.1) && (backToKw cpos (keywordEach [] X.env)).all (fun x => x.1.isSome)
   && decide ((e :: es).length + ([] : List Keyword).length + (if ([] : List Keyword).isEmpty then 0 else 1) < 30)) = true := by rfl)
  (hline : (apos.endLine == cpos.line) = true := by rfl) (hs : starEach (e :: es) X.env = (false, eval e X.env) :: starEach es X.env := by rfl) (hplain : (backTo cpos (starEach es X.env)).any (·.1) = false := by rfl) :
  PE X (.Call (.Attribute o name apos) (e :: es) [] cpos) (tBM X.K T r to t) := by
 intro pins s σ H Q I h
 refine wpAny_Call_method_late hbase hfew hline rfl (thn (ho pins s σ H _ I h) fun v s1 ⟨x, H1, I1, r1, ty, q1⟩ => ?_)
 obtain ⟨h1, h2⟩ := rq I1 r1 ty
 refine ⟨T, id, pa, slot, hty, h1, h2, ?_⟩
 have hA := ha cpos pins s1 σ H1 _ I1 q1
 rw [hs] at hA ⊢
 refine Calls.callWith_builtin (by show (false || (backTo cpos (starEach es X.env)).any (·.1)) = false; rw [hplain] <;> rfl) (Calls.evalArgs_plain ?_)
 exact thn hA fun us s2 ⟨vs, H2, I2, r2, q2⟩ => hm pins s2 σ H2 x vs v us Q I2 r1 r2 q2
end
end L2
namespace L2
open PySem PySem.Spec PyProof.Rows
def MtM (X : Cx) (id : String) (r : V → List V → Hp → VK → Prop) : Prop :=
 ∀ (pins : List (Addr × Obj)) (s : Shared) (σ : St) (H : Hp) (x : V) (xs : List V) (v : Value) (us : List Value) (Q : VK), Inv X pins σ H s → aJ x v → aK xs us → r x xs H Q →
  wpAny (model X.prog X.w) X.A (call (.builtin id) (v :: us)) (EP X pins σ Q) X.xe s
theorem aK.one : ∀ {x : V} {us : List Value}, aK [x] us → ∃ u, us = [u] ∧ aJ x u
 | _, _, .cons r .nil => ⟨_, rfl, r⟩
theorem aK.two : ∀ {x y : V} {us : List Value}, aK [x, y] us → ∃ u v, us = [u, v] ∧ aJ x u ∧ aJ y v
 | _, _, _, .cons r (.cons q .nil) => ⟨_, _, rfl, r, q⟩
theorem aK.reverse {xs : List V} {us : List Value} (h : aK xs us) : aK xs.reverse us.reverse := by
 induction h with
 | nil => exact .nil
 | cons r t ih => rw [List.reverse_cons, List.reverse_cons]; exact aK.append ih (.cons r .nil)
theorem aK.rep {xs : List V} {us : List Value} (h : aK xs us) : ∀ k : Nat, aK (List.replicate k xs).flatten (List.replicate k us).flatten
  | 0 => .nil
  | k + 1 => by
    rw [List.replicate_succ, List.replicate_succ, List.flatten_cons, List.flatten_cons]
    exact aK.append h (aK.rep h k)
theorem lq (its : List Value) : ∀ (k : Nat) (acc : List Value),
    List.foldl (fun x1 x2 => x1 ++ x2) acc.toArray (List.replicate k its.toArray) = (acc ++ (List.replicate k its).flatten).toArray
  | 0, acc => by simp
  | k + 1, acc => by
    have e : acc.toArray ++ its.toArray = (acc ++ its).toArray := by simp
    have e2 : (acc ++ its) ++ (List.replicate k its).flatten = acc ++ (List.replicate (k + 1) its).flatten := by
      rw [List.replicate_succ, List.flatten_cons, List.append_assoc]
    rw [← e2, ← lq its k (acc ++ its), ← e, List.replicate_succ, List.foldl_cons]
section
variable {X : Cx} {pins : List (Addr × Obj)} {σ : St} {H : Hp} {s : Shared} {l b : Addr} {xs ys zs : List V}
theorem Inv.lset {its its' : List Value} {n : Nat} {f : Array Value → Array Value} {t' : Nat} (I : Inv X pins σ H s) (hH : H l = some (.lst xs))
  (e : s.heap.get? l = some { cls := .type "list", data := .seq its.toArray n }) (hf : f its.toArray = its'.toArray) (hv : aK ys its') (hz : ys.length ≤ sizeLine) :
  Inv X pins σ (upd H l (.lst ys)) { s with heap := s.heap.update l (Obj.mapSeq f), toks := t' } := by
 have q := PySem.IsL.update e f
 rw [hf] at q
 refine I.write (x := l) (e := l) (by rw [hH]; exact trivial) (.inl rfl) (fun b' u hb hu => (Heap.get?_update_other s.heap (Obj.mapSeq f) (Ne.symm hb)).trans hu) ⟨_, q⟩ ?_
 exact ⟨hz, its', _, hv, q⟩
theorem Inv.lnew {its : List Value} {t' : Nat} (I : Inv X pins σ H s) (hv : aK ys its) (hz : ys.length ≤ sizeLine) :
  Inv X pins σ (upd H s.heap.objs.size (.lst ys)) { s with heap := s.heap.push { cls := .type "list", data := .seq its.toArray }, toks := t' } :=
 I.laid (fun _ _ q => Heap.get?_push_of_some _ q) (Nat.le_refl _) ⟨hz, its, 0, hv, Heap.get?_push_size _ rfl⟩
theorem Inv.fresh (I : Inv X pins σ H s) : H s.heap.objs.size = none := I.hok.fresh (Nat.le_refl _)
theorem Inv.lstM (I : Inv X pins σ H s) (hH : H l = some (.lst xs)) : xs.length ≤ sizeLine ∧ ∃ (its : List Value) (n : Nat), aK xs its ∧ xs.length = its.length ∧ s.heap.get? l = some { cls := .type "list", data := .seq its.toArray n } := by
 obtain ⟨z, its, n, r, e⟩ := I.hok l _ hH
 exact ⟨z, its, n, r, r.length, e⟩
end
section
variable {X : Cx}
def bP : V → List V → Hp → VK → Prop := fun x vs H Q => ∃ l xs y, x = .ref l ∧ vs = [y] ∧ H l = some (.lst xs) ∧ xs.length < sizeLine ∧ Q .non (upd H l (.lst (xs ++ [y])))
theorem bu : MtM X "list.append" bP := by
 intro pins s σ H x vs v us Q I rx rv h
 obtain ⟨l, xs, y, rfl, rfl, hH, hz, q⟩ := h
 cases rx
 obtain ⟨u, rfl, ru⟩ := rv.one
 obtain ⟨z, its, n, r, hl, e⟩ := I.lstM hH
 refine call_meets F.slot_list_append ⟨_, e, rfl⟩ F.entry_list_append (F.args_list_append_2 _ _) (PySem.list_append l its.toArray n u (by rw [List.size_toArray]; omega)) ⟨e, ?_⟩
 refine ⟨.non, _, I.lset (its' := its ++ [u]) hH e (by simp) (r.append (.cons ru .nil)) ?_, rfl, q⟩
 rw [List.length_append, List.length_singleton]
 omega
def zy : R2 := fun x y H Q => ∃ l b xs zs, x = .ref l ∧ y = .ref b ∧ H l = some (.lst xs) ∧ H b = some (.lst zs) ∧ xs.length + zs.length ≤ sizeLine ∧ ∀ p, H p = none → Q (.ref p) (upd H p (.lst (xs ++ zs)))
theorem zI : OpR X (binaryOp .Add) zy := by
 intro pins s σ H x y v u Q I rx ry h
 obtain ⟨l, b, xs, zs, rfl, rfl, hH, hB, hz, q⟩ := h
 cases rx
 cases ry
 obtain ⟨z, its, n, r, hl, e⟩ := I.lstM hH
 obtain ⟨z2, its2, n2, r2, hl2, e2⟩ := I.lstM hB
 refine PySem.P.add_list e e2 ?_ (by rw [List.size_toArray, List.size_toArray]; omega)
 have ea : its.toArray ++ its2.toArray = (its ++ its2).toArray := by simp
 rw [ea]
 exact ⟨.ref _, _, I.lnew (t' := s.toks) (r.append r2) (by rw [List.length_append]; omega), rfl, q _ I.fresh⟩
theorem pE {α : Type} (xs : List α) (k : Nat) : (List.replicate k xs).flatten.length = k * xs.length := by
 induction k with
 | zero => simp
 | succ k ih => rw [List.replicate_succ, List.flatten_cons, List.length_append, ih, Nat.succ_mul, Nat.add_comm]
end
section
variable {prog : Program} {w : World} {A : Around} {E : Value → Shared → Prop} {s : Shared}
set_option maxRecDepth 100000 in
end
section
variable {X : Cx}
end
end L2
namespace L2
open PySem PySem.Spec PyProof.Rows
section
variable {κ : Type} [DecidableEq κ]
def bn (kvs : List (κ × V)) (k : κ) : Option V := (kvs.find? fun kv => decide (kv.1 = k)).map (·.2)
def bT (kvs : List (κ × V)) (k : κ) (v : V) : List (κ × V) :=
 if (kvs.any fun kv => decide (kv.1 = k)) = true then kvs.map (fun kv => if kv.1 = k then (kv.1, v) else kv) else kvs ++ [(k, v)]
theorem cI {p : κ × V} {r : List (κ × V)} {k : κ} (e : p.1 = k) : bn (p :: r) k = some p.2 := by simp [bn, List.find?_cons, e]
theorem cL {p : κ × V} {r : List (κ × V)} {k : κ} (e : ¬ p.1 = k) : bn (p :: r) k = bn r k := by simp [bn, List.find?_cons, e]
theorem fI (k : κ) : ∀ kvs : List (κ × V), (kvs.any fun kv => decide (kv.1 = k)) = (bn kvs k).isSome
  | [] => rfl
  | p :: r => by
    rw [List.any_cons]
    by_cases e : p.1 = k
    · simp only [cI e, decide_eq_true e, Bool.true_or, Option.isSome_some]
    · rw [cL e, decide_eq_false e, Bool.false_or]; exact fI k r
theorem nh (k j : κ) (y : V) : ∀ kvs : List (κ × V), bn (kvs.map fun kv => if kv.1 = k then (kv.1, y) else kv) j = (bn kvs j).map fun x => if j = k then y else x
  | [] => rfl
  | p :: r => by
    have ih := nh k j y r
    rw [List.map_cons]
    by_cases h : p.1 = k
    · rw [if_pos h]
      by_cases e : p.1 = j
      · rw [cI (p := (p.1, y)) e, cI e, Option.map_some, if_pos (e.symm.trans h)]
      · rw [cL (p := (p.1, y)) e, cL e, ih]
    · rw [if_neg h]
      by_cases e : p.1 = j
      · rw [cI (p := p) e, cI e, Option.map_some, if_neg (fun z => h (e.trans z))]
      · rw [cL (p := p) e, cL e, ih]
theorem lA (k j : κ) (y : V) : ∀ kvs : List (κ × V), bn kvs k = none → bn (kvs ++ [(k, y)]) j = if j = k then some y else bn kvs j
  | [], _ => by
    by_cases e : k = j
    · rw [if_pos e.symm]; exact cI (p := (k, y)) e
    · rw [if_neg (fun z => e z.symm)]; exact cL (p := (k, y)) e
  | p :: r, hn => by
    rw [List.cons_append]
    have hk : ¬ p.1 = k := fun z => by rw [cI z] at hn; cases hn
    rw [cL hk] at hn
    have ih := lA k j y r hn
    by_cases e : p.1 = j
    · rw [cI e, cI e, if_neg (fun z => hk (e.trans z))]
    · rw [cL e, cL e, ih]
theorem gQ (kvs : List (κ × V)) (k j : κ) (y : V) : bn (bT kvs k y) j = if j = k then some y else bn kvs j := by
 unfold bT
 by_cases a : (kvs.any fun kv => decide (kv.1 = k)) = true
 · rw [if_pos a, nh]
   rw [fI] at a
   by_cases e : j = k
   · obtain ⟨x, hx⟩ := Option.isSome_iff_exists.mp a
     rw [if_pos e, e, hx, Option.map_some, if_pos rfl]
   · rw [if_neg e]
     cases bn kvs j with
     | none => rfl
     | some x => rw [Option.map_some, if_neg e]
 · rw [if_neg a]
   refine lA k j y kvs ?_
   rw [fI] at a
   cases q : bn kvs k with
   | none => rfl
   | some x => rw [q] at a; exact (a rfl).elim
theorem dE (kvs : List (κ × V)) (k : κ) (v : V) : (bT kvs k v).length ≤ kvs.length + 1 := by
 unfold bT
 split
 · rw [List.length_map]; omega
 · rw [List.length_append, List.length_cons, List.length_nil]; omega
theorem uf {kvs : List (κ × V)} {k : κ} (v : V) (h : bn kvs k = none) : bT kvs k v = kvs ++ [(k, v)] := by
 unfold bT
 rw [fI, h]
 exact if_neg (by decide)
theorem bS.isSome_eq {o : Option V} {u : Option Value} (r : bS o u) : o.isSome = u.isSome := by
  cases o with
  | none => cases u with
    | none => rfl
    | some _ => exact (show False from r).elim
  | some _ => cases u with
    | none => exact (show False from r).elim
    | some _ => rfl
theorem bS.getD {o : Option V} {u : Option Value} {d : V} {d' : Value} (r : bS o u) (rd : aJ d d') : aJ (o.getD d) (u.getD d') := by
  cases o with
  | none => cases u with
    | none => exact rd
    | some _ => exact (show False from r).elim
  | some _ => cases u with
    | none => exact (show False from r).elim
    | some _ => exact r
theorem KV.val {kvs : List (κ × V)} {vs : List (κ × Value)} (r : KV kvs vs) (k : κ) : bS (bn kvs k) (valueAt vs k) := by
  unfold KV at r
  induction r with
  | nil => exact True.intro
  | @cons p q ps qs h t ih =>
    obtain ⟨h1, h2⟩ := h
    by_cases e : p.1 = k
    · have e' : q.1 = k := h1.symm.trans e
      have b : valueAt (q :: qs) k = some q.2 := by simp [valueAt, List.find?_cons, e']
      rw [cI e, b]; exact h2
    · have e' : ¬ q.1 = k := fun z => e (h1.trans z)
      have b : valueAt (q :: qs) k = valueAt qs k := by simp [valueAt, List.find?_cons, e']
      rw [cL e, b]; exact ih
theorem KV.any {kvs : List (κ × V)} {vs : List (κ × Value)} (r : KV kvs vs) (k : κ) : (kvs.any fun kv => decide (kv.1 = k)) = vs.any fun kv => decide (kv.1 = k) := by
 unfold KV at r
 induction r with
 | nil => rfl
 | cons h t ih => rw [List.any_cons, List.any_cons, ih, h.1]
theorem KV.repl {kvs : List (κ × V)} {vs : List (κ × Value)} (r : KV kvs vs) (k : κ) {y : V} {u : Value} (ry : aJ y u) :
    KV (kvs.map fun kv => if kv.1 = k then (kv.1, y) else kv) (vs.map fun kv => if kv.1 = k then (kv.1, u) else kv) := by
  unfold KV at r ⊢
  induction r with
  | nil => exact .nil
  | @cons p q ps qs h t ih =>
    rw [List.map_cons, List.map_cons]
    refine .cons ?_ ih
    obtain ⟨h1, h2⟩ := h
    by_cases e : p.1 = k
    · rw [if_pos e, if_pos (h1.symm.trans e)]; exact ⟨h1, ry⟩
    · rw [if_neg e, if_neg (fun z => e (h1.trans z))]; exact ⟨h1, h2⟩
theorem KV.put {kvs : List (κ × V)} {vs : List (κ × Value)} (r : KV kvs vs) (k : κ) {y : V} {u : Value} (ry : aJ y u) : KV (bT kvs k y) (stored vs k u) := by
 unfold bT stored
 rw [r.any k]
 by_cases e : (vs.any fun kv => decide (kv.1 = k)) = true
 · rw [if_pos e, if_pos e]; exact r.repl k ry
 · rw [if_neg e, if_neg e]; exact Paired.snoc r ⟨rfl, ry⟩
theorem KV.length {kvs : List (κ × V)} {vs : List (κ × Value)} (r : KV kvs vs) : kvs.length = vs.length := Paired.length r
end
theorem gR {P : Program} {w : World} {k : Key} {u : Value} (r : aJ (kV k) u) : (bI P w).is k u = true := by
 cases k with
 | inl i => obtain ⟨t, e⟩ := (show ∃ t, u = Value.int i t from r); subst e; exact ow P w i t
 | inr x => obtain ⟨t, e⟩ := (show ∃ t, u = Value.str x t from r); subst e; exact oF P w x t
theorem Ad {a b : Key} (e : kV a = kV b) : a = b := by
  cases a with
  | inl i => cases b with
    | inl j => have e' : V.int i = V.int j := e; injection e' with e'; rw [e']
    | inr y => exact nomatch (show V.int i = V.str y from e)
  | inr x => cases b with
    | inl j => exact nomatch (show V.str x = V.int j from e)
    | inr y => have e' : V.str x = V.str y := e; injection e' with e'; rw [e']
theorem ge : ∀ {a b : List Key}, a.map kV = b.map kV → a = b
  | [], [], _ => rfl
  | [], _ :: _, e => by simp at e
  | _ :: _, [], e => by simp at e
  | x :: xs, y :: ys, e => by
    rw [List.map_cons, List.map_cons] at e
    injection e with e1 e2
    rw [Ad e1, ge e2]
theorem lm {P : Program} {w : World} : ∀ {ks : List Key} {us : List Value}, aK (ks.map kV) us → ItemsAre (bI P w) ks us
  | [], _, r => by rw [List.map_nil] at r; cases r; exact .nil
  | k :: ks, _, r => by
    rw [List.map_cons] at r
    cases r with
    | cons h t => exact .cons (gR h) (lm t)
abbrev KT (H : Hp) : List (List Key × V) → List (List Key × Addr × Value) → Prop := Paired fun p q => p.1 = q.1 ∧ H q.2.1 = some (.tup (p.1.map kV)) ∧ aJ p.2 q.2.2
theorem KT.val {H : Hp} {kvs : List (List Key × V)} {xs : List (List Key × Addr × Value)} (r : KT H kvs xs) (k : List Key) : bS (bn kvs k) ((atKey xs k).map (·.2)) := by
  induction r with
  | nil => exact True.intro
  | @cons p q ps qs h t ih =>
    obtain ⟨h1, _, h2⟩ := h
    by_cases e : p.1 = k
    · have e' : q.1 = k := h1.symm.trans e
      have b : atKey (q :: qs) k = some q.2 := by simp [atKey, List.find?_cons, e']
      rw [cI e, b]; exact h2
    · have e' : ¬ q.1 = k := fun z => e (h1.trans z)
      have b : atKey (q :: qs) k = atKey qs k := by simp [atKey, List.find?_cons, e']
      rw [cL e, b]; exact ih
theorem KT.repl {H : Hp} {kvs : List (List Key × V)} {xs : List (List Key × Addr × Value)} (r : KT H kvs xs) (k : List Key) {y : V} {u : Value} (ry : aJ y u) :
    KT H (kvs.map fun kv => if kv.1 = k then (kv.1, y) else kv) (xs.map (putAt k u)) := by
  induction r with
  | nil => exact .nil
  | @cons p q ps qs h t ih =>
    rw [List.map_cons, List.map_cons]
    refine .cons ?_ ih
    obtain ⟨h1, h2, h3⟩ := h
    unfold putAt
    by_cases e : p.1 = k
    · rw [if_pos e, if_pos (h1.symm.trans e)]; exact ⟨h1, h2, ry⟩
    · rw [if_neg e, if_neg (fun z => e (h1.trans z))]; exact ⟨h1, h2, h3⟩
theorem KT.put {H : Hp} {kvs : List (List Key × V)} {xs : List (List Key × Addr × Value)} (r : KT H kvs xs) (k : List Key) {b : Addr} {y : V} {u : Value} (hb : H b = some (.tup (k.map kV))) (ry : aJ y u) :
   KT H (bT kvs k y) (storedH xs k b u) := by
 have e : (kvs.any fun kv => decide (kv.1 = k)) = (atKey xs k).isSome := by
   rw [fI, (r.val k).isSome_eq, Option.isSome_map]
 unfold bT storedH
 rw [e]
 by_cases q : (atKey xs k).isSome = true
 · rw [if_pos q, if_pos q]; exact r.repl k ry
 · rw [if_neg q, if_neg q]; exact Paired.snoc r ⟨rfl, hb, ry⟩
theorem KT.keeps {H H' : Hp} {kvs : List (List Key × V)} {xs : List (List Key × Addr × Value)} (r : KT H kvs xs) (ht : ∀ b ys, H b = some (.tup ys) → H' b = some (.tup ys)) : KT H' kvs xs :=
 Paired.mapP r fun _ _ z => ⟨z.1, ht _ _ z.2.1, z.2.2⟩
section
variable {P : Program} {w : World} {H : Hp} {h : Heap} {a : Addr}
theorem wp {u : HO} (ok : HOk P w H h) (e : Rd H a u) : aR P w H h a u := e.ok ok
theorem gK {kvs : List (Key × V)} (ok : HOk P w H h) (e : Rd H a (.dK kvs)) : kvs.length ≤ sizeLine ∧ (a == sysModules) = false ∧ ∃ vs, KV kvs vs ∧ h.DictOf (bI P w) a vs :=
 show aR P w H h a (.dK kvs) from wp ok e
theorem wJ {kvs : List (Key × V)} (ok : HOk P w H h) (e : H a = some (.dK kvs)) : kvs.length ≤ sizeLine ∧ (a == sysModules) = false ∧ ∃ vs, KV kvs vs ∧ h.DictOf (bI P w) a vs := gK ok (.inl e)
theorem fz {ks : List Key} (ok : HOk P w H h) (e : H a = some (.tup (ks.map kV))) : (tupleKind (bI P w)).is h ks a := by
 obtain ⟨_, its, r, o, h1, h2, n, h3⟩ := (show aR P w H h a (.tup (ks.map kV)) from ok a _ e)
 exact ⟨o, its.toArray, n, h1, h2, h3, by simpa using lm r⟩
theorem iI {kvs : List (List Key × V)} (ok : HOk P w H h) (e : Rd H a (.dT kvs)) : kvs.length ≤ sizeLine ∧ (a == sysModules) = false ∧
    ∃ xs, KT H kvs xs ∧ h.DictOfH (tupleKind (bI P w)) a xs := by
  obtain ⟨z, y, xs, r, o, es, ep, h1, h2, h3, h4, h5⟩ := (show aR P w H h a (.dT kvs) from wp ok e)
  refine ⟨z, y, xs, r, o, es, ep, h1, h2, h3, h4, fun x hx => ?_, h5⟩
  have all : ∀ {l : List (List Key × V)} {m : List (List Key × Addr × Value)}, KT H l m → ∀ x ∈ m, (tupleKind (bI P w)).is h x.1 x.2.1 := by
    intro l m q
    induction q with
    | nil => intro x hx; exact nomatch hx
    | @cons p q ps qs hq t ih =>
      intro x hx
      rcases List.mem_cons.mp hx with e | hx
      · subst e
        exact fz ok (by rw [← hq.1]; exact hq.2.1)
      · exact ih x hx
  exact all r x hx
theorem pQ {kvs : List (List Key × V)} (ok : HOk P w H h) (e : H a = some (.dT kvs)) : kvs.length ≤ sizeLine ∧ (a == sysModules) = false ∧
 ∃ xs, KT H kvs xs ∧ h.DictOfH (tupleKind (bI P w)) a xs := iI ok (.inl e)
end
def cO (H : Hp) (a : Addr) (y : V) (r : Option V) : Prop :=
 (∃ kvs k, Rd H a (.dK kvs) ∧ y = kV k ∧ r = bn kvs k) ∨ ∃ kvs k b, Rd H a (.dT kvs) ∧ y = .ref b ∧ H b = some (.tup (k.map kV)) ∧ r = bn kvs k
def kr (H : Hp) (a : Addr) (y v : V) (H' : Hp) : Prop :=
 (∃ kvs k, H a = some (.dK kvs) ∧ y = kV k ∧ kvs.length < sizeLine ∧ H' = upd H a (.dK (bT kvs k v))) ∨
 ∃ kvs k b, H a = some (.dT kvs) ∧ y = .ref b ∧ H b = some (.tup (k.map kV)) ∧ kvs.length < sizeLine ∧ H' = upd H a (.dT (bT kvs k v))
theorem cO.k {H : Hp} {a : Addr} {kvs : List (Key × V)} {k : Key} (e : H a = some (.dK kvs)) : cO H a (kV k) (bn kvs k) := .inl ⟨kvs, k, .inl e, rfl, rfl⟩
theorem cO.t {H : Hp} {a b : Addr} {kvs : List (List Key × V)} {k : List Key} (e : H a = some (.dT kvs)) (eb : H b = some (.tup (k.map kV))) : cO H a (.ref b) (bn kvs k) := .inr ⟨kvs, k, b, .inl e, rfl, eb, rfl⟩
theorem kr.k {H : Hp} {a : Addr} {kvs : List (Key × V)} {k : Key} {v : V} (e : H a = some (.dK kvs)) (hl : kvs.length < sizeLine) : kr H a (kV k) v (upd H a (.dK (bT kvs k v))) := .inl ⟨kvs, k, e, rfl, hl, rfl⟩
section
variable {X : Cx} {pins : List (Addr × Obj)} {σ : St} {H : Hp} {s : Shared} {a : Addr} {y v : V} {u r : Value} {o : Option V} {A : Around} {E : Value → Shared → Prop}
theorem Inv.big (I : Inv X pins σ H s) : sysModules < s.heap.objs.size := by
 have h : mainGlobals < s.heap.objs.size := (I.mod.glob.keeps I.bk).lt
 exact Nat.lt_trans (by decide) h
theorem rL {Q : Value → Shared → Prop} (hu : A.units + 1 < cLine) (I : Inv X pins σ H s) (g : cO H a y (some v)) (ry : aJ y u) (h : ∀ w' s', Inv X pins σ H s' → aJ v w' → Q w' s') :
   wpAny (model X.prog X.w) A (getItem (.ref a) u) Q E s := by
 rcases g with ⟨kvs, k, e, ey, l⟩ | ⟨kvs, k, b, e, ey, eb, l⟩
 · subst ey
   obtain ⟨z, hd, vs, rel, dd⟩ := gK I.hok e
   obtain ⟨w', hw, rw'⟩ := bS.some_of (v := v) (o := valueAt vs k) (by rw [l]; exact rel.val k)
   exact wpAny_getItem_of (gR ry) dd.mapOf hw (h w' _ (I.tok _) rw')
 · subst ey
   cases (show u = Value.ref b from ry)
   obtain ⟨z, hd, xs, rel, dd⟩ := iI I.hok e
   obtain ⟨w', hw, rw'⟩ := bS.some_of (v := v) (o := (atKey xs k).map (·.2)) (by rw [l]; exact rel.val k)
   obtain ⟨p, hp, hp2⟩ := Option.map_eq_some_iff.mp hw
   refine wpAny_getItem_heap (tupleKind_room_in1 hu) (fz I.hok eb) dd hp ?_
   rw [hp2]
   exact h w' _ (I.tok _) rw'
theorem xo {Q : Value → Shared → Prop} (hu : A.units + 1 < cLine) (I : Inv X pins σ H s) (g : cO H a y o) (ry : aJ y u) (h : ∀ s', Inv X pins σ H s' → Q (.bool (!o.isSome)) s') :
   wpAny (model X.prog X.w) A (compareOp .NotIn u (.ref a)) Q E s := by
 rcases g with ⟨kvs, k, e, ey, l⟩ | ⟨kvs, k, b, e, ey, eb, l⟩
 · subst ey
   obtain ⟨z, hd, vs, rel, dd⟩ := gK I.hok e
   refine wpAny_notIn_of (gR ry) hd dd.mapOf ?_
   rw [← (rel.val k).isSome_eq, ← l]
   exact h _ (I.tok _)
 · subst ey
   cases (show u = Value.ref b from ry)
   obtain ⟨z, hd, xs, rel, dd⟩ := iI I.hok e
   refine wpAny_notIn_heap (tupleKind_room_in1 hu) (fz I.hok eb) hd dd ?_
   have q := (rel.val k).isSome_eq
   rw [Option.isSome_map] at q
   rw [← q, ← l]
   exact h _ (I.tok _)
theorem iT {h' : Heap} {t' : Nat} {ob : HO} (I : Inv X pins σ H s) (mu : Mut (H a)) (hs : Heap.SameBut a s.heap h') (he : ∃ q, h'.get? a = some q) (new : aR X.prog X.w (upd H a ob) h' a ob) :
  Inv X pins σ (upd H a ob) { s with heap := h', toks := t' } :=
 I.write (x := a) (e := a) mu (.inl rfl) (fun b q hb z => (hs.2 b hb).trans z) he new
theorem rK {P : Program} {w : World} {H' : Hp} {h' : Heap} {kvs : List (Key × V)} {vs : List (Key × Value)} (z : kvs.length ≤ sizeLine) (hd : (a == sysModules) = false) (rel : KV kvs vs) (dd : h'.DictOf (bI P w) a vs) :
 aR P w H' h' a (.dK kvs) := ⟨z, hd, vs, rel, dd⟩
theorem sX {H' : Hp} {Q : Unit → Shared → Prop} (hu : A.units + 1 < cLine) (I : Inv X pins σ H s) (g : kr H a y v H') (ry : aJ y u) (rv : aJ v r) (h : ∀ s', Inv X pins σ H' s' → Q () s') :
   wpAny (model X.prog X.w) A (setItem (.ref a) u r) Q E s := by
 rcases g with ⟨kvs, k, e, ey, l, eH⟩ | ⟨kvs, k, b, e, ey, eb, l, eH⟩
 · subst ey eH
   obtain ⟨z, hd, vs, rel, dd⟩ := wJ I.hok e
   have hz : vs.length ≤ sizeLine := by rw [← rel.length]; exact z
   have hl : (bT kvs k v).length ≤ sizeLine := by have := dE kvs k v; omega
   refine wpAny_setItem_pairs (hsz := hz) (gR ry) dd fun h' dd' hs => h _ ?_
   have he : ∃ q, h'.get? a = some q := let ⟨q, _, _, hq, _⟩ := dd'; ⟨q, hq⟩
   exact iT I (by rw [e]; exact True.intro) hs he (rK hl hd (rel.put k rv) dd')
 · subst ey eH
   cases (show u = Value.ref b from ry)
   obtain ⟨z, hd, xs, rel, dd⟩ := pQ I.hok e
   have hz : xs.length ≤ sizeLine := by rw [← Paired.length rel]; exact z
   have hl : (bT kvs k v).length ≤ sizeLine := by have := dE kvs k v; omega
   refine wpAny_setItem_heap (hsz := hz) (tupleKind_room_in1 hu) (fz I.hok eb) dd fun h' dd' hs => h _ ?_
   obtain ⟨q, es, ep, hq, h2, h3, h4, _, h5⟩ := dd'
   refine iT I (by rw [e]; exact True.intro) hs ⟨q, hq⟩ ⟨hl, hd, _, (rel.put k eb rv).keeps fun c ys ec => ?_, q, es, ep, hq, h2, h3, h4, h5⟩
   rw [ak (bE ec e (fun z => nomatch z))]
   exact ec
end
section
variable {X : Cx} {pins : List (Addr × Obj)} {σ : St} {H : Hp} {s : Shared} {a : Addr} {kvs : List (Key × V)} {k : Key} {u : Value} {A : Around} {E : Value → Shared → Prop}
theorem Ci {Q : Value → Shared → Prop} (I : Inv X pins σ H s) (e : Rd H a (.dK kvs)) (h : ∀ t s', Inv X pins σ H s' → Q (.int kvs.length t) s') : wpAny (model X.prog X.w) A (call (.builtin "len") [.ref a]) Q E s := by
 obtain ⟨z, hd, vs, rel, dd⟩ := gK I.hok e
 refine call_len_dict hd dd (by rw [← rel.length]; rw [sizeLine_eq] at z; omega) ?_
 rw [← rel.length]
 exact h _ _ (I.tok _)
end
theorem oo {X : Cx} {pins : List (Addr × Obj)} {σ : St} {H : Hp} {s : Shared} {a : Addr} {y : V} {o : Option V} (I : Inv X pins σ H s) (g : cO H a y o) : s.TypeIs (.ref a) "dict" := by
 rcases g with ⟨kvs, k, e, _, _⟩ | ⟨kvs, k, b, e, _, _, _⟩
 · obtain ⟨_, _, vs, _, dd⟩ := gK I.hok e
   exact dd.typeIs
 · obtain ⟨_, _, xs, _, dd⟩ := iI I.hok e
   exact dd.typeIs
section
variable {X : Cx} {o i e value : Expr} {pos pos' tpos : Pos} {td ty tv : TE}
end
theorem uN {P : Program} {w : World} {H : Hp} (h : Heap) (hb : sysModules < h.objs.size) : aR P w H (h.push { cls := .type "dict", data := .dict #[] }) h.objs.size (.dK []) :=
 ⟨Nat.zero_le _, beq_eq_false_iff_ne.mpr (Ne.symm (Nat.ne_of_lt hb)), [], .nil, Heap.DictOf.new h⟩
theorem ui {P : Program} {w : World} {H : Hp} (h : Heap) (hb : sysModules < h.objs.size) : aR P w H (h.push { cls := .type "dict", data := .dict #[] }) h.objs.size (.dT []) :=
 ⟨Nat.zero_le _, beq_eq_false_iff_ne.mpr (Ne.symm (Nat.ne_of_lt hb)), [], .nil, _, #[], 0, Heap.get?_push_size _ rfl, ⟨rfl, rfl, rfl⟩, rfl, rfl, List.nodup_nil⟩
def rQ : TE := fun _ H Q => ∀ p, H p = none → Q (.ref p) (upd H p (.dK []))
def sQ : TE := fun _ H Q => ∀ p, H p = none → Q (.ref p) (upd H p (.dT []))
section
variable {X : Cx} {pos : Pos}
theorem vQ : PE X (.Dict [] [] pos) rQ := fun pins s σ H Q I h =>
 wpAny_Dict_empty ⟨.ref s.heap.objs.size, _, I.laid (a := s.heap.objs.size) (o := .dK []) (t' := s.toks) (fun _ _ q => Heap.get?_push_of_some _ q) (Nat.le_refl _) (uN s.heap I.big), rfl, h _ (I.hok.fresh (Nat.le_refl _))⟩
theorem tZ : PE X (.Dict [] [] pos) sQ := fun pins s σ H Q I h =>
 wpAny_Dict_empty ⟨.ref s.heap.objs.size, _, I.laid (a := s.heap.objs.size) (o := .dT []) (t' := s.toks) (fun _ _ q => Heap.get?_push_of_some _ q) (Nat.le_refl _) (ui s.heap I.big), rfl, h _ (I.hok.fresh (Nat.le_refl _))⟩
end
section
variable {X : Cx} {pins : List (Addr × Obj)} {σ : St} {H : Hp} {s : Shared} {a : Addr} {y d : V} {u r : Value} {o : Option V} {A : Around} {E : Value → Shared → Prop}
theorem ye {Q : Value → Shared → Prop} (hu : A.units + 1 < cLine) (I : Inv X pins σ H s) (g : cO H a y o) (ry : aJ y u) (rd : aJ d r) (h : ∀ w' s', Inv X pins σ H s' → aJ (o.getD d) w' → Q w' s') :
   wpAny (model X.prog X.w) A (call (.builtin "dict.get") [.ref a, u, r]) Q E s := by
 rcases g with ⟨kvs, k, e, ey, l⟩ | ⟨kvs, k, b, e, ey, eb, l⟩
 · subst ey
   obtain ⟨z, hd, vs, rel, dd⟩ := gK I.hok e
   refine call_meetsIn PySem.F.slot_dict_get dd.typeIs PySem.F.entry_dict_get (PySem.F.args_dict_get_3 _ _ _) (meets_dict_get_default (bI X.prog X.w) a (gR ry) hd r) ⟨_, dd.mapOf, h _ _ (I.tok _) ?_⟩
   rw [l]
   exact (rel.val k).getD rd
 · subst ey
   cases (show u = Value.ref b from ry)
   obtain ⟨z, hd, xs, rel, dd⟩ := iI I.hok e
   refine call_meetsIn PySem.F.slot_dict_get dd.typeIs PySem.F.entry_dict_get (PySem.F.args_dict_get_3 _ _ _) (meetsH_dict_get_default (tupleKind (bI X.prog X.w)) a b hd r) ⟨tupleKind_room_in1 hu, k, xs, fz I.hok eb, dd, h _ _ (I.tok _) ?_⟩
   rw [l]
   exact (rel.val k).getD rd
end
section
variable {X : Cx} {o e f : Expr} {apos cpos : Pos} {td ty tx : TE}
end
section
variable {X : Cx} {pins : List (Addr × Obj)} {σ : St} {H : Hp} {s : Shared} {a : Addr} {kvs : List (Key × V)} {A : Around} {E : Value → Shared → Prop}
end
section
variable {X : Cx} {pins : List (Addr × Obj)} {σ : St} {H : Hp} {s : Shared} {a : Addr} {y : V} {u : Value} {A : Around} {E : Value → Shared → Prop}
end
end L2
namespace Att
open PySem PySem.W PySem.Calls PyProof.Rows
theorem ints_of_wellAll {P : Params} {h : Heap} : ∀ (ns : List Int) (vs : List Value), WellAll P h vs (ns.map WData.int) → IntsAre vs ns := by
  intro ns
  induction ns with
  | nil =>
    intro vs w
    rw [List.map_nil] at w
    cases w
    exact .nil
  | cons n ns ih =>
    intro vs w
    rw [List.map_cons] at w
    cases w with
    | cons a b =>
      cases a
      exact .cons _ _ (ih _ b)
theorem script_of {l : OpenLaw} {n : Nat} (hn : l.most = some n) {P : Params} {h : Heap} {args : List WData} {vals : List Value}
    (hpre : l.row.toRowW.claim.pre args = true) (hwl : WellAll P h vals args) :
    ∃ a vs ns, vals = [Value.ref a] ∧ args = [WData.list (ns.map WData.int)] ∧ h.get? a = some { cls := .type "list", data := .seq vs.toArray } ∧ IntsAre vs ns ∧ ns.length ≤ n := by
  have hsh : WShape.hasAll [] args [.list .int] = true := (pre_splitW hpre).1
  have hc : l.pre.holds [] { args := args } = true := (pre_splitW hpre).2
  obtain ⟨d, r, rfl, h1, h2⟩ := hasAllW_cons hsh
  obtain rfl := hasAllW_nil h2
  obtain ⟨xs, rfl, h3⟩ := hasW_list h1
  obtain ⟨ns, rfl⟩ := items_int h3
  have hlen : ns.length ≤ n := by
    unfold OpenLaw.pre at hc
    have h4 : (WTm.not (.lt (.lit (.int (n : Int))) (.len (.arg 0)))).holds [] { args := [.list (ns.map .int)] } = true := by
      have h4 := (holds_andW hc).1
      rw [hn] at h4
      exact h4
    have h5 := condW_of h4 (w_not (w_lt w_lit (w_len_list (w_arg rfl))))
    rw [List.length_map] at h5
    refine Nat.le_of_not_lt fun q => ?_
    have q' : (n : Int) < ((ns.length : Nat) : Int) := by omega
    first
      | (rw [decide_eq_true q'] at h5; exact absurd h5 (by decide))
      | (simp at h5; omega)
  cases hwl with
  | cons w1 w2 =>
    cases w2
    cases w1 with
    | list ho hall => exact ⟨_, _, ns, rfl, rfl, ho, ints_of_wellAll ns _ hall, hlen⟩
theorem post_true (l : OpenLaw) (args : List WData) : l.row.toRowW.claim.post args (.bool true) args = true :=
 postW_of (r := l.row.toRowW) (X := (true == true))
  (show WShape.has [] (.bool true) .bool = true by first | rfl | decide | simp [WShape.has, WShape.arms, WShape.armsAll])
  (show (WTm.eq .res (.lit (.bool true))).value [] { args := args, res := some (.bool true), after := args } = some (.bool (true == true)) from w_eq_bool (w_res rfl) w_lit) rfl
theorem attach_call {l : OpenLaw} {n : Nat} {q : Program} {loose : List Str} {XP : (Str → Option Value) → Heap → Prop} {YP : World → Heap → Prop} {d : DefRec}
  (hn : l.most = some n) (hdf : d.params.defaults = [])
  (call : ∀ (w : World) (s₀ s₁ : Shared) (mg mb : Str → Option Value) (fa : Addr) (o : Obj) (pm cd doc : Value) (a : Addr) (vs : List Value) (ns : List Int),
   Ground q loose [] XP w s₀ mg mb s₁.heap → YP w s₁.heap →
   s₁.heap.get? fa = some o → o.data = .func (docDef d.name d.params d.body d.scope pm cd doc) → s₁.heap.CodeRec cd d.name → mg d.name = some (.ref fa) →
   s₁.heap.get? a = some { cls := .type "list", data := .seq vs.toArray } → IntsAre vs ns → ns.length ≤ n → s₁.gens = #[] →
   codeAny (model l.prog w) callerA (.call (.ref fa) ⟨[.ref a], []⟩) (fun r s' => r = .ok (.ret (.bool true)) ∧ OldK s₁.heap s'.heap ∧ s'.os = s₁.os ∧ AllBare s'.gens) s₁) :
  WalkO q loose XP YP l.row.toRowW d [] (fun f vs => PySem.call f vs) := by
 intro w s₀ s₁ mg mb G Y fa o pm cd doc dV kV ho hd hcd hD hmg hg args vals as hpre hlay hrd hwl hlo
 obtain rfl : dV = .none := Dflts.none hD hdf
 obtain rfl : kV = .none := Dflts.noKw hD
 obtain ⟨a, vs, ns, rfl, rfl, hobj, hints, hlen⟩ := script_of hn hpre hwl
 refine enter_call (codeAny_mono (call w s₀ s₁ mg mb fa o pm cd doc a vs ns G Y ho (fd_plain hd) hcd hmg hobj hints hlen hg) fun r s' hq => ?_)
 obtain ⟨rfl, h2, h3, h4⟩ := hq
 exact ⟨.inl ⟨.bool true, .bool true, [], rfl, fun _ => rfl, .bool true, post_true l _, fun _ => ⟨List.Pairwise.nil, fun _ hm => (nomatch hm)⟩⟩, h2, h3, h4⟩
section
variable {prog : Program} {w : World} {A : Around} {E : Value → Shared → Prop} {s : Shared} {K : Frag}
end
end Att
namespace L2
open PySem PySem.Spec PyProof.Rows
theorem lD : ∀ {vs : List Value} {ns : List Int}, IntsAre vs ns → aK (ns.map V.int) vs
 | _, _, .nil => .nil
 | _, _, .cons n t h => .cons ⟨t, rfl⟩ (lD h)
end L2
namespace L2
open PySem PySem.Spec PyProof.Rows
end L2
namespace L2
open PySem PySem.Spec PyProof.Rows
def br (s : Stmt) : Arguments := match s with
 | .FunctionDef _ a _ _ _ _ _ _ _ _ => a
 | _ => { posonlyargs := [], args := [], vararg := none, kwonlyargs := [], kw_defaults := [], kwarg := none, defaults := [] }
def aQ (s : Stmt) : List Stmt := match s with
 | .FunctionDef _ _ b _ _ _ _ _ _ _ => b
 | _ => []
def am (s : Stmt) : Scope := match s with
 | .FunctionDef _ _ _ _ _ _ sc _ _ _ => sc
 | _ => { kind := .function, names := [], isGenerator := false, isCoroutine := false }
abbrev E0 : XK := fun _ _ _ => False
structure Fun (K : W.Frag) (x qual : Str) (st : Stmt) (f : Addr) (fd : FuncData) : Prop where
 ex : ∃ (oc : Value) (od : Option Addr) (kV doc pm : Value) (an : Option Addr) (cdv ct : Value) (osl : Array (Option Value)),
  fd = W.fnOf x qual (br st) (aQ st) (am st) .none kV doc pm an cdv ct ∧ K.lookup f = some ⟨oc, od, .func fd, osl⟩ ∧ W.codeIn K cdv qual = true
 kp : W.keepIn K (.ref f) = true
section
variable {P : Program} {w : World} {K : W.Frag} {mg : Str → Option Value} {base : Heap}
theorem Fun.binds {x qual : Str} {st : Stmt} {f : Addr} {fd : FuncData} {ps : List Str} (F : Fun K x qual st f fd)
  (h : ∀ (kV doc pm : Value) (an : Option Addr) (cdv ct : Value) (us : List Value), us.length = ps.length → bindArgs (W.fnOf x qual (br st) (aQ st) (am st) .none kV doc pm an cdv ct) ⟨us, []⟩ = pure (ps.zip us)) : bY K fd ps [] := by
 obtain ⟨oc, od, kV, doc, pm, an, cdv, ct, osl, rfl, lk, hcd⟩ := F.ex
 exact .all (h kV doc pm an cdv ct)
theorem jJ {x qual : Str} {st : Stmt} {f : Addr} {oc : Value} {od an : Option Addr} {osl : Array (Option Value)} {kV doc pm cdv ct : Value} (l : K.lookup f = some ⟨oc, od, .func (W.fnOf x qual (br st) (aQ st) (am st) .none kV doc pm an cdv ct), osl⟩)
 (c : W.codeIn K cdv qual = true) (k : W.keepIn K (.ref f) = true) : Fun K x qual st f (W.fnOf x qual (br st) (aQ st) (am st) .none kV doc pm an cdv ct) := ⟨⟨oc, od, kV, doc, pm, an, cdv, ct, osl, rfl, l, c⟩, k⟩
end
theorem bj {n : Nat} (h : n ≤ 1000) : n < sizeLine := Nat.lt_of_le_of_lt h (by decide)
section
variable {X : Cx}
theorem tm : bM X (.builtin "len") (fun xs H Q => ∃ a kvs, xs = [V.ref a] ∧ H a = some (.dK kvs) ∧ Q (.int kvs.length) H) := by
 intro pins s σ H xs us Q I r h
 obtain ⟨a, kvs, rfl, ha, q⟩ := h
 obtain ⟨u, rfl, ru⟩ := fh r
 cases ru
 exact Ci I (.inl ha) fun t s' I' => ⟨.int kvs.length, H, I', ⟨t, rfl⟩, q⟩
end
theorem mP {A B : Prop} (h : A) : if true = true then A else B := by
 rw [if_pos rfl]
 exact h
def ao (H H' : Hp) : Prop := ∀ b o, H b = some o → H' b = some o
theorem ao.refl (H : Hp) : ao H H := fun _ _ h => h
theorem ao.trans {H H1 H2 : Hp} (a : ao H H1) (b : ao H1 H2) : ao H H2 := fun c o h => b c o (a c o h)
section
variable {κ : Type} [DecidableEq κ]
end
end L2
namespace L2
open PySem PySem.Spec PyProof.Rows
def dc : List (Str × NameKind) → List (Str × Addr) → List (Str × Addr) → List (Str × Addr)
 | [], _, cs => cs
 | (n, k) :: r, cells, cs => dc r cells (if k == .free then (match cells.lookup n with | some a => (n, a) :: cs | none => cs) else cs)
theorem nP {scope : Scope} {env : Env} (h : ∀ y ∈ scope.names, y.2 = .free → (env.cells.lookup y.1).isSome = true) : closureFor scope env = pure (dc scope.names env.cells []) := by
  have key : ∀ (l : List (Str × NameKind)) (cs : List (Str × Addr)), (∀ y ∈ l, y.2 = .free → (env.cells.lookup y.1).isSome = true) →
      (forIn l cs (fun (x : Str × NameKind) (cs : List (Str × Addr)) => (if (x.2 == NameKind.free) = true then (do let a ← cellOf env x.1; pure (ForInStep.yield ((x.1, a) :: cs))) else (pure (ForInStep.yield cs) : Sem _))) : Sem (List (Str × Addr))) = pure (dc l env.cells cs) := by
    intro l
    induction l with
    | nil => intro cs _; rfl
    | cons y r ih =>
      intro cs hy
      obtain ⟨n, k⟩ := y
      rw [List.forIn_cons]
      by_cases hk : k = .free
      · subst hk
        have hs := hy (n, .free) List.mem_cons_self rfl
        cases e : env.cells.lookup n with
        | none => rw [e] at hs; cases hs
        | some a =>
          have := ih ((n, a) :: cs) (fun z hz => hy z (List.mem_cons_of_mem _ hz))
          simp only [dc, beq_self_eq_true, if_true, e, cellOf, pure_bind]
          exact this
      · have hb : (k == NameKind.free) = false := by simpa using hk
        have := ih cs (fun z hz => hy z (List.mem_cons_of_mem _ hz))
        simp only [dc, hb, Bool.false_eq_true, if_false, pure_bind]
        exact this
  have := key scope.names [] h
  unfold closureFor
  simpa using this
theorem lG : ∀ {l : List (Str × NameKind)} {cells cs : List (Str × Addr)} {x : Str} {c : Addr}, (∀ x c, cs.lookup x = some c → cells.lookup x = some c) → (dc l cells cs).lookup x = some c → cells.lookup x = some c
  | [], _, _, _, _, h, e => h _ _ e
  | (n, k) :: r, cells, cs, x, c, h, e => by
    refine lG (l := r) (fun y d hy => ?_) e
    split at hy
    · split at hy
      · rename_i a ha
        by_cases hyn : y = n
        · subst hyn
          rw [List.lookup_cons_self] at hy
          rw [← hy]; exact ha
        · rw [List.lookup_cons] at hy
          have : (y == n) = false := by simpa using hyn
          rw [this] at hy
          exact h _ _ hy
      · exact h _ _ hy
    · exact h _ _ hy
theorem kg : ∀ {l : List (Str × NameKind)} {cells cs : List (Str × Addr)} {x : Str}, (cs.lookup x).isSome = true → ((dc l cells cs).lookup x).isSome = true
  | [], _, _, _, h => h
  | (n, k) :: r, cells, cs, x, h => by
    refine kg (l := r) ?_
    split
    · split
      · rw [List.lookup_cons]
        split
        · rfl
        · exact h
      · exact h
    · exact h
theorem ij : ∀ {l : List (Str × NameKind)} {cells cs : List (Str × Addr)} {x : Str}, (x, NameKind.free) ∈ l → (cells.lookup x).isSome = true → ((dc l cells cs).lookup x).isSome = true
  | [], _, _, _, h, _ => by cases h
  | (n, k) :: r, cells, cs, x, h, hs => by
    rcases List.mem_cons.mp h with e | h
    · cases e
      refine kg (l := r) ?_
      simp only [beq_self_eq_true, if_true]
      cases e : cells.lookup n with
      | none => rw [e] at hs; cases hs
      | some a => simp only [List.lookup_cons_self]; rfl
    · exact ij (l := r) h hs
theorem jL {x : Str} {k : NameKind} : ∀ {l : List (Str × NameKind)}, l.lookup x = some k → (x, k) ∈ l := fun h => PySem.mem_of_lookup h
inductive fU (X : Cx) (scope : Scope) : List Str → List Nat → Prop where
 | nil : fU X scope [] []
 | cons {y : Str} {i : Nat} {ys : List Str} {is : List Nat} (h1 : X.N[i]? = some y) (h2 : X.env.kindOf y = some .cell ∨ X.env.kindOf y = some .free) (h3 : scope.names.lookup y = some .free) (h : fU X scope ys is) : fU X scope (y :: ys) (i :: is)
structure fL (scope : Scope) (x : Str) (ys : List Str) : Prop where
 kind : scope.kind = .function
 nocell : ∀ y ∈ scope.names, y.2 ≠ .cell
 names : ∀ y ∈ scope.names, y.2 = .local → scope.names.lookup y.1 = some .local
 own : scope.names.lookup x = some .local
 all : ∀ y ∈ scope.names, y.2 = .free → y.1 ∈ ys
 nd : (x :: ys).Nodup
def bq (X : Cx) (scope : Scope) (C : Addr) (N : List Str) (s : Shared) (H : Hp) (fp : List Addr) : Cx :=
 { X with N := N, s₀ := s, H₀ := H, env := compEnvC scope (dc scope.names X.env.cells []) C X.env, outer := X.stack, ex := fp, fn := fun _ => false, pn := [], xe := fun _ _ => False }
def bw (σ : St) (is : List Nat) : St := is.map fun i => (σ[i]?).getD none
theorem gp {f : Str × NameKind → Str × NameKind} (hf : ∀ p, (f p).1 = p.1) {x : Str} : ∀ (l : List (Str × NameKind)), (l.map f).lookup x = (l.lookup x).map fun k => (f (x, k)).2
  | [] => rfl
  | (n, k) :: r => by
    have ih := gp hf (x := x) r
    have e : f (n, k) = (n, (f (n, k)).2) := Prod.ext (hf (n, k)) rfl
    rw [List.map_cons, e, List.lookup_cons, List.lookup_cons]
    cases hx : x == n with
    | true =>
      have e' : x = n := by simpa using hx
      subst e'; rfl
    | false => exact ih
theorem gP (scope : Scope) (env : Env) (x : Str) : (relabel scope env).names.lookup x = (scope.names.lookup x).map fun k => if (k == NameKind.free && env.scope.kind == .function && env.kindOf x == some .cell) then NameKind.cell else k := by
 have hf : ∀ p : Str × NameKind, ((fun (n, k) => if (k == NameKind.free && env.scope.kind == .function && env.kindOf n == some .cell) then (n, NameKind.cell) else (n, k)) p : Str × NameKind).1 = p.1 := by
  intro p
  obtain ⟨n, k⟩ := p
  show (if _ then (n, NameKind.cell) else (n, k)).1 = n
  split <;> rfl
 have := gp hf (x := x) scope.names
 show List.lookup x (List.map _ scope.names) = _
 rw [this]
 congr 1
 funext k
 show (if _ then (x, NameKind.cell) else (x, k)).2 = _
 split <;> rfl
theorem gc {scope : Scope} {env : Env} {x : Str} {k : NameKind} (nc : ∀ y ∈ scope.names, y.2 ≠ .cell) (h : (relabel scope env).names.lookup x = some k) (hk : k = .cell ∨ k = .free) : (x, NameKind.free) ∈ scope.names := by
  rw [gP] at h
  cases q : scope.names.lookup x with
  | none => rw [q] at h; cases h
  | some k' =>
    have hm := jL q
    rw [q] at h
    have h : (if (k' == NameKind.free && env.scope.kind == .function && env.kindOf x == some .cell) then NameKind.cell else k') = k := Option.some.inj h
    by_cases hc : k' = .free
    · subst hc; exact hm
    · have hb : (k' == NameKind.free) = false := by simpa using hc
      rw [hb] at h
      have h : k' = k := h
      subst h
      rcases hk with z | z
      · exact absurd z (nc _ hm)
      · exact absurd z hc
theorem nw {scope : Scope} {env : Env} {x : Str} (h : scope.names.lookup x = some .free) : (relabel scope env).names.lookup x = some .cell ∨ (relabel scope env).names.lookup x = some .free := by
 rw [gP, h]
 show some (if _ then _ else _) = _ ∨ some (if _ then _ else _) = _
 split
 · exact .inl rfl
 · exact .inr rfl
theorem lK {scope : Scope} {env : Env} {x : Str} (h : scope.names.lookup x = some .local) : (relabel scope env).names.lookup x = some .local := by
 rw [gP, h]; rfl
theorem sS {X : Cx} {scope : Scope} {ys : List Str} {is : List Nat} {m : Str → Option Value} {h : Heap} {σ : St} (hc : fU X scope ys is)
    (hl : ∀ (i : Nat) (x : Str) (v : V), X.N[i]? = some x → σ[i]? = some (some v) → Vis X.env.scope x → ∃ u, aJ v u ∧ zV X.env h m x u) (nd : True) :
    ∀ (j : Nat) (y : Str) (v : V), ys[j]? = some y → (bw σ is)[j]? = some (some v) → ∃ u, aJ v u ∧ scope.names.lookup y = some .free ∧ ∃ c, X.env.cells.lookup y = some c ∧ h.IsCell c (some u) := by
  induction hc with
  | nil => intro j y v e; simp at e
  | @cons z i zs js h1 h2 h3 hr ih =>
    intro j y v e1 e2
    cases j with
    | zero =>
      simp at e1; subst e1
      have e2 : (σ[i]?).getD none = some v := by simpa [bw] using e2
      have e3 : σ[i]? = some (some v) := by
        cases q : σ[i]? with
        | none => rw [q] at e2; simp at e2
        | some o => rw [q] at e2; simp at e2; rw [e2]
      have hv : Vis X.env.scope z := by
        rcases h2 with q | q
        · exact .inr (.inl q)
        · exact .inr (.inr q)
      obtain ⟨u, r, l⟩ := hl i z v h1 e3 hv
      refine ⟨u, r, h3, ?_⟩
      rcases l with ⟨k, _⟩ | ⟨_, c, e, ic⟩
      · rcases h2 with q | q
        · rw [q] at k; cases k
        · rw [q] at k; cases k
      · exact ⟨c, e, ic⟩
    | succ j =>
      exact ih j y v (by simpa using e1) (by simpa [bw] using e2)
end L2
namespace L2
open PySem PySem.Spec PyProof.Rows
def ww (is : List Nat) (tc : TT) (te : TE) (σ : St) (D : Addr) (J : It) (H1 : Hp) (Q : VK) : Prop := ∃ W : Nat → Nat → List V → Hp → Prop, (∃ m, W 0 m [] (upd H1 D (.lst []))) ∧
 ∀ i m ys H2, W i m ys H2 → (J.stop i H2 ∧ Q (.ref D) H2) ∨ (J.go i H2 ∧ ∀ x H3, J.yld i H2 x H3 → tc (some x :: bw σ is) H3 fun b H4 => if b = true then
  te (some x :: bw σ is) H4 fun y H5 => H5 D = some (.lst ys) ∧ ys.length < sizeLine ∧ ∃ m', m' < m ∧ W (i + 1) m' (ys ++ [y]) (upd H5 D (.lst (ys ++ [y])))
  else ∃ m', m' < m ∧ W (i + 1) m' ys H4)
def fq (is : List Nat) (wi : TI) (tc : TT) (te : TE) : TE := fun σ H Q => wi σ H fun J H1 => ∀ D, H1 D = none → ww is tc te σ D J H1 Q
theorem oB (elt target iter c : Expr) (scope : Scope) (pos : Pos) (it acc : Value) (env : Env) :
    compTurn (.ListComp elt [⟨target, iter, [c], 0⟩] scope pos) 0 it acc env = (standAt iter.pos >>= fun _ => pyNext it >>= fun r => match r with
      | none => pure (.done .next)
      | some v => letOwnedTupleGo target it v >>= fun _ => assign target env v >>= fun _ => isTrue c env (eval c env) >>= fun ok =>
        (if ok = true then (eval elt env >>= fun x => call (.builtin "list.append") [acc, x] >>= fun _ => pure ()) else pure ()) >>= fun _ =>
          again (.compLoop (.ListComp elt [⟨target, iter, [c], 0⟩] scope pos) 0 it acc env)) := by
  unfold compTurn
  simp only [List.forIn_cons, List.forIn_nil, List.getElem?_cons_zero, List.getElem?_cons_succ, List.getElem?_nil, bind_assoc, pure_bind, bne_self_eq_false, Bool.false_eq_true, if_false, if_true]
  congr 1
  funext _
  congr 1
  funext r
  cases r with
  | none => rfl
  | some v =>
    simp only [bind_assoc, pure_bind, if_true]
    congr 1; funext _
    congr 1; funext _
    congr 1; funext b
    cases b <;> simp
section
variable {prog : Program} {w : World} {A : Around} {R : Result → Shared → Prop} {s : Shared}
theorem hJ {elt target iter c : Expr} {scope : Scope} {pos : Pos} {it acc : Value} {env : Env} (I : Nat → Shared → Prop)
    (turn : ∀ n s, I n s → wpAny (model prog w) A (pyNext it) (fun r s₁ => match r with
      | none => R (.ok .next) s₁
      | some v => wpAny (model prog w) A (letOwnedTupleGo target it v) (fun _ s₁ => wpAny (model prog w) A (assign target env v) (fun _ s₂ => wpAny (model prog w) A (isTrue c env (eval c env)) (fun ok s₂ => if ok = true then wpAny (model prog w) A (eval elt env) (fun x s₃ =>
          wpAny (model prog w) A (call (.builtin "list.append") [acc, x]) (fun _ s₄ => ∃ m, m < n ∧ I m s₄) (notedBy (model prog w) A env fun e s' => R (.error e) s') s₃)
          (notedBy (model prog w) A env fun e s' => R (.error e) s') s₂ else ∃ m, m < n ∧ I m s₂) (notedBy (model prog w) A env fun e s' => R (.error e) s') s₂) (notedBy (model prog w) A env fun e s' => R (.error e) s') s₁) (notedBy (model prog w) A env fun e s' => R (.error e) s') s₁) (notedBy (model prog w) A env fun e s' => R (.error e) s') s)
    (n : Nat) (h : I n s) :
    codeAny (model prog w) A (.compLoop (.ListComp elt [⟨target, iter, [c], 0⟩] scope pos) 0 it acc env) R s := by
  refine codeAny_loop rfl I (fun n s hI => ?_) n h
  show wpAny _ _ ((compTurn (.ListComp elt [⟨target, iter, [c], 0⟩] scope pos) 0 it acc env).onRaise (fun x => do noteFrame x env; theTreesLotGoes x)) _ _ s
  refine wpAny_noted ?_
  rw [oB]
  refine wpAny_bind (wpAny_standAt (wpAny_bind (wpAny_mono (turn n s hI) (fun r s₁ h₁ => ?_) fun _ _ h' => h')))
  cases r with
  | none => exact wpAny_pure h₁
  | some v =>
    refine wpAny_bind (wpAny_mono h₁ (fun _ s₁ h₁ => wpAny_bind (wpAny_mono h₁ (fun _ s₂ h₂ => wpAny_bind (wpAny_mono h₂ (fun ok s₃ h₃ => ?_) fun _ _ h' => h')) fun _ _ h' => h')) fun _ _ h' => h')
    cases ok with
    | true =>
      rw [if_pos rfl] at h₃
      simp only [if_true]
      exact wpAny_bind (wpAny_bind (wpAny_mono h₃ (fun x s₃ h₃ => wpAny_bind (wpAny_mono h₃ (fun _ s₄ h₄ => wpAny_pure (wpAny_pure ⟨rfl, h₄⟩)) fun _ _ h' => h')) fun _ _ h' => h'))
    | false =>
      rw [if_neg Bool.false_ne_true] at h₃
      simp only [Bool.false_eq_true, if_false]
      exact wpAny_bind (wpAny_pure (wpAny_pure ⟨rfl, h₃⟩))
theorem hG {elt target iter : Expr} {scope : Scope} {pos : Pos} {it acc : Value} {env : Env} (I : Nat → Shared → Prop)
    (turn : ∀ n s, I n s → wpAny (model prog w) A (pyNext it) (fun r s₁ => match r with
      | none => R (.ok .next) s₁
      | some v => wpAny (model prog w) A (letOwnedTupleGo target it v) (fun _ s₁ => wpAny (model prog w) A (assign target env v) (fun _ s₂ => wpAny (model prog w) A (eval elt env) (fun x s₃ =>
          wpAny (model prog w) A (call (.builtin "list.append") [acc, x]) (fun _ s₄ => ∃ m, m < n ∧ I m s₄) (notedBy (model prog w) A env fun e s' => R (.error e) s') s₃)
          (notedBy (model prog w) A env fun e s' => R (.error e) s') s₂) (notedBy (model prog w) A env fun e s' => R (.error e) s') s₁) (notedBy (model prog w) A env fun e s' => R (.error e) s') s₁) (notedBy (model prog w) A env fun e s' => R (.error e) s') s)
    (n : Nat) (h : I n s) :
    codeAny (model prog w) A (.compLoop (.ListComp elt [⟨target, iter, [], 0⟩] scope pos) 0 it acc env) R s := by
  refine codeAny_loop rfl I (fun n s hI => ?_) n h
  show wpAny _ _ ((compTurn (.ListComp elt [⟨target, iter, [], 0⟩] scope pos) 0 it acc env).onRaise (fun x => do noteFrame x env; theTreesLotGoes x)) _ _ s
  refine wpAny_noted ?_
  rw [compTurn_list1]
  refine wpAny_bind (wpAny_standAt (wpAny_bind (wpAny_mono (turn n s hI) (fun r s₁ h₁ => ?_) fun _ _ h' => h')))
  cases r with
  | none => exact wpAny_pure h₁
  | some v =>
    exact wpAny_bind (wpAny_mono h₁ (fun _ s₁ h₁ => wpAny_bind (wpAny_mono h₁ (fun _ s₂ h₂ => wpAny_bind (wpAny_bind (wpAny_mono h₂ (fun x s₃ h₃ => wpAny_bind (wpAny_mono h₃
      (fun _ s₄ h₄ => wpAny_pure (wpAny_pure ⟨rfl, h₄⟩)) fun _ _ h' => h')) fun _ _ h' => h'))) fun _ _ h' => h')) fun _ _ h' => h')
end
def vh (X : Cx) (ifs : List Expr) (tc : TT) : Prop := match ifs with
 | [] => tc = fun _ H Q => Q true H
 | [c] => PT X c tc
 | _ => False
section
variable {X : Cx}
theorem tO {scope : Scope} {ys : List Str} {is : List Nat} (h : fU X scope ys is) : is.length = ys.length := by
 induction h with
 | nil => rfl
 | cons _ _ _ _ ih => simp [ih]
theorem lH {scope : Scope} {ys : List Str} {is : List Nat} (h : fU X scope ys is) {y : Str} (hy : y ∈ ys) : X.env.kindOf y = some .cell ∨ X.env.kindOf y = some .free := by
  induction h with
  | nil => cases hy
  | cons _ h2 _ _ ih =>
    rcases List.mem_cons.mp hy with e | e
    · rw [e]; exact h2
    · exact ih e
theorem sY {elt iter : Expr} {ifs : List Expr} {x : Str} {px pos : Pos} {scope : Scope} {ys : List Str} {is : List Nat} {tc : TT} {te : TE} {pins : List (Addr × Obj)} {σ : St} {H2 : Hp} {s2 : Shared} {it : Addr} {fp : List Addr} {tn : Nat → Heap → Prop} {J : It} {E : Value → Shared → Prop} {Q : VK} {RR : Value → Addr → Result → Shared → Prop}
    (hc : X.calm = true) (S : fL scope x ys) (hcap : fU X scope ys is)
    (hif : ∀ C s H fp, vh (bq X scope C (x :: ys) s H fp) ifs tc) (he : ∀ C s H fp, PE (bq X scope C (x :: ys) s H fp) elt te)
    (I2 : Inv X pins σ H2 s2) (T : ik X.prog X.w X.K (.Name x px) J fp it tn) (st2 : tn 0 s2.heap) (f2 : ∀ b ∈ fp, gw X pins H2 b)
    (hW : ∀ D, H2 D = none → ∃ W : Nat → Nat → List V → Hp → Prop, (∃ m, W 0 m [] (upd H2 D (.lst []))) ∧
      ∀ i m ys H2, W i m ys H2 → (J.stop i H2 ∧ Q (.ref D) H2) ∨ (J.go i H2 ∧ ∀ x H3, J.yld i H2 x H3 → tc (some x :: bw σ is) H3 fun b H4 => if b = true then
        te (some x :: bw σ is) H4 fun y H5 => H5 D = some (.lst ys) ∧ ys.length < sizeLine ∧ ∃ m', m' < m ∧ W (i + 1) m' (ys ++ [y]) (upd H5 D (.lst (ys ++ [y])))
        else ∃ m', m' < m ∧ W (i + 1) m' ys H4))
    (hRR : ∀ D C H' s', (X.s₀.heap.objs.size ≤ C ∧ ∀ p ∈ X.pn ++ pins, p.1 ≠ C) → (∃ m, s'.heap.Ns C m) → C ≠ X.env.locals → H' C = none → Inv X pins σ H' s' → (∀ h', Heap.SameBut C s'.heap h' → Inv X pins σ H' { s' with heap := h' }) → Q (.ref D) H' → RR (.ref D) C (.ok .next) s') :
    wpAny (model X.prog X.w) X.A (newList []) (fun acc s₃ => wpAny (model X.prog X.w) X.A (newFunctionEnv scope X.env.globals (dc scope.names X.env.cells []) [] X.env.qual none .none (some X.env)) (fun cenv s₄ =>
      codeAny (model X.prog X.w) X.A (.compStart (.ListComp elt [⟨.Name x px, iter, ifs, 0⟩] scope pos) 0 (.ref it) acc { cenv with scope := relabel scope X.env }) (RR acc cenv.locals) s₄) E s₃) E s2 := by
  have hf2 : H2 s2.heap.objs.size = none := I2.fresh
  refine wpAny_newObj_type (wpAny_newFunctionEnv S.nocell (by intro y hy; simp at hy) (fun h₁ hns₁ hsb₁ => ?_) S.kind)
  dsimp only at hns₁ hsb₁ ⊢
  have I3 : Inv X pins σ (upd H2 s2.heap.objs.size (.lst [])) { s2 with heap := s2.heap.push { cls := .type "list", data := .seq ([] : List Value).toArray } } := I2.lnew (t' := s2.toks) (ys := []) .nil (Nat.zero_le _)
  obtain ⟨W, ⟨m0, w0⟩, turn⟩ := hW _ hf2
  generalize hD : s2.heap.objs.size = D at I3 w0 turn hf2 ⊢
  generalize hs3 : ({ s2 with heap := s2.heap.push { cls := .type "list", data := .seq ([] : List Value).toArray } } : Shared) = s3 at I3
  have hp3 : s2.heap.push { cls := .type "list", dict := none, data := .seq ([] : List Value).toArray } = s3.heap := by rw [← hs3]
  rw [hp3] at hns₁ hsb₁ ⊢
  have tk3 : s2.toks = s3.toks := by rw [← hs3]
  generalize hH3 : upd H2 D (.lst []) = H3 at I3 w0
  generalize hC : s3.heap.objs.size = C at hns₁ hsb₁ ⊢
  have keep2 : ∀ b o, s2.heap.get? b = some o → s3.heap.get? b = some o := fun b o e => by rw [← hp3]; exact Heap.get?_push_of_some _ e
  have keep3 : ∀ b o, s3.heap.get? b = some o → h₁.get? b = some o := fun b o e => hsb₁.extBut b o (by rw [← hC]; exact Nat.ne_of_lt (Heap.lt_size e)) (Heap.get?_push_of_some _ e)
  have st3 : tn 0 s3.heap := T.keep _ _ _ st2 fun b _ o e => keep2 b o e
  have st4 : tn 0 h₁ := T.keep _ _ _ st3 fun b _ o e => keep3 b o e
  have fp3 : ∀ b ∈ fp, H3 b = none ∧ b < C := fun b hb => by
    obtain ⟨o, e, _⟩ := T.obj _ _ st2 b hb
    refine ⟨?_, by rw [← hC]; exact Heap.lt_size (keep2 b o e)⟩
    rw [← hH3, ak (by rw [← hD]; exact Nat.ne_of_lt (Heap.lt_size e))]
    exact (f2 b hb).1
  have hcells : ∀ {z : Str} {c : Addr}, (dc scope.names X.env.cells []).lookup z = some c → X.env.cells.lookup z = some c := fun h => lG (fun _ _ q => by cases q) h
  have hX : (bq X scope C (x :: ys) s3 H3 fp).Ok := by
    refine ⟨I3.ok.mod, S.kind, I3.ok.glob, I3.ok.blt, Nat.le_of_eq hC, fun y z c h1 h2 => I3.ok.inj y z c (hcells h1) (hcells h2), fun y hy => ?_, fun y c h _ => absurd (show false = true from h) Bool.false_ne_true, I3.ok.hd, I3.ok.frames, .inl rfl, fun b hb => ⟨Nat.ne_of_lt (fp3 b hb).2, fun y c h => (f2 b hb).2.2.2.2.1 y c (hcells h)⟩, fun b o e => I3.bs b o e, Nat.le_trans I3.ok.bsz I3.sz, fun b o e hb => ?_, fun b hb z => ?_, I3.stack, I3.stkFree⟩
    · have hy : (relabel scope X.env).names.lookup y = some .cell ∨ (relabel scope X.env).names.lookup y = some .free := hy
      have hm : (y, NameKind.free) ∈ scope.names := by
        rcases hy with q | q
        · exact gc S.nocell q (.inl rfl)
        · exact gc S.nocell q (.inr rfl)
      have hs : ∃ c, X.env.cells.lookup y = some c := by
        by_cases hk : X.env.kindOf y = some .cell ∨ X.env.kindOf y = some .free
        · exact I3.ok.has y hk
        · exact absurd (lH hcap (S.all _ hm rfl)) hk
      exact Option.isSome_iff_exists.mp (ij hm (Option.isSome_iff_exists.mpr hs))
    · rcases (f2 b hb).2.2.2.1 with z | z
      · exact I3.ok.noex b o e z
      · exact absurd (Nat.lt_of_lt_of_le (Heap.lt_size e) (Nat.le_trans I3.ok.bsz z)) (Nat.lt_irrefl _)
    · rcases List.mem_cons.mp (I3.stkSub b z) with q | q
      · exact (f2 b hb).2.1 q
      · exact (f2 b hb).2.2.1 q
  have I4 : Inv (bq X scope C (x :: ys) s3 H3 fp) [] (none :: bw σ is) H3 { s2 with heap := h₁, toks := s2.toks + ([] : List (Str × Value)).length } := by
    obtain ⟨m3, hm3, hl3⟩ := id I3.loc
    refine ⟨hX, ?_, ?_, Un.kept keep3, ⟨_, hns₁, fun i y v e1 e2 e3 => ?_⟩, fun y c e => ?_, ?_, fun y c e => I3.freeC y c (hcells e), fun p hp => absurd (show p ∈ ([] : List (Addr × Obj)) from hp) (by simp), I3.hok.kept keep3, ?_⟩
    · show s2.os = s3.os
      rw [← hs3]
    · have := I2.bare; exact this
    · cases i with
      | zero => simp at e2
      | succ j =>
        obtain ⟨u, r, hfr, c, ec, ic⟩ := sS hcap hl3 trivial j y v (by have e1' : (x :: ys)[j + 1]? = some y := e1; simpa using e1') (by simpa using e2)
        have hk := nw (env := X.env) hfr
        obtain ⟨c', ec'⟩ := Option.isSome_iff_exists.mp (ij (cs := []) (jL hfr) (by rw [ec]; rfl) (cells := X.env.cells))
        have : c' = c := by have := hcells ec'; rw [ec] at this; exact (Option.some.inj this).symm
        subst this
        obtain ⟨o, ho, hd⟩ := ic
        exact ⟨u, r, .inr ⟨hk, c', ec', o, keep3 _ _ ho, hd⟩⟩
    · obtain ⟨v, o, ho, hd⟩ := I3.cell y c (hcells e)
      exact ⟨v, o, keep3 _ _ ho, hd⟩
    · have := I3.hok.fresh (a := C) (Nat.le_of_eq hC)
      exact this
    · have := tO hcap
      show (none :: bw σ is).length = (x :: ys).length
      simp [bw, this]
  have lenσ : ∀ v : Option V, (v :: bw σ is).set 0 = fun w => w :: bw σ is := fun v => rfl
  have hown : (relabel scope X.env).names.lookup x = some .local := lK S.own
  have loop : codeAny (model X.prog X.w) X.A (.compLoop (.ListComp elt [⟨.Name x px, iter, ifs, 0⟩] scope pos) 0 (.ref it) (.ref D) (compEnvC scope (dc scope.names X.env.cells []) C X.env)) (RR (.ref D) C)
      { s2 with heap := h₁, toks := s2.toks + ([] : List (Str × Value)).length } := by
    have fin : ∀ {H' : Hp} {v : Option V} {s' : Shared}, Inv (bq X scope C (x :: ys) s3 H3 fp) [] (v :: bw σ is) H' s' → Q (.ref D) H' → RR (.ref D) C (.ok .next) s' := fun {H' v s'} J q => by
      obtain ⟨m', hm', _⟩ := J.loc
      have hCL : C ≠ X.env.locals := Ne.symm (by rw [← hC]; exact Nat.ne_of_lt I3.lt)
      have back : ∀ h', Heap.SameBut C s'.heap h' → Inv X pins σ H' { s' with heap := h' } := fun h' hs' => by
        have os' : s'.os = s3.os := J.os
        refine I3.call' (s' := { s' with heap := h' }) (ch := fp) os' ⟨fun b o e n hb hx => ?_, fun b o e n hb hx => ?_, fun b o e n hx => J.base.free b o e n hx, fun b o e hx => ?_, J.base.tups, J.base.frzs, J.base.tbls⟩ (fun b o e => ?_) J.bare fun b hb => ?_
        · exact hs'.extBut b o (by rw [← hC]; exact Nat.ne_of_lt (Heap.lt_size e)) (J.base.keep b o e n hb hx)
        · obtain ⟨sl, e1⟩ := J.base.slot b o e n hb hx
          exact ⟨sl, hs'.extBut b _ (by rw [← hC]; exact Nat.ne_of_lt (Heap.lt_size e)) e1⟩
        · obtain ⟨o', e1⟩ := J.base.there b o e hx
          exact ⟨o', hs'.extBut b _ (by rw [← hC]; exact Nat.ne_of_lt (Heap.lt_size e)) e1⟩
        · refine (J.hok b o e).stay (fun c w' hc q => (hs'.2 c ?_).trans q) (fun _ q => q) fun _ _ q => q
          have fC : H' C = none := J.free
          rintro rfl
          rcases hc with rfl | hc
          · rw [fC] at e; cases e
          · rw [fC] at hc; cases hc
        · obtain ⟨_, a1, _, a2, a3, a4⟩ := f2 b hb
          exact ⟨a2, a1, a3, a4⟩
      refine hRR D C H' s' ⟨by rw [← hC]; exact I3.sz, fun p hp => by rw [← hC]; exact Nat.ne_of_lt (Heap.lt_size (I3.pin p hp).1)⟩ ⟨m', hm'⟩ hCL J.free ?_ back q
      have := back s'.heap (.refl ..)
      exact this
    have stat : ∀ {H' : Hp}, (∀ b ∈ fp, H' b = none) → ∀ b ∈ fp, gw (bq X scope C (x :: ys) s3 H3 fp) [] H' b := fun hn b hb => by
      obtain ⟨_, a1, a5, a2, a3, a4⟩ := f2 b hb
      refine ⟨hn b hb, Nat.ne_of_lt (fp3 b hb).2, fun z => ?_, .inl hb, fun y c e => a3 y c (hcells e), fun p hp => absurd (show p ∈ ([] : List (Addr × Obj)) from hp) (by simp)⟩
      rcases List.mem_cons.mp (I3.stkSub b z) with q | q
      · exact a1 q
      · exact a5 q
    have turnAt : ∀ n s, (∃ i v ys' H', Inv (bq X scope C (x :: ys) s3 H3 fp) [] (v :: bw σ is) H' s ∧ tn i s.heap ∧ (∀ b ∈ fp, H' b = none) ∧ W i n ys' H') →
        wpAny (model X.prog X.w) X.A (pyNext (.ref it)) (fun r s₁ => match r with
          | none => RR (.ref D) C (.ok .next) s₁
          | some u => wpAny (model X.prog X.w) X.A (letOwnedTupleGo (.Name x px) (.ref it) u) (fun _ s₁ => wpAny (model X.prog X.w) X.A (assign (.Name x px) (compEnvC scope (dc scope.names X.env.cells []) C X.env) u) (fun _ s₂ =>
            ∃ (xx : V) (i : Nat) (ys' : List V) (H3' H6 : Hp) (pl : List (Addr × Obj)), Inv (bq X scope C (x :: ys) s3 H3 fp) ([] ++ pl) (some xx :: bw σ is) H6 s₂ ∧
              (∀ s7 v7 H7, Inv (bq X scope C (x :: ys) s3 H3 fp) ([] ++ pl) (v7 :: bw σ is) H7 s7 → Inv (bq X scope C (x :: ys) s3 H3 fp) [] (v7 :: bw σ is) H7 s7 ∧ tn (i + 1) s7.heap ∧ ∀ b ∈ fp, H7 b = none) ∧
              (tc (some xx :: bw σ is) H6 fun b H4 => if b = true then te (some xx :: bw σ is) H4 fun y H5 => H5 D = some (.lst ys') ∧ ys'.length < sizeLine ∧ ∃ m', m' < n ∧ W (i + 1) m' (ys' ++ [y]) (upd H5 D (.lst (ys' ++ [y])))
                else ∃ m', m' < n ∧ W (i + 1) m' ys' H4)) (fun _ _ => False) s₁) (fun _ _ => False) s₁) (fun _ _ => False) s := by
      rintro n s ⟨i, v, ys', H', J, st, fr, w'⟩
      rcases turn i n ys' H' w' with ⟨stop, qn⟩ | ⟨go, step⟩
      · refine thn (T.done (bq X scope C (x :: ys) s3 H3 fp) rfl rfl rfl hc i [] s _ H' (fun _ _ => False) J (stat fr) st stop) fun r s4 ⟨hr, J4⟩ => ?_
        subst hr
        exact fin J4 qn
      · refine thn (T.item (bq X scope C (x :: ys) s3 H3 fp) rfl rfl rfl hc i [] s _ H' (fun _ _ => False) J (stat fr) st go) fun r s4 ⟨u, hr, h4⟩ => ?_
        subst hr
        refine thn h4 fun _ s5 ⟨xx, H5, J5, r5, y5, st5, fr5⟩ => ?_
        have J5' := J5.pinned (stat fr5) (T.obj _ _ st5)
        refine wpAny_assign_Name (eK (i := 0) J5' S.nd rfl (.inl hown) r5 (fun s6 J6 => ?_) (.inr hown))
        refine ⟨xx, i, ys', H5, H5, iG fp s5.heap, J6, fun s7 v7 H7 J7 => ⟨J7.unpinned, T.keep _ _ _ st5 fun b hb o e => (J7.pin (b, o) (List.mem_append_right _ (List.mem_append_right _ (fk hb e)))).1, fun b hb => ?_⟩, step xx H5 y5⟩
        obtain ⟨o, e, d⟩ := T.obj _ _ st5 b hb
        exact (J7.pin (b, o) (List.mem_append_right _ (List.mem_append_right _ (fk hb e)))).2.1
    have start0 : ∃ i v ys' H', Inv (bq X scope C (x :: ys) s3 H3 fp) [] (v :: bw σ is) H' { s2 with heap := h₁, toks := s2.toks + ([] : List (Str × Value)).length } ∧ tn i h₁ ∧ (∀ b ∈ fp, H' b = none) ∧ W i m0 ys' H' :=
      ⟨0, none, [], H3, I4, st4, fun b hb => (fp3 b hb).1, w0⟩
    have emit : ∀ (n : Nat) (xx : V) (i : Nat) (ys' : List V) (H4 : Hp) (pl : List (Addr × Obj)) (s₂ : Shared), Inv (bq X scope C (x :: ys) s3 H3 fp) ([] ++ pl) (some xx :: bw σ is) H4 s₂ →
        (∀ s7 v7 H7, Inv (bq X scope C (x :: ys) s3 H3 fp) ([] ++ pl) (v7 :: bw σ is) H7 s7 → Inv (bq X scope C (x :: ys) s3 H3 fp) [] (v7 :: bw σ is) H7 s7 ∧ tn (i + 1) s7.heap ∧ ∀ b ∈ fp, H7 b = none) →
        (te (some xx :: bw σ is) H4 fun y H5 => H5 D = some (.lst ys') ∧ ys'.length < sizeLine ∧ ∃ m', m' < n ∧ W (i + 1) m' (ys' ++ [y]) (upd H5 D (.lst (ys' ++ [y])))) →
        wpAny (model X.prog X.w) X.A (eval elt (compEnvC scope (dc scope.names X.env.cells []) C X.env)) (fun y s₃ => wpAny (model X.prog X.w) X.A (call (.builtin "list.append") [.ref D, y]) (fun _ s₄ =>
          ∃ m, m < n ∧ ∃ i v ys' H', Inv (bq X scope C (x :: ys) s3 H3 fp) [] (v :: bw σ is) H' s₄ ∧ tn i s₄.heap ∧ (∀ b ∈ fp, H' b = none) ∧ W i m ys' H') (fun _ _ => False) s₃) (fun _ _ => False) s₂ := by
      intro n xx i ys' H4 pl s₂ J2 back q
      refine thn (he C s3 H3 fp ([] ++ pl) s₂ _ H4 _ J2 q) fun y s₃ ⟨yv, H5, J3, r3, q1, q2, q3⟩ => ?_
      refine thn (bu (X := bq X scope C (x :: ys) s3 H3 fp) ([] ++ pl) s₃ _ H5 (.ref D) [yv] (.ref D) [y] (fun v H7 => v = .non ∧ H7 = upd H5 D (.lst (ys' ++ [yv]))) J3 rfl (.cons r3 .nil) ⟨D, ys', yv, rfl, rfl, q1, q2, rfl, rfl⟩) fun _ s₄ ⟨_, H7, J4, _, _, e7⟩ => ?_
      subst e7
      obtain ⟨m', hm', w'⟩ := q3
      obtain ⟨b1, b2, b3⟩ := back s₄ _ _ J4
      exact ⟨m', hm', i + 1, some xx, ys' ++ [yv], _, b1, b2, b3, w'⟩
    have ex0 : ∀ {α : Type} {t : Sem α} {Q' : α → Shared → Prop} {E' : Value → Shared → Prop} {s : Shared}, wpAny (model X.prog X.w) X.A t Q' (fun _ _ => False) s → wpAny (model X.prog X.w) X.A t Q' E' s := fun h => wpAny_mono h (fun _ _ q => q) fun _ _ q => q.elim
    cases ifs with
    | nil =>
      have htc : tc = fun _ H Q => Q true H := hif C s3 H3 fp
      subst htc
      refine hG (fun n s => ∃ i v ys' H', Inv (bq X scope C (x :: ys) s3 H3 fp) [] (v :: bw σ is) H' s ∧ tn i s.heap ∧ (∀ b ∈ fp, H' b = none) ∧ W i n ys' H') (fun n s hI => ?_) m0 start0
      refine wpAny_mono (turnAt n s hI) (fun r s₁ h₁ => ?_) fun _ _ q => q.elim
      cases r with
      | none => exact h₁
      | some u =>
        refine wpAny_mono h₁ (fun _ s₁ h₁ => wpAny_mono h₁ (fun _ s₂ h₂ => ?_) fun _ _ q => q.elim) fun _ _ q => q.elim
        obtain ⟨xx, i, ys', _, H6, pl, J2, back, q⟩ := h₂
        dsimp only at q
        rw [if_pos rfl] at q
        exact wpAny_mono (emit n xx i ys' H6 pl s₂ J2 back q) (fun y s₃ h₃ => ex0 h₃) fun _ _ q => q.elim
    | cons c r0 =>
      cases r0 with
      | cons _ _ => exact (hif C s3 H3 fp).elim
      | nil =>
        have hpt : PT (bq X scope C (x :: ys) s3 H3 fp) c tc := hif C s3 H3 fp
        refine hJ (fun n s => ∃ i v ys' H', Inv (bq X scope C (x :: ys) s3 H3 fp) [] (v :: bw σ is) H' s ∧ tn i s.heap ∧ (∀ b ∈ fp, H' b = none) ∧ W i n ys' H') (fun n s hI => ?_) m0 start0
        refine wpAny_mono (turnAt n s hI) (fun r s₁ h₁ => ?_) fun _ _ q => q.elim
        cases r with
        | none => exact h₁
        | some u =>
          refine wpAny_mono h₁ (fun _ s₁ h₁ => wpAny_mono h₁ (fun _ s₂ h₂ => ?_) fun _ _ q => q.elim) fun _ _ q => q.elim
          obtain ⟨xx, i, ys', _, H6, pl, J2, back, q⟩ := h₂
          refine wpAny_mono (hpt ([] ++ pl) s₂ _ H6 _ J2 q) (fun b s₃ h₃ => ?_) fun _ _ q => q.elim
          obtain ⟨H4, J4, q4⟩ := h₃
          cases b with
          | true =>
            rw [if_pos rfl] at q4 ⊢
            exact wpAny_mono (emit n xx i ys' H4 pl s₃ J4 back q4) (fun y s₃ h₃ => ex0 h₃) fun _ _ q => q.elim
          | false =>
            rw [if_neg Bool.false_ne_true] at q4 ⊢
            obtain ⟨m', hm', w'⟩ := q4
            obtain ⟨b1, b2, b3⟩ := back s₃ _ _ J4
            exact ⟨m', hm', i + 1, some xx, ys', _, b1, b2, b3, w'⟩
  exact codeAny_compStart_list loop (T.self X.A 0 _ _ _ st4 loop)
end
end L2
namespace L2
open PySem PySem.Spec PyProof.Rows
section
variable {X : Cx}
theorem xb {scope : Scope} {x : Str} {ys : List Str} {is : List Nat} (ok : X.Ok) (S : fL scope x ys) (hcap : fU X scope ys is) : closureFor scope X.env = pure (dc scope.names X.env.cells []) :=
 nP fun y hy hk => by
  obtain ⟨c, e⟩ := ok.has y.1 (lH hcap (S.all y hy hk))
  rw [e]; rfl
theorem xq {elt iter : Expr} {ifs : List Expr} {x : Str} {px pos : Pos} {scope : Scope} {ys : List Str} {is : List Nat} {wi : TI} {tc : TT} {te : TE}
  (hc : X.calm = true) (S : fL scope x ys) (hcap : fU X scope ys is) (hi : PI X (.Name x px) iter wi)
  (hif : ∀ C s H fp, vh (bq X scope C (x :: ys) s H fp) ifs tc) (he : ∀ C s H fp, PE (bq X scope C (x :: ys) s H fp) elt te)
  (hs : ∀ x, foldedSetIterable iter X.env x = pure x := by intro _; rfl) : PE X (.ListComp elt [⟨.Name x px, iter, ifs, 0⟩] scope pos) (fq is wi tc te) := by
 intro pins s σ H Q I h
 rw [eval_ListComp]
 refine wpAny_comprehension_free (use := none) rfl hs (xb I.ok S hcap) S.kind S.names (thn (hi pins s σ H _ I h) fun v s1 h1 => thn h1 fun itv s2 h2 => ?_)
 obtain ⟨it, fp, tn, J, H2, rfl, I2, T, st2, f2, hW⟩ := h2
 refine sY (RR := fun acc C => compPost (model X.prog X.w) X.A X.xe none (EP X pins σ Q) acc C) hc S hcap hif he I2 T st2 f2 hW ?_
 intro D C H' s' hlt hns hne hfr I' back q
 obtain ⟨m, hm⟩ := hns
 exact ⟨m, hm, fun h' hs' => ⟨.ref D, H', back h' hs', rfl, q⟩⟩
end
end L2
namespace L2
open PySem PySem.Spec PyProof.Rows
def tyN (H : Hp) : V → Option String
  | .non => some "NoneType"
  | .bl _ => some "bool"
  | .int _ => some "int"
  | .str _ => some "str"
  | .ref a => match H a with
    | some (.lst _) => some "list"
    | some (.frz _ (.lst _)) => some "list"
    | some (.tup _) => some "tuple"
    | some (.dK _) => some "dict"
    | some (.dT _) => some "dict"
    | _ => none
  | _ => none
theorem zh {K : W.Frag} {H : Hp} {x : V} {t : String} (h : tyN H x = some t) : eL K H x (.type t) := by
  cases x with
  | non => cases h; exact .non
  | bl b => cases h; exact .bl b
  | int i => cases h; exact .int i
  | str x => cases h; exact .str x
  | byt _ => cases h
  | flt _ => cases h
  | ty _ => cases h
  | ref a =>
    unfold tyN at h
    dsimp only at h
    split at h
    · rename_i e; cases h; exact .lst e
    · rename_i e; cases h; exact .frz e
    · rename_i e; cases h; exact .tup e
    · rename_i e; cases h; exact .dK e
    · rename_i e; cases h; exact .dT e
    · cases h
def tyL : List String := ["NoneType", "bool", "int", "str", "list", "tuple", "dict"]
theorem zx {H : Hp} {x : V} {t : String} (h : tyN H x = some t) : t ∈ tyL := by
  cases x with
  | non => cases h; decide
  | bl b => cases h; decide
  | int i => cases h; decide
  | str x => cases h; decide
  | byt _ => cases h
  | flt _ => cases h
  | ty _ => cases h
  | ref a =>
    unfold tyN at h
    dsimp only at h
    split at h <;> first | (cases h; decide) | cases h
def isI (t T : String) : Bool := t == T || (T == "int" && t == "bool")
theorem Ax (K : W.Frag) : ∀ t ∈ tyL, ∀ T ∈ ["int", "bool", "str", "tuple", "list", "dict"], W.kitOne K (.type t) (.type T) = some (isI t T) := by
 intro t ht T hT
 simp only [tyL, List.mem_cons, List.not_mem_nil, or_false] at ht hT
 rcases ht with rfl | rfl | rfl | rfl | rfl | rfl | rfl <;> rcases hT with rfl | rfl | rfl | rfl | rfl | rfl <;> (unfold W.kitOne; first | rfl | decide +kernel | (simp only [W.kitCls]; rfl))
section
variable {X : Cx}
theorem uI : bM X (.builtin "isinstance") (fun xs H Q => ∃ x T t, xs = [x, .ty T] ∧ T ∈ ["int", "bool", "str", "tuple", "list", "dict"] ∧ tyN H x = some t ∧ Q (.bl (isI t T)) H) := by
 intro pins s σ H xs us Q I r h
 obtain ⟨x, T, t, rfl, hT, ht, q⟩ := h
 obtain ⟨u, w', rfl, r1, r2⟩ := mh r
 cases r2
 exact sg I r1 (zh ht) (Ax X.K t (zx ht) T hT) fun tk => ⟨.bl _, H, I.tok tk, rfl, q⟩
end
end L2
namespace L2
open PySem PySem.Spec PyProof.Rows
section
variable {X : Cx}
theorem pc : ∀ {bs : List Bool} {us : List Value}, aK (bs.map V.bl) us → us = bs.map Value.bool
  | [], _, .nil => rfl
  | b :: bs, _, .cons r t => by
    have e : _ = Value.bool b := r
    rw [pc t, List.map_cons, e]
theorem sw (bs : List Bool) : (List.range bs.length).all (fun i => bs.getD i false) = bs.all id := by
 rw [Bool.eq_iff_iff, List.all_eq_true, List.all_eq_true]
 constructor
 · intro h b hb
   obtain ⟨i, hi, e⟩ := List.mem_iff_getElem.mp hb
   have := h i (List.mem_range.mpr hi)
   simp only [List.getD_eq_getElem?_getD, List.getElem?_eq_getElem hi, Option.getD_some] at this
   rw [← e]; exact this
 · intro h i hi
   have hi := List.mem_range.mp hi
   simp only [List.getD_eq_getElem?_getD, List.getElem?_eq_getElem hi, Option.getD_some]
   exact h _ (List.getElem_mem hi)
theorem oh {prog : Program} {w : World} {A : Around} {bs : List Bool} : TruthOf prog w A (fun i v => (bs.map Value.bool).toArray[i]? = some v) (fun i => bs.getD i false) := by
  intro i v s Q E hP hQ
  have hP : (bs.map Value.bool)[i]? = some v := by simpa using hP
  rw [List.getElem?_map] at hP
  cases e : bs[i]? with
  | none => rw [e] at hP; cases hP
  | some b =>
    rw [e] at hP
    cases hP
    have hQ' : Q b s := by
      have e2 : bs.getD i false = b := by rw [List.getD_eq_getElem?_getD, e]; rfl
      have hQ2 : Q (bs.getD i false) s := hQ
      rw [e2] at hQ2; exact hQ2
    exact wpAny_of_eq (a := b) rfl hQ'
theorem vx (hc : X.calm = true) : bM X (.builtin "all") (fun xs H Q => ∃ (a : Addr) (bs : List Bool), xs = [.ref a] ∧ H a = some (.lst (bs.map V.bl)) ∧ Q (.bl (bs.all id)) H) := by
 intro pins s σ H xs us Q I r h
 obtain ⟨a, bs, rfl, hH, q⟩ := h
 obtain ⟨u, rfl, ru⟩ := fh r
 cases ru
 obtain ⟨z, its, n, rv, e⟩ := I.hok a _ hH
 have ei := pc rv
 subst ei
 have hl : s.heap.IsList a (bs.map Value.bool).toArray := ⟨_, e, rfl, _, rfl⟩
 refine call_all_walk (wpAny_pyIter_list hl ?_)
 have hne : a ≠ s.heap.objs.size := Nat.ne_of_lt (Heap.lt_size e)
 refine ⟨s.heap.objs.size, _, _, _, _, _, _, rfl, Walks.list (by show X.A.handled = none; exact I.ok.hd hc) _ a hne (bs.map Value.bool).toArray, ⟨⟨_, Heap.get?_push_size _ rfl, rfl, rfl⟩, ⟨_, Heap.get?_push_of_some _ e, rfl, _, rfl⟩⟩, oh, fun h' tk hk => ?_⟩
 have e2 : ((bs.map Value.bool).toArray).size = bs.length := by simp
 rw [e2, sw]
 refine ⟨.bl _, H, I.kept (t' := tk) fun b o hb => hk b o ?_ (Heap.get?_push_of_some _ hb), rfl, q⟩
 intro z
 have : b = s.heap.objs.size := by simpa using z
 rw [this] at hb
 exact absurd (Heap.lt_size hb) (Nat.lt_irrefl _)
theorem pG : ∀ {xs : List Str} {us : List Value}, aK (xs.map V.str) us → StrsAre us xs
  | [], _, .nil => .nil
  | x :: xs, _, .cons r t => by
    obtain ⟨tk, e⟩ := (show ∃ t, _ = Value.str x t from r)
    rw [e]
    exact .cons _ _ (pG t)
def lW : V → List V → Hp → VK → Prop := fun x vs H Q => ∃ (z : Str) (a : Addr) (xs : List Str), x = .str z ∧ vs = [.ref a] ∧ H a = some (.lst (xs.map V.str)) ∧ (xs.map (·.length)).sum + xs.length * z.length ≤ 16777216 ∧ Q (.str (Txt.join z xs)) H
theorem pI : MtM X "str.join" lW := by
 intro pins s σ H x vs v us Q I rx rv h
 obtain ⟨z, a, xs, rfl, rfl, hH, hz, q⟩ := h
 obtain ⟨t, rfl⟩ := (show ∃ t, v = Value.str z t from rx)
 obtain ⟨u, rfl, ru⟩ := rv.one
 cases ru
 obtain ⟨_, its, n, rv, e⟩ := I.hok a _ hH
 refine join_list (items := its.toArray) ⟨_, e, rfl, _, rfl⟩ (by simpa using pG rv) hz fun t' k => ⟨.str _, H, I.tok k, ⟨_, rfl⟩, q⟩
end
end L2
namespace L2
open PySem PySem.Spec PyProof.Rows
@[irreducible] def Sel (b : Bool) (A B : Prop) : Prop := if b = true then A else B
theorem Sel.mk {b : Bool} {A B : Prop} (h1 : b = true → A) (h2 : b = false → B) : Sel b A B := by
 unfold Sel
 cases b with
 | true => exact h1 rfl
 | false => exact h2 rfl
theorem Sel.t {A B : Prop} (h : A) : Sel true A B := .mk (fun _ => h) fun e => by cases e
theorem Sel.f {A B : Prop} (h : B) : Sel false A B := .mk (fun e => by cases e) fun _ => h
theorem Sel.dec {p A B : Prop} [Decidable p] (h1 : p → A) (h2 : ¬ p → B) : Sel (decide p) A B := .mk (fun e => h1 (of_decide_eq_true e)) fun e => h2 (of_decide_eq_false e)
theorem Sel.ndec {p A B : Prop} [Decidable p] (h1 : ¬ p → A) (h2 : p → B) : Sel (!decide p) A B := .mk (fun e => h1 (by simpa using e)) fun e => h2 (by simpa using e)
theorem Sel.yes {b : Bool} {A B : Prop} (e : b = true) (h : A) : Sel b A B := by rw [e]; exact .t h
theorem Sel.no {b : Bool} {A B : Prop} (e : b = false) (h : B) : Sel b A B := by rw [e]; exact .f h
theorem dm {b : Bool} {A B : Prop} (h : Sel b A B) : if b = true then A else B := by unfold Sel at h; exact h
def ac (i : Nat) : TE := fun σ H Q => match σ[i]? with | some (some v) => Q v H | _ => False
section
variable {X : Cx}
theorem PE.imp {e : Expr} {t t' : TE} (h : PE X e t) (i : ∀ σ H Q, t' σ H Q → t σ H Q) : PE X e t' := fun pins s σ H Q I q => h pins s σ H Q I (i _ _ _ q)
theorem OpR.imp {f : Value → Value → Sem Value} {r r' : R2} (h : OpR X f r) (i : ∀ x y H Q, r' x y H Q → r x y H Q) : OpR X f r' := fun pins s σ H x y v u Q I rx ry q => h pins s σ H x y v u Q I rx ry (i _ _ _ _ q)
theorem qv (i : Nat) {x : Str} {pos : Pos} (hN : X.N[i]? = some x := by rfl) (hv : Vis X.env.scope x := by first | exact Or.inl rfl | exact Or.inr (Or.inl rfl) | exact Or.inr (Or.inr rfl)) (hd : (x == ("__debug__" : Str)) = false := by decide)
   (hcd : (x == ("__classdict__" : Str)) = false := by decide) : PE X (.Name x pos) (ac i) := (zq hN hv hd hcd).imp fun σ H Q q => by
 unfold ac at q
 split at q
 · rename_i v e; exact ⟨v, e, q⟩
 · exact q.elim
theorem qgi {x : Str} {i : Int} {pos : Pos} (hm : ∃ t, X.mg x = some (.int i t)) (hg : Gl X x := by rfl) (hd : (x == ("__debug__" : Str)) = false := by decide) : PE X (.Name x pos) (tC (.int i)) := by
 obtain ⟨t, e⟩ := hm
 exact xG hg e ⟨t, rfl⟩ hd
def dz : R2 := fun x y H Q => match x, y with | .int i, .int j => Q (.int (i - j)) H | _, _ => False
theorem dQ : OpR X (binaryOp .Sub) dz := Aj.imp fun x y H Q q => by
 unfold dz at q
 split at q
 · exact ⟨_, _, rfl, rfl, q⟩
 · exact q.elim
theorem xL : OpR X (binaryOp .Mult) (rI IntMulOk fun i j => .int (i * j)) := opI fun _ _ _ _ _ _ _ hc q => mul_int q hc
def vy : R2 := fun x y H Q => match x, y with
 | .int i, .int j => IntMulOk i j ∧ Q (.int (i * j)) H
 | _, _ => False
theorem En : OpR X (binaryOp .Mult) vy := xL.imp fun x y H Q q => by
 unfold vy at q
 split at q
 · exact ⟨_, _, rfl, rfl, q.1, q.2⟩
 · exact q.elim
def bG : R2 := fun x y H Q => match x, y with | .int i, .int j => 0 < j ∧ Q (.int (i % j)) H | _, _ => False
theorem cj : OpR X (binaryOp .Mod) bG := AQ.imp fun x y H Q q => by
 unfold bG at q
 split at q
 · exact ⟨_, _, rfl, rfl, q.1, q.2⟩
 · exact q.elim
def nn : R2 := fun x y H Q => match x, y with | .int i, .int j => (0 ≤ j ∧ j ≤ 1000000 ∧ i.natAbs < 2 ^ 64) ∧ Q (.int (i ^ j.toNat)) H | _, _ => False
theorem vf : OpR X (binaryOp .Pow) nn := ze.imp fun x y H Q q => by
 unfold nn at q
 split at q
 · exact ⟨_, _, rfl, rfl, q.1, q.2⟩
 · exact q.elim
def jz : R2 := fun x y H Q => match x, y with | .int i, .int j => (0 ≤ j ∧ j ≤ 1000000 ∧ i.natAbs < 2 ^ 64) ∧ Q (.int (i * 2 ^ j.toNat)) H | _, _ => False
theorem nF : OpR X (binaryOp .LShift) jz := zu.imp fun x y H Q q => by
 unfold jz at q
 split at q
 · exact ⟨_, _, rfl, rfl, q.1, q.2⟩
 · exact q.elim
def mLt : R2 := fun x y H Q => match x, y with | .int i, .int j => Q (.bl (decide (i < j))) H | _, _ => False
theorem oLt : OpR X (compareOp .Lt) mLt := CJ.imp fun x y H Q q => by
 unfold mLt at q
 split at q
 · exact ⟨_, _, rfl, rfl, q⟩
 · exact q.elim
def mLe : R2 := fun x y H Q => match x, y with | .int i, .int j => Q (.bl (decide (i ≤ j))) H | _, _ => False
theorem oLe : OpR X (compareOp .LtE) mLe := CC.imp fun x y H Q q => by
 unfold mLe at q
 split at q
 · exact ⟨_, _, rfl, rfl, q⟩
 · exact q.elim
def mGt : R2 := fun x y H Q => match x, y with | .int i, .int j => Q (.bl (decide (j < i))) H | _, _ => False
theorem oGt : OpR X (compareOp .Gt) mGt := Ce.imp fun x y H Q q => by
 unfold mGt at q
 split at q
 · exact ⟨_, _, rfl, rfl, q⟩
 · exact q.elim
def mGe : R2 := fun x y H Q => match x, y with | .int i, .int j => Q (.bl (decide (j ≤ i))) H | _, _ => False
theorem oGe : OpR X (compareOp .GtE) mGe := Cj.imp fun x y H Q q => by
 unfold mGe at q
 split at q
 · exact ⟨_, _, rfl, rfl, q⟩
 · exact q.elim
def mEq : R2 := fun x y H Q => match x, y with
 | .int i, .int j => Q (.bl (decide (i = j))) H
 | .str i, .str j => Q (.bl (decide (i = j))) H
 | .bl i, .bl j => Q (.bl (decide (i = j))) H
 | .non, .non => Q (.bl true) H
 | .non, .int _ => Q (.bl false) H | .int _, .non => Q (.bl false) H | .non, .bl _ => Q (.bl false) H | .bl _, .non => Q (.bl false) H | .non, .str _ => Q (.bl false) H | .str _, .non => Q (.bl false) H
 | .int _, .str _ => Q (.bl false) H | .str _, .int _ => Q (.bl false) H | .bl _, .str _ => Q (.bl false) H | .str _, .bl _ => Q (.bl false) H
 | _, _ => False
theorem im {α : Type} [DecidableEq α] {f : α → V} (hf : ∀ a b, f a = f b → a = b) (a b : α) : decide (f a = f b) = decide (a = b) := by
 by_cases h : a = b
 · subst h; simp
 · rw [decide_eq_false h, decide_eq_false fun e => h (hf a b e)]
theorem oEq : OpR X (compareOp .Eq) mEq := Ba.imp fun x y H Q q => by
 unfold mEq at q
 split at q
 · exact ⟨rfl, by rw [im (f := V.int) fun _ _ e => V.int.inj e]; exact q⟩
 · exact ⟨rfl, by rw [im (f := V.str) fun _ _ e => V.str.inj e]; exact q⟩
 · exact ⟨rfl, by rw [im (f := V.bl) fun _ _ e => V.bl.inj e]; exact q⟩
 · exact ⟨rfl, by simpa using q⟩
 all_goals first | exact q.elim | exact ⟨rfl, q⟩
def mNe : R2 := fun x y H Q => match x, y with
 | .int i, .int j => Q (.bl (!decide (i = j))) H
 | .str i, .str j => Q (.bl (!decide (i = j))) H
 | .bl i, .bl j => Q (.bl (!decide (i = j))) H
 | .non, .non => Q (.bl false) H
 | .non, .int _ => Q (.bl true) H | .int _, .non => Q (.bl true) H | .non, .bl _ => Q (.bl true) H | .bl _, .non => Q (.bl true) H | .non, .str _ => Q (.bl true) H | .str _, .non => Q (.bl true) H
 | .int _, .str _ => Q (.bl true) H | .str _, .int _ => Q (.bl true) H | .bl _, .str _ => Q (.bl true) H | .str _, .bl _ => Q (.bl true) H
 | _, _ => False
theorem oNe : OpR X (compareOp .NotEq) mNe := Cd.imp fun x y H Q q => by
 unfold mNe at q
 split at q
 · exact ⟨rfl, by rw [im (f := V.int) fun _ _ e => V.int.inj e]; exact q⟩
 · exact ⟨rfl, by rw [im (f := V.str) fun _ _ e => V.str.inj e]; exact q⟩
 · exact ⟨rfl, by rw [im (f := V.bl) fun _ _ e => V.bl.inj e]; exact q⟩
 · exact ⟨rfl, by simpa using q⟩
 all_goals first | exact q.elim | exact ⟨rfl, q⟩
def tX : R2 := fun x y H Q => match y with | .non => Q (.bl (match x with | .non => true | _ => false)) H | _ => False
theorem oIs : OpR X (compareOp .Is) tX := yU.imp fun x y H Q q => by
 unfold tX at q
 split at q
 · refine ⟨rfl, ?_⟩
   cases x <;> simpa using q
 · exact q.elim
def qb : R2 := fun x y H Q => match y with | .non => Q (.bl (match x with | .non => false | _ => true)) H | _ => False
theorem yM : OpR X (compareOp .IsNot) qb := xg.imp fun x y H Q q => by
 unfold qb at q
 split at q
 · refine ⟨rfl, ?_⟩
   cases x <;> simpa using q
 · exact q.elim
def aI (t : TE) : TT := fun σ H Q => t σ H fun x H' => match x with | .bl k => Q k H' | _ => False
theorem qtc {op : CmpOp} {r : R2} {a b : Expr} {ta tb : TE} {pos : Pos} (ho : OpR X (compareOp op) r) (ha : PE X a ta) (hb : PE X b tb) (hm : behindInMarks op b = false := by first | exact jT _ | rfl) : PT X (.Compare a [op] [b] pos) (aI (tOp r ta tb)) := by
 intro pins s σ H Q I h
 refine wpAny_isTrue_Compare1 (thn (ha pins s σ H _ I h) fun v s1 ⟨x, H1, I1, r1, q1⟩ => thn (hb pins s1 σ H1 _ I1 q1) fun u s2 ⟨y, H2, I2, r2, q2⟩ =>
  thn (ho pins s2 σ H2 x y v u _ I2 r1 r2 q2) fun c s3 ⟨z, H3, I3, r3, q3⟩ => ?_) hm
 cases z <;> first | exact q3.elim | (cases r3; exact wpAny_truthy_bool ⟨H3, I3, q3⟩)
theorem qc {op : CmpOp} {r : R2} {a b : Expr} {ta tb : TE} {pos : Pos} (ho : OpR X (compareOp op) r) (ha : PE X a ta) (hb : PE X b tb) (hm : behindInMarks op b = false := by first | exact jT _ | rfl) : PE X (.Compare a [op] [b] pos) (tOp r ta tb) := xn ho ha hb hm
def dF (r r' : R2) (ta tb tc : TE) : TE := fun σ H Q => ta σ H fun x H1 => tb σ H1 fun y H2 => r x y H2 fun z H3 => match z with
 | .bl k => Sel k (tc σ H3 fun w' H4 => r' y w' H4 Q) (Q (.bl false) H3)
 | _ => False
theorem qch {op op' : CmpOp} {r r' : R2} {a b c : Expr} {ta tb tc : TE} {pos : Pos} (ho : OpR X (compareOp op) r) (ho' : OpR X (compareOp op') r') (ha : PE X a ta) (hb : PE X b tb) (hc : PE X c tc)
  (hm : lastMarks [op, op'] [b, c] = false := by with_unfolding_all rfl) : PE X (.Compare a [op, op'] [b, c] pos) (dF r r' ta tb tc) := by
 intro pins s σ H Q I h
 refine Compare_chain (thn (ha pins s σ H _ I h) fun v s1 ⟨x, H1, I1, r1, q1⟩ => chain_link (thn (hb pins s1 σ H1 _ I1 q1) fun u s2 ⟨y, H2, I2, r2, q2⟩ =>
  thn (ho pins s2 σ H2 x y v u _ I2 r1 r2 q2) fun d s3 ⟨z, H3, I3, r3, q3⟩ => ?_)) hm
 cases z <;> first | exact q3.elim | skip
 rename_i k
 cases r3
 refine wpAny_truthy_bool ?_
 have q3 := dm q3
 cases k with
 | false => exact ite_ff ⟨.bl false, H3, I3, rfl, q3⟩
 | true => exact ite_tt (chain_last (thn (hc pins s3 σ H3 _ I3 q3) fun w' s4 ⟨z', H4, I4, r4, q4⟩ => ho' pins s4 σ H4 y z' u w' Q I4 r2 r4 q4))
theorem DP {op op' : CmpOp} {r r' : R2} {a b c : Expr} {ta tb tc : TE} {pos : Pos} (ho : OpR X (compareOp op) r) (ho' : OpR X (compareOp op') r') (ha : PE X a ta) (hb : PE X b tb) (hc : PE X c tc)
    (hm : lastMarks [op, op'] [b, c] = false := by with_unfolding_all rfl) : PT X (.Compare a [op, op'] [b, c] pos) (aI (dF r r' ta tb tc)) := by
  intro pins s σ H Q I h
  refine isTrue_chain (thn (ha pins s σ H _ I h) fun v s1 ⟨x, H1, I1, r1, q1⟩ => test_link (thn (hb pins s1 σ H1 _ I1 q1) fun u s2 ⟨y, H2, I2, r2, q2⟩ =>
    thn (ho pins s2 σ H2 x y v u _ I2 r1 r2 q2) fun d s3 ⟨z, H3, I3, r3, q3⟩ => ?_)) hm
  cases z <;> first | exact q3.elim | skip
  rename_i k
  cases r3
  refine wpAny_truthy_bool ?_
  have q3 := dm q3
  cases k with
  | false => exact ite_ff ⟨H3, I3, q3⟩
  | true =>
    refine ite_tt (test_last (thn (hc pins s3 σ H3 _ I3 q3) fun w' s4 ⟨z', H4, I4, r4, q4⟩ => thn (ho' pins s4 σ H4 y z' u w' _ I4 r2 r4 q4) fun d' s5 ⟨z2, H5, I5, r5, q5⟩ => ?_))
    cases z2 <;> first | exact q5.elim | (cases r5; exact wpAny_truthy_bool ⟨H5, I5, q5⟩)
def cV (K : W.Frag) (t : TE) : TT := fun σ H Q => t σ H fun x H' => match x with
 | .bl k => Q k H'
 | .non => Q false H'
 | .int i => Q (i != 0) H'
 | x => ∃ k, AD K x H' k ∧ Q k H'
theorem qtb {e : Expr} {t : TE} (h : PE X e t) (he : ∀ whole, isTrue e X.env whole = (do let v ← whole; standAt e.pos; holding [v] (truthy v)) := by intro _; rfl) : PT X e (cV X.K t) := by
 intro pins s σ H Q I q
 refine isTrue_plain (thn (h pins s σ H _ I q) fun v s1 ⟨x, H1, I1, r1, q1⟩ => yu pins s1 σ H1 x v Q I1 r1 ?_) (he _)
 cases x <;> first | exact ⟨_, rfl, q1⟩ | exact q1
def kQ (t u : TT) : TT := fun σ H Q => t σ H fun c H1 => Sel c (u σ H1 Q) (Q false H1)
def mOr (t u : TT) : TT := fun σ H Q => t σ H fun c H1 => Sel c (Q true H1) (u σ H1 Q)
variable {a b c : Expr} {ta tb : TE} {tA tB' : TT} {bX : List Expr} {pos : Pos}
theorem xk (ha : PT X a tA) : PW X (.BoolOp .And [a] pos) tA := wY ha
theorem zU (ha : PT X a tA) : PW X (.BoolOp .Or [a] pos) tA := zC ha
theorem zD (ha : PT X a tA) (hb : PW X (.BoolOp .And (b :: bX) pos) tB') : PW X (.BoolOp .And (a :: b :: bX) pos) (kQ tA tB') := by
 intro wh pins s σ H Q I h
 refine isTrue_and (thn (ha pins s σ H _ I h) fun c s1 ⟨H1, I1, q1⟩ => ?_)
 have q1 := dm q1
 cases c with
 | true => exact hb wh pins s1 σ H1 Q I1 q1
 | false => exact ⟨H1, I1, q1⟩
theorem Dm (ha : PT X a tA) (hb : PW X (.BoolOp .Or (b :: bX) pos) tB') : PW X (.BoolOp .Or (a :: b :: bX) pos) (mOr tA tB') := by
 intro wh pins s σ H Q I h
 refine isTrue_or (thn (ha pins s σ H _ I h) fun c s1 ⟨H1, I1, q1⟩ => ?_)
 have q1 := dm q1
 cases c with
 | true => exact ⟨H1, I1, q1⟩
 | false => exact hb wh pins s1 σ H1 Q I1 q1
def dh (ta tb : TE) : TE := fun σ H Q => ta σ H fun x H1 => match x with | .bl c => Sel c (tb σ H1 Q) (Q (.bl false) H1) | _ => False
def qH (ta : TE) : TE := fun σ H Q => ta σ H fun x H1 => match x with | .bl c => Q (.bl (!c)) H1 | _ => False
theorem Fj (ha : PE X a ta) (hb : PE X (.BoolOp .And (b :: bX) pos) tb) : PE X (.BoolOp .And (a :: b :: bX) pos) (dh ta tb) := by
 intro pins s σ H Q I h
 refine BoolOp_and (thn (ha pins s σ H _ I h) fun v s1 ⟨x, H1, I1, r1, q1⟩ => ?_)
 cases x <;> first | exact q1.elim | skip
 rename_i c
 cases r1
 refine wpAny_truthy_bool ?_
 have q1 := dm q1
 cases c with
 | true => exact hb pins s1 σ H1 Q I1 q1
 | false => exact ⟨.bl false, H1, I1, rfl, q1⟩
theorem CW (ha : PE X a ta) : PE X (.UnaryOp .Not a pos) (qH ta) := by
 intro pins s σ H Q I h
 refine UnaryOp_ (thn (ha pins s σ H _ I h) fun v s1 ⟨x, H1, I1, r1, q1⟩ => ?_)
 cases x <;> first | exact q1.elim | skip
 rename_i c
 cases r1
 exact not_of (wpAny_truthy_bool ⟨.bl (!c), H1, I1, rfl, q1⟩)
def mIf (t : TT) (ta tb : TE) : TE := fun σ H Q => t σ H fun c H1 => Sel c (ta σ H1 Q) (tb σ H1 Q)
theorem Em {c : Expr} (hc : PT X c tA) (ha : PE X a ta) (hb : PE X b tb) : PE X (.IfExp c a b pos) (mIf tA ta tb) := by
 intro pins s σ H Q I h
 refine wpAny_IfExp (thn (hc pins s σ H _ I h) fun d s1 ⟨H1, I1, q1⟩ => ?_)
 have q1 := dm q1
 cases d with
 | true => exact ha pins s1 σ H1 Q I1 q1
 | false => exact hb pins s1 σ H1 Q I1 q1
def aU (c : TT) (t u : TS) : TS := fun D σ H => c σ H fun b H1 => Sel b (t D σ H1) (u D σ H1)
theorem qif {c : Expr} {l m : List Stmt} {tc : TT} {t u : TS} (hc : PT X c tc) (ha : PSs X l t) (hb : PSs X m u) : PS X (.If c l m pos) (aU tc t u) := by
 intro pins s σ H D I h
 refine wpAny_If (thn (hc pins s σ H _ I h) fun d s1 ⟨H1, I1, q1⟩ => ?_)
 have q1 := dm q1
 cases d with
 | true => exact ha pins s1 σ H1 D I1 q1
 | false => exact hb pins s1 σ H1 D I1 q1
theorem DX : bM X (.builtin "len") (fun xs H Q => match xs with
   | [.str y] => y.length ≤ sizeLine ∧ Q (.int y.length) H
   | [.ref p] => (∃ xs, SqL X.K H p xs ∧ Q (.int xs.length) H) ∨ (∃ xs, SqT X.K H p xs ∧ Q (.int xs.length) H) ∨ ∃ kvs, H p = some (.dK kvs) ∧ Q (.int kvs.length) H
   | _ => False) := by
 intro pins s σ H xs us Q I r h
 split at h
 · rename_i y
   exact jk pins s σ H _ us Q I r ⟨_, _, rfl, ⟨h.1, rfl⟩, h.2⟩
 · rename_i p
   rcases h with ⟨ys, h1, h2⟩ | ⟨ys, h1, h2⟩ | ⟨kvs, h1, h2⟩
   · exact jk pins s σ H _ us Q I r ⟨_, _, rfl, .inl ⟨ys, h1, rfl⟩, h2⟩
   · exact jk pins s σ H _ us Q I r ⟨_, _, rfl, .inr ⟨ys, h1, rfl⟩, h2⟩
   · exact tm pins s σ H _ us Q I r ⟨p, kvs, rfl, h1, h2⟩
 · exact h.elim
end
end L2
namespace L2
open PySem PySem.Spec PyProof.Rows
section
variable {X : Cx} {tg : Expr}
def cy : V → Hp → VK → Prop := fun x H Q => match x with | .int i => Q (.int (-i)) H | _ => False
theorem Fo : UnR X (unaryOp .USub) cy := fun pins s σ H x v Q I rx q => AO pins s σ H x v Q I rx (by
 unfold cy at q
 split at q
 · exact ⟨_, rfl, q⟩
 · exact q.elim)
def At (K : W.Frag) : List V → Hp → VK → Prop := fun xs H Q => match xs with
 | [.str y] => y.length ≤ sizeLine ∧ Q (.int y.length) H
 | [.ref p] => (∃ xs, SqL K H p xs ∧ Q (.int xs.length) H) ∨ (∃ xs, SqT K H p xs ∧ Q (.int xs.length) H) ∨ ∃ kvs, H p = some (.dK kvs) ∧ Q (.int kvs.length) H
 | _ => False
theorem Fd : bM X (.builtin "len") (At X.K) := DX
def dq : List V → Hp → VK → Prop := fun xs H Q => match xs with
 | [x, .ty T] => T ∈ ["int", "bool", "str", "tuple", "list", "dict"] ∧ ∃ t, tyN H x = some t ∧ Q (.bl (isI t T)) H
 | _ => False
theorem dJ : bM X (.builtin "isinstance") dq := fun pins s σ H xs us Q I r h => by
 unfold dq at h
 split at h
 · obtain ⟨h1, t, h2, h3⟩ := h
   exact uI pins s σ H _ us Q I r ⟨_, _, t, rfl, h1, h2, h3⟩
 · exact h.elim
def uW : List V → Hp → VK → Prop := fun xs H Q => ∃ (a : Addr) (bs : List Bool), xs = [.ref a] ∧ H a = some (.lst (bs.map V.bl)) ∧ Q (.bl (bs.all id)) H
theorem yC (hc : X.calm = true) : bM X (.builtin "all") uW := vx hc
def sL (K : W.Frag) : List V → Hp → VK → Prop := fun xs H Q => ∃ p ys, xs = [.ref p] ∧ ((SqL K H p ys ∧ ∀ l, H l = none → Q (.ref l) (upd H l (.tup ys))) ∨ (SqT K H p ys ∧ Q (.ref p) H))
theorem yN : bM X (.type "tuple") (sL X.K) := lR
end
end L2
namespace L2
open PySem PySem.Spec PyProof.Rows
theorem rT : bootBuiltins "all" = some (.builtin "all") := by decide +kernel
structure dY (J : It) (n : Nat) (it : Nat → V) (Pv : Hp → Prop) : Prop where
 go : ∀ i H, i < n → Pv H → J.go i H
 yld : ∀ i H x H', i < n → Pv H → J.yld i H x H' → H' = H ∧ x = it i
 stop : ∀ H, Pv H → J.stop n H
theorem dY.tuple {K : W.Frag} {a : Addr} {xs : List V} (d : V) : dY (Itt K a) xs.length (fun i => xs.getD i d) (fun H => SqT K H a xs) where
 go := fun i H hi h => ⟨xs, xs[i], h, by simp [hi]⟩
 yld := fun i H x H' hi h y => ⟨y.1, by have := y.2 xs h; rw [List.getD_eq_getElem?_getD, this]; rfl⟩
 stop := fun H h => ⟨xs, h, Nat.le_refl _⟩
theorem dY.range {lo : Int} {n : Nat} : dY (Itr lo n) n (fun i => .int (lo + i)) (fun _ => True) where
 go := fun i H hi _ => hi
 yld := fun i H x H' hi _ y => y
 stop := fun H _ => Nat.le_refl _
def CWd (n : Nat) (Pv : Nat → List V → Hp → Prop) : Nat → Nat → List V → Hp → Prop := fun i m ys H => i ≤ n ∧ m = n - i ∧ Pv i ys H
theorem CWd.next {n i : Nat} {Pv : Nat → List V → Hp → Prop} {ys : List V} {H : Hp} (hi : i < n) (h : Pv (i + 1) ys H) : ∃ m', m' < n - i ∧ CWd n Pv (i + 1) m' ys H := ⟨n - (i + 1), by omega, hi, rfl, h⟩
theorem fu {J : It} {n : Nat} {it : Nat → V} {Pk : Hp → Prop} {σ : St} {is : List Nat} {tc : TT} {te : TE} {Q : VK} {H1 : Hp} {D : Addr} (T : dY J n it Pk) (Pv : Nat → List V → Hp → Prop)
   (hk : ∀ i ys H, i ≤ n → Pv i ys H → Pk H) (h0 : Pv 0 [] (upd H1 D (.lst [])))
   (hs : ∀ i ys H2, i < n → Pv i ys H2 → tc (some (it i) :: bw σ is) H2 fun b H4 => if b = true then
    te (some (it i) :: bw σ is) H4 fun y H5 => H5 D = some (.lst ys) ∧ ys.length < sizeLine ∧ ∃ m', m' < n - i ∧ CWd n Pv (i + 1) m' (ys ++ [y]) (upd H5 D (.lst (ys ++ [y])))
    else ∃ m', m' < n - i ∧ CWd n Pv (i + 1) m' ys H4)
   (hd : ∀ ys H, Pv n ys H → Q (.ref D) H) : ww is tc te σ D J H1 Q := by
 refine ⟨CWd n Pv, ⟨n, Nat.zero_le _, rfl, h0⟩, ?_⟩
 rintro i m ys H2 ⟨hi, rfl, p⟩
 by_cases hlt : i < n
 · refine .inr ⟨T.go i H2 hlt (hk i ys H2 hi p), fun x H3 y => ?_⟩
   obtain ⟨rfl, rfl⟩ := T.yld i H2 x H3 hlt (hk i ys H2 hi p) y
   exact hs i ys _ hlt p
 · have e : i = n := by omega
   subst e
   exact .inl ⟨T.stop H2 (hk _ ys H2 hi p), hd ys H2 p⟩
theorem ao.upd {H : Hp} {p : Addr} {o : HO} (h : H p = none) : ao H (upd H p o) := fun b u e => by rw [ak (ar e h)]; exact e
theorem rz {xs : List V} {i : Int} (h0 : 0 ≤ i) (h1 : i < xs.length) : atI xs i = some (xs.getD i.toNat .non) := by
 unfold atI ixN
 rw [if_pos h0, if_pos h1]
 show xs[i.toNat]? = _
 rw [List.getD_eq_getElem?_getD]
 have : i.toNat < xs.length := by omega
 rw [List.getElem?_eq_getElem this]; rfl
end L2
namespace L2
open PySem PySem.Spec PyProof.Rows
def bL : Expr → Bool
 | .Starred _ _ => false
 | _ => true
theorem aX {e : Expr} (h : bL e = true) (bX : List Expr) (env : Env) : starEach (e :: bX) env = (false, eval e env) :: starEach bX env := by
 cases e <;> first | rfl | cases h
def aZ : List Expr → Bool
 | [] => true
 | e :: r => bL e && aZ r
theorem bJ : ∀ {es : List Expr} {env : Env} {pos : Pos}, aZ es = true → (backTo pos (starEach es env)).any (·.1) = false
  | [], _, _, _ => rfl
  | e :: r, env, pos, h => by
    have h : (bL e && aZ r) = true := h
    rw [Bool.and_eq_true] at h
    rw [aX h.1]
    show (false || (backTo pos (starEach r env)).any (·.1)) = false
    rw [bJ h.2]; rfl
section
variable {X : Cx} {e : Expr} {es : List Expr} {te : TE} {t : TA} {pos : Pos}
theorem xE (ha : PE X e te) (hr : PA X es t) (hs : bL e = true := by rfl) : PA X (e :: es) (ad te t) := wZ ha hr (aX hs es X.env)
variable {x : Str} {p apos cpos : Pos} {id T : String} {r : List V → Hp → VK → Prop}
theorem xC (hc : bM X (.builtin id) r) (hg : Gl X x) (hm : X.mg x = none) (hv : bootBuiltins x = some (.builtin id)) (ha : PA X (e :: es) t) (hn : x ≠ "__name__" := by decide) (hdb : (x == ("__debug__" : Str)) = false := by decide)
  (hs : aZ (e :: es) = true := by rfl) : PE X (.Call (.Name x p) (e :: es) [] pos) (tCB r t) :=
 have h : (bL e && aZ es) = true := hs
 tF hc hg hm hv ha hn hdb (aX (Bool.and_eq_true_iff.mp h).1 es X.env) (bJ (Bool.and_eq_true_iff.mp h).2)
theorem tL (hc : bM X (.type T) r) (hg : Gl X x) (hm : X.mg x = none) (hv : bootBuiltins x = some (.type T)) (ha : PA X (e :: es) t) (hn : x ≠ "__name__" := by decide) (hdb : (x == ("__debug__" : Str)) = false := by decide)
  (hs : aZ (e :: es) = true := by rfl) : PE X (.Call (.Name x p) (e :: es) [] pos) (tCB r t) :=
 have h : (bL e && aZ es) = true := hs
 rj hc hg hm hv ha hn hdb (aX (Bool.and_eq_true_iff.mp h).1 es X.env) (bJ (Bool.and_eq_true_iff.mp h).2)
variable {CX : CXT} {k : Nat} {f C : Addr} {fd : FuncData} {ps : List Str} {sp : Sp} {dvs : List V} {ds : List Value} {E : XK} {m : Str} {o : Expr} {ta : TE}
theorem jb : ∀ {es : List Expr} {env : Env} {pos : Pos}, aZ es = true → (backTo pos (starEach es env)).all (fun x => !x.1) = true
  | [], _, _, _ => rfl
  | e :: r, env, pos, h => by
    have h : (bL e && aZ r) = true := h
    rw [Bool.and_eq_true] at h
    rw [aX h.1]
    show (true && (backTo pos (starEach r env)).all (fun x => !x.1)) = true
    rw [jb h.2]; rfl
variable {to : TE} {name : Str} {rm : V → List V → Hp → VK → Prop}
theorem Fc (pa : PlainAttrs T) (slot : Slot T name id) (hty : typeOf (.builtin id) = pure (.type "method_descriptor")) (hm : MtR X id rm) (ho : PE X o to) (ha : PA X (e :: es) t)
  (hbase : attributeBase o name X.env (eval o X.env) = eval o X.env := by rfl) (hfew : decide ((e :: es).length < 30) = true := by rfl)
  (hline : (apos.endLine == cpos.line) = true := by rfl) (hs : aZ (e :: es) = true := by rfl) : PE X (.Call (.Attribute o name apos) (e :: es) [] cpos) (tBM X.K T rm to t) :=
 have h : (bL e && aZ es) = true := hs
 Dt pa slot hty hm ho ha hbase (by rw [jb hs]; exact hfew) hline (aX (Bool.and_eq_true_iff.mp h).1 es X.env) (bJ (Bool.and_eq_true_iff.mp h).2)
end
end L2
namespace L2
open PySem PySem.Spec PyProof.Rows
structure QE (X : Cx) (e : Expr) (t : TE) : Prop where
 out : PE X e t
structure QT (X : Cx) (e : Expr) (t : TT) : Prop where
 out : PT X e t
structure QW (X : Cx) (e : Expr) (t : TT) : Prop where
 out : PW X e t
structure QA (X : Cx) (e : List Expr) (t : TA) : Prop where
 out : PA X e t
structure QS (X : Cx) (e : Stmt) (t : TS) : Prop where
 out : PS X e t
structure QSs (X : Cx) (e : List Stmt) (t : TS) : Prop where
 out : PSs X e t
structure QI (X : Cx) (tg iter : Expr) (t : TI) : Prop where
 out : PI X tg iter t
structure QO (X : Cx) (e : Option Expr) (t : TO) : Prop where
 out : PO X e t
structure vC (X : Cx) (e : List Expr) (t : TT) : Prop where
 out : vh X e t
section
variable {X : Cx} {a b c e o : Expr} {es bX : List Expr} {ta tb tc te to tv : TE} {tA tB' : TT} {t : TA} {pos apos cpos p : Pos} {x y : Str}
theorem aa (i : Nat) (hN : X.N[i]? = some x := by rfl) (hv : Vis X.env.scope x := by first | exact Or.inl rfl | exact Or.inr (Or.inl rfl) | exact Or.inr (Or.inr rfl)) (hd : (x == ("__debug__" : Str)) = false := by decide)
 (hcd : (x == ("__classdict__" : Str)) = false := by decide) : QE X (.Name x pos) (ac i) := ⟨qv i hN hv hd hcd⟩
theorem Fb {i : Int} (hm : ∃ t, X.mg x = some (.int i t)) (hg : Gl X x := by rfl) (hd : (x == ("__debug__" : Str)) = false := by decide) : QE X (.Name x pos) (tC (.int i)) := ⟨qgi hm hg hd⟩
theorem dN {T : String} (hm : X.mg x = none) (hv : bootBuiltins x = some (.type T)) (hg : Gl X x := by rfl) (hn : x ≠ "__name__" := by decide) (hd : (x == ("__debug__" : Str)) = false := by decide) : QE X (.Name x pos) (tC (.ty T)) := ⟨ya hg hm hv rfl hn hd⟩
theorem ai {i : Int} {j} : QE X (.Constant (.int i) j pos) (tC (.int i)) := ⟨yy⟩
theorem eM {b : Bool} {j} : QE X (.Constant (.bool b) j pos) (tC (.bl b)) := ⟨Dr⟩
theorem jZ {j} : QE X (.Constant .none j pos) (tC .non) := ⟨zn⟩
theorem bz {z : Str} {j} : QE X (.Constant (.str z) j pos) (tC (.str z)) := ⟨yV⟩
theorem cT (ha : QE X a ta) : QE X (.UnaryOp .USub a pos) (tUn cy ta) := ⟨Dq Fo ha.out⟩
theorem Ct (ha : QE X a ta) : QE X (.UnaryOp .Not a pos) (qH ta) := ⟨CW ha.out⟩
theorem az {op : Operator} {r : R2} (ho : OpR X (binaryOp op) r) (ha : QE X a ta) (hb : QE X b tb) : QE X (.BinOp a op b pos) (tOp r ta tb) := ⟨Bf ho ha.out hb.out⟩
theorem gN {op : CmpOp} {r : R2} (ho : OpR X (compareOp op) r) (ha : QE X a ta) (hb : QE X b tb) (hm : behindInMarks op b = false := by first | exact jT _ | rfl) : QE X (.Compare a [op] [b] pos) (tOp r ta tb) := ⟨qc ho ha.out hb.out hm⟩
theorem kq {op op' : CmpOp} {r r' : R2} (ho : OpR X (compareOp op) r) (ho' : OpR X (compareOp op') r') (ha : QE X a ta) (hb : QE X b tb) (hc : QE X c tc) (hm : lastMarks [op, op'] [b, c] = false := by with_unfolding_all rfl) :
 QE X (.Compare a [op, op'] [b, c] pos) (dF r r' ta tb tc) := ⟨qch ho ho' ha.out hb.out hc.out hm⟩
theorem fK {op} (h : QE X a ta) : QE X (.BoolOp op [a] pos) ta := ⟨AM h.out⟩
theorem dI (ha : QE X a ta) (hb : QE X (.BoolOp .And (b :: bX) pos) tb) : QE X (.BoolOp .And (a :: b :: bX) pos) (dh ta tb) := ⟨Fj ha.out hb.out⟩
theorem ut (hc : QT X c tA) (ha : QE X a ta) (hb : QE X b tb) : QE X (.IfExp c a b pos) (mIf tA ta tb) := ⟨Em hc.out ha.out hb.out⟩
theorem ah : QA X [] af := ⟨AN⟩
theorem ae (ha : QE X e te) (hr : QA X es t) (hs : bL e = true := by rfl) : QA X (e :: es) (ad te t) := ⟨xE ha.out hr.out hs⟩
theorem cS (h : QA X es t) : QE X (.List es pos) (cM t) := ⟨yj h.out⟩
theorem bp {x1} (h : QA X es t) : QE X (.Tuple es x1 pos) (bf t) := ⟨Am h.out⟩
theorem aP {r : R2} (hr : IxR X r) (ha : QE X a ta) (hb : QE X b tb) (hs : oH b) : QE X (.Subscript a b pos) (tOp r ta tb) := ⟨CM hr ha.out hb.out hs⟩
theorem ft : QO X none cZ := ⟨xF⟩
theorem fw (h : QE X e te) : QO X (some e) (dZ te) := ⟨wW h.out⟩
theorem fx {r : V → Option Int → Option Int → Hp → VK → Prop} {lo hi : Option Expr} {tl th : TO} {p2 : Pos} (hr : SlR X r) (he : QE X e te) (hl : QO X lo tl) (hu : QO X hi th) : QE X (.Subscript e (.Slice lo hi none p2) pos) (tSl r te tl th) := ⟨vt hr he.out hl.out hu.out⟩
variable {id T : String} {r : List V → Hp → VK → Prop}
theorem aO (hc : bM X (.builtin id) r) (hm : X.mg x = none) (hv : bootBuiltins x = some (.builtin id)) (ha : QA X (e :: es) t) (hg : Gl X x := by rfl) (hn : x ≠ "__name__" := by decide) (hdb : (x == ("__debug__" : Str)) = false := by decide)
 (hs : aZ (e :: es) = true := by rfl) : QE X (.Call (.Name x p) (e :: es) [] pos) (tCB r t) := ⟨xC hc hg hm hv ha.out hn hdb hs⟩
theorem jt (hc : bM X (.type T) r) (hm : X.mg x = none) (hv : bootBuiltins x = some (.type T)) (ha : QA X (e :: es) t) (hg : Gl X x := by rfl) (hn : x ≠ "__name__" := by decide) (hdb : (x == ("__debug__" : Str)) = false := by decide)
 (hs : aZ (e :: es) = true := by rfl) : QE X (.Call (.Name x p) (e :: es) [] pos) (tCB r t) := ⟨tL hc hg hm hv ha.out hn hdb hs⟩
variable {CX : CXT} {k : Nat} {f C : Addr} {fd : FuncData} {ps : List Str} {sp : Sp} {dvs : List V} {ds : List Value} {E : XK} {m : Str}
variable {name : Str} {rm : V → List V → Hp → VK → Prop}
theorem db (pa : PlainAttrs T) (slot : Slot T name id) (hty : typeOf (.builtin id) = pure (.type "method_descriptor")) (hm : MtR X id rm) (ho : QE X o to) (ha : QA X (e :: es) t)
 (hbase : attributeBase o name X.env (eval o X.env) = eval o X.env := by rfl) (hfew : decide ((e :: es).length < 30) = true := by rfl)
 (hline : (apos.endLine == cpos.line) = true := by rfl) (hs : aZ (e :: es) = true := by rfl) : QE X (.Call (.Attribute o name apos) (e :: es) [] cpos) (tBM X.K T rm to t) := ⟨Fc pa slot hty hm ho.out ha.out hbase hfew hline hs⟩
theorem aL {op : CmpOp} {r : R2} (ho : OpR X (compareOp op) r) (ha : QE X a ta) (hb : QE X b tb) (hm : behindInMarks op b = false := by first | exact jT _ | rfl) : QT X (.Compare a [op] [b] pos) (aI (tOp r ta tb)) := ⟨qtc ho ha.out hb.out hm⟩
theorem jA {op op' : CmpOp} {r r' : R2} (ho : OpR X (compareOp op) r) (ho' : OpR X (compareOp op') r') (ha : QE X a ta) (hb : QE X b tb) (hc : QE X c tc) (hm : lastMarks [op, op'] [b, c] = false := by with_unfolding_all rfl) :
 QT X (.Compare a [op, op'] [b, c] pos) (aI (dF r r' ta tb tc)) := ⟨DP ho ho' ha.out hb.out hc.out hm⟩
theorem ck (h : QE X e te) (he : ∀ whole, isTrue e X.env whole = (do let v ← whole; standAt e.pos; holding [v] (truthy v)) := by intro _; rfl) : QT X e (cV X.K te) := ⟨qtb h.out he⟩
theorem dk (ha : QT X a tA) : QT X (.UnaryOp .Not a pos) (dM tA) := ⟨Ay ha.out⟩
theorem x_w (h : QW X e tA) : QT X e tA := ⟨h.out.pt⟩
theorem kO (ha : QT X a tA) : QW X (.BoolOp .And [a] pos) tA := ⟨xk ha.out⟩
theorem gf (ha : QT X a tA) : QW X (.BoolOp .Or [a] pos) tA := ⟨zU ha.out⟩
theorem nX (ha : QT X a tA) (hb : QW X (.BoolOp .And (b :: bX) pos) tB') : QW X (.BoolOp .And (a :: b :: bX) pos) (kQ tA tB') := ⟨zD ha.out hb.out⟩
theorem fQ (ha : QT X a tA) (hb : QW X (.BoolOp .Or (b :: bX) pos) tB') : QW X (.BoolOp .Or (a :: b :: bX) pos) (mOr tA tB') := ⟨Dm ha.out hb.out⟩
variable {tg iter elt : Expr} {wi : TI} {ifs : List Expr} {scope : Scope} {ys : List Str} {is : List Nat} {px py spos : Pos}
theorem jf (hm : X.mg "range" = none) (ha : QA X [a] t) (hg : Gl X "range" := by rfl) (hs : bL a = true := by rfl) : QI X tg (.Call (.Name "range" p) [a] [] pos) (iW t) := ⟨rH hg hm ha.out (aX hs [] X.env)⟩
theorem ii : vC X [] (fun _ H Q => Q true H) := ⟨rfl⟩
theorem xa (h : QT X c tA) : vC X [c] tA := ⟨h.out⟩
theorem gt {tcn : TT} (S : fL scope x ys) (hcap : fU X scope ys is) (hi : QI X (.Name x px) iter wi)
 (hif : ∀ C s H fp, vC (bq X scope C (x :: ys) s H fp) ifs tcn) (he : ∀ C s H fp, QE (bq X scope C (x :: ys) s H fp) elt te) (hc : X.calm = true := by rfl)
 (hs : ∀ x, foldedSetIterable iter X.env x = pure x := by intro _; rfl) : QE X (.ListComp elt [⟨.Name x px, iter, ifs, 0⟩] scope pos) (fq is wi tcn te) := ⟨xq hc S hcap hi.out (fun C s H fp => (hif C s H fp).out) (fun C s H fp => (he C s H fp).out) hs⟩
variable {st : Stmt} {sts : List Stmt} {tS uS : TS} {i j : Nat}
theorem aN : QSs X [] aM := ⟨xc⟩
theorem aq (h : QS X st tS) : QSs X [st] tS := ⟨wS h.out⟩
theorem aj (h1 : QS X st tS) (h2 : QSs X sts uS) : QSs X (st :: sts) (au tS uS) := ⟨tG h1.out h2.out⟩
theorem aG (h : QE X e te) : QS X (.Return (some e) pos) (aH te) := ⟨zE h.out⟩
theorem aS {l m : List Stmt} (hc : QT X c tA) (ha : QSs X l tS) (hb : QSs X m uS) : QS X (.If c l m pos) (aU tA tS uS) := ⟨qif hc.out ha.out hb.out⟩
theorem aD (i : Nat) (hN : X.N.Nodup) (he : QE X e te) (hi : X.N[i]? = some x := by rfl) (hx : Loc X.env.scope x := by first | exact .inl rfl | exact .inr rfl)
 (hs : swapsWith e (some (.Name x p)) pos.line X.env = pure false := by rfl) (hf : X.fn x = true ∨ X.env.scope.names.lookup x = some .local := by first | exact .inl rfl | exact .inr rfl) : QS X (.Assign [.Name x p] e pos) (aE te (av i)) := ⟨zJ hN hi hx he.out hs hf⟩
theorem cg (h : QE X e te) (hs : swapsWith e none pos.line X.env = pure false := by rfl) : QS X (.Expr e pos) (cp te) := ⟨xB h.out hs⟩
theorem iZ (i : Nat) (hN : X.N.Nodup) {body : List Stmt} (hi : QI X (.Name x px) iter wi) (hb : QSs X body tS) (hp : PassesOwn (model X.prog X.w) X.A X.env X.xe) (hc : X.calm = true := by rfl)
 (hj : X.N[i]? = some x := by rfl) (hx : Loc X.env.scope x := by first | exact .inl rfl | exact .inr rfl) (hf : X.fn x = true ∨ X.env.scope.names.lookup x = some .local := by first | exact .inl rfl | exact .inr rfl)
 (hs : ∀ x, foldedSetIterable iter X.env x = pure x := by intro _; rfl) : QS X (.For (.Name x px) iter body [] pos) (eW wi (av i) tS) := ⟨rD hp hc hi.out (kK hN hj hx hf) hb.out hs⟩
theorem kI {body : List Stmt} (hc : QT X c tA) (hb : QSs X body tS) (hp : PassesOwn (model X.prog X.w) X.A X.env X.xe) : QS X (.While c body [] pos) (ig tA tS) := ⟨tJ hp hc.out hb.out⟩
theorem gr : QS X st fA := ⟨vj⟩
end
end L2
namespace HT
open PySem PyProof.Rows
structure TrD (h base : Heap) (e : Addr) (cls a0 : Value) (d : Option Addr) (fl : Value) : Prop where
 ex : ∃ oe vs T oT ts, h.get? e = some oe ∧ oe.cls = cls ∧ oe.dict = d ∧ oe.data = .fields vs ∧ vs[0]? = some a0 ∧ vs[1]? = some (.ref T) ∧ base.get? T = none ∧ T ≠ e ∧ h.get? T = some oT ∧ oT.data = .fields ts ∧ ts[3]? = some fl
structure kR (base : Heap) (l : List Env) (e : Addr) (cls a0 : Value) (d : Option Addr) (fl : Value) (h h' : Heap) : Prop where
 st : base.StaysIn h'
 fr : h'.FunFrames base l
 tr : TrD h' base e cls a0 d fl
 up : h.UpToSlots h'
theorem kT (o : Obj) (f : Array Value → Array Value) : (Obj.mapFields f o).dict = o.dict := by
 obtain ⟨c, d, dt, sl⟩ := o
 cases dt <;> rfl
section
variable {M : Model} {A : Around} {E : Value → Shared → Prop} {s : Shared} {base : Heap} {env : Env} {outer : List Env} {L e : Addr} {cls a0 : Value} {d : Option Addr} {Q : Unit → Shared → Prop}
theorem sd {oe : Obj} {vs : Array Value} {head : Value} {hadNext : Bool} (hfr : A.frames = some (env :: outer)) (hl : s.heap.FunFrames base (env :: outer)) (hf : env.frame = some L) (he : s.heap.get? e = some oe) (hc : oe.cls = cls) (hdc : oe.dict = d)
   (hkb : base.StaysIn s.heap) (hen : base.get? e = none) (hd : oe.data = .fields vs) (hsz : 1 < vs.size) (h0 : vs[0]? = some a0) (h : ∀ h', kR base (env :: outer) e cls a0 d (rawInt L) s.heap h' → Q () { s with heap := h' }) :
   wpAny M A (do let a ← frameOf env; let pl ← entryPlaceOf L hadNext; let b ← EntryCells.newEntry head a .none (rawInt L) .none pl; setField (.ref e) 1 b) Q E s := by
 have nfr : e ∉ (env :: outer).filterMap (·.frame) := fun hm => by
   obtain ⟨_, o, ho, hnf⟩ := hl.mem hm
   rw [he] at ho
   cases ho
   exact hnf vs hd
 refine wpAny_bind (wpAny_frameOf_fun hfr hl hf fun h1 s1 => wpAny_bind (wpAny_entryPlaceOf fun pl hpl => ?_))
 unfold EntryCells.newEntry newFields
 refine wpAny_bind (wpAny_newObj_type ?_ (hpl.sizeOk5 _ _ _ _ _))
 generalize hts : ([head, Value.ref L, .none, rawInt L, .none] ++ (if pl.isEmpty then List.replicate 6 Value.none else pl)).toArray = ts
 have hts3 : ts[3]? = some (rawInt L) := by rw [← hts]; first | (simp; done) | (rcases hpl with rfl | ⟨_, _, _, _, _, _, _, rfl⟩ <;> simp)
 have e1 : h1.get? e = some oe := (s1.2.1 e nfr).trans he
 have kb1 : base.StaysIn h1 := fun b o hbo => (s1.2.1 b fun hm => by rw [(hl.mem hm).1] at hbo; cases hbo).trans (hkb b o hbo)
 have e2 : (h1.push { cls := .type "traceback", dict := none, data := .fields ts }).get? e = some oe := Heap.get?_push_of_some _ e1
 have nT : h1.objs.size ≠ e := Nat.ne_of_gt (Heap.lt_size e1)
 refine wpAny_setField e2 hd hsz (h _ ?_)
 have d3 := Obj.data_mapFields hd (·.setIfInBounds 1 (Value.ref h1.objs.size))
 have e3 := Heap.get?_update_self (Obj.mapFields (·.setIfInBounds 1 (Value.ref h1.objs.size))) e2 (Obj.isFreed_of_fields d3)
 have kp : ∀ b o, b ≠ e → h1.get? b = some o → ((h1.push { cls := .type "traceback", dict := none, data := .fields ts }).update e (Obj.mapFields (·.setIfInBounds 1 (Value.ref h1.objs.size)))).get? b = some o := fun b o nb eb =>
   (Heap.get?_update_other _ _ (Ne.symm nb)).trans (Heap.get?_push_of_some _ eb)
 have T3 := (Heap.get?_update_other (h1.push { cls := .type "traceback", dict := none, data := .fields ts }) (Obj.mapFields (·.setIfInBounds 1 (Value.ref h1.objs.size))) (Ne.symm nT)).trans (Heap.get?_push_size h1 rfl)
 have nr : ∀ b o, s.heap.get? b = some o → (∀ vs, o.data ≠ .fields vs) → b ≠ e := fun b o hb hnf q => by
   rw [q, he] at hb
   cases hb
   exact hnf vs hd
 refine ⟨fun b o hbo => kp b o (fun q => by rw [q, hen] at hbo; cases hbo) (kb1 b o hbo), hl.of_keeps fun b o hb hnf => ?_, ⟨_, _, h1.objs.size, _, ts, e3, (Obj.cls_mapFields ..).trans hc, (kT ..).trans hdc, d3, ?_, by simp [hsz], kb1.fresh, nT, T3, rfl, hts3⟩, fun b o hb hnf => ?_⟩
 · obtain ⟨sl, hs⟩ := s1.2.2 b o hb
   exact ⟨_, kp b _ (nr b o hb hnf) hs, rfl⟩
 · rw [Array.getElem?_setIfInBounds_ne (by decide)]; exact h0
 · obtain ⟨sl, hs⟩ := s1.2.2 b o hb
   exact ⟨sl, kp b _ (nr b o hb hnf) hs⟩
theorem oq {oe : Obj} {vs : Array Value} (hfr : A.frames = some (env :: outer)) (hl : s.heap.FunFrames base (env :: outer)) (hf : env.frame = some L) (he : s.heap.get? e = some oe) (hc : oe.cls = cls) (hdc : oe.dict = d) (hkb : base.StaysIn s.heap) (hen : base.get? e = none)
  (hd : oe.data = .fields vs) (h1 : vs[1]? = some .none) (h0 : vs[0]? = some a0) (h : ∀ h', kR base (env :: outer) e cls a0 d (rawInt L) s.heap h' → Q () { s with heap := h' }) : wpAny M A (noteFrame (.ref e) env) Q E s := by
 unfold noteFrame
 simp only [hf]
 refine wpAny_bind (wpAny_field he hd h1 ?_)
 rw [if_neg (by decide)]
 exact sd hfr hl hf he hc hdc hkb hen hd (Array.getElem?_eq_some_iff.mp h1).1 h0 h
theorem yE {fl fl' : Value} {T : Addr} {oT : Obj} {ts : Array Value} {l : List Env} {oe : Obj} {vs : Array Value} (hkb : base.StaysIn s.heap) (hl : s.heap.FunFrames base l) (he : s.heap.get? e = some oe) (hc : oe.cls = cls) (hdc : oe.dict = d) (hd : oe.data = .fields vs) (h0 : vs[0]? = some a0)
  (h1 : vs[1]? = some (.ref T)) (nT : base.get? T = none) (Te : T ≠ e) (hT : s.heap.get? T = some oT) (hdT : oT.data = .fields ts) (h3 : ts[3]? = some fl) (h : ∀ h', kR base l e cls a0 d fl' s.heap h' → (h'.get? e = some oe) → Q () { s with heap := h' }) : wpAny M A (setField (.ref T) 3 fl') Q E s := by
 have sz := (Array.getElem?_eq_some_iff.mp h3).1
 have ot : ∀ b, b ≠ T → (s.heap.update T (Obj.mapFields (·.setIfInBounds 3 fl'))).get? b = s.heap.get? b := fun b hb => Heap.get?_update_other _ _ (Ne.symm hb)
 have nr : ∀ b o, s.heap.get? b = some o → (∀ vs, o.data ≠ .fields vs) → b ≠ T := fun b o hb hnf q => by
  rw [q, hT] at hb
  cases hb
  exact hnf ts hdT
 refine wpAny_setField hT hdT sz (h _ ⟨fun b o hbo => (ot b fun q => by rw [q, nT] at hbo; cases hbo).trans (hkb b o hbo), hl.of_keeps fun b o hb hnf => ⟨o, (ot b (nr b o hb hnf)).trans hb, rfl⟩,
  ⟨oe, vs, T, _, _, (ot e (Ne.symm Te)).trans he, hc, hdc, hd, h0, h1, nT, Te, Heap.get?_update_self _ hT (Obj.isFreed_of_fields (Obj.data_mapFields hdT _)), Obj.data_mapFields hdT _, by simp [sz]⟩, fun b o hb hnf => ⟨o.slots, (ot b (nr b o hb hnf)).trans hb⟩⟩ ((ot e (Ne.symm Te)).trans he))
theorem kE {fl : Value} {l : List Env} (hkb : base.StaysIn s.heap) (hl : s.heap.FunFrames base l) (ht : TrD s.heap base e cls a0 d fl) (h : ∀ h', kR base l e cls a0 d .none s.heap h' → Q () { s with heap := h' }) : wpAny M A (setFlight (.ref e) none) Q E s := by
 obtain ⟨oe, vs, T, oT, ts, he, hc, hdc, hd, h0, h1, nT, Te, hT, hdT, h3⟩ := ht.ex
 unfold setFlight
 refine wpAny_bind (wpAny_field he hd h1 ?_)
 rw [if_pos (show (Value.ref T != Value.none) = true from by simp)]
 exact yE hkb hl he hc hdc hd h0 h1 nT Te hT hdT h3 fun h' n _ => h h' n
theorem qk (hfr : A.frames = some (env :: outer)) (hl : s.heap.FunFrames base (env :: outer)) (hf : env.frame = some L) (ht : TrD s.heap base e cls a0 d .none) (hkb : base.StaysIn s.heap) (hen : base.get? e = none)
  (h : ∀ h', kR base (env :: outer) e cls a0 d (rawInt L) s.heap h' → Q () { s with heap := h' }) : wpAny M A (noteFrame (.ref e) env) Q E s := by
 obtain ⟨oe, vs, T, oT, ts, he, hc, hdc, hd, h0, h1, nT, Te, hT, hdT, h3⟩ := ht.ex
 unfold noteFrame
 simp only [hf]
 refine wpAny_bind (wpAny_field he hd h1 ?_)
 rw [if_pos (show (Value.ref T != Value.none) = true from by simp)]
 refine wpAny_bind (wpAny_field hT hdT h3 ?_)
 rw [if_neg (show ¬ ((Value.none == rawInt L) = true) from by simp [rawInt])]
 refine wpAny_bind (yE (fl' := .none) hkb hl he hc hdc hd h0 h1 nT Te hT hdT h3 fun h' n he' => ?_)
 exact sd (s := { s with heap := h' }) hfr n.fr hf he' hc hdc n.st hen hd (Array.getElem?_eq_some_iff.mp h1).1 h0 fun h2 n2 => h h2 ⟨n2.st, n2.fr, n2.tr, n.up.trans n2.up⟩
theorem nK {oe : Obj} {vs : Array Value} (hfr : A.frames = some (env :: outer)) (hl : s.heap.FunFrames base (env :: outer)) (hf : env.frame = some L) (he : s.heap.get? e = some oe) (hc : oe.cls = cls) (hdc : oe.dict = d) (hkb : base.StaysIn s.heap) (hen : base.get? e = none)
  (hd : oe.data = .fields vs) (h1 : vs[1]? = some .none) (h0 : vs[0]? = some a0) (h : ∀ h', kR base outer e cls a0 d .none s.heap h' → Q () { s with heap := h' }) : wpAny M A (leaving env (.ref e)) Q E s := by
 unfold leaving
 refine wpAny_bind (oq hfr hl hf he hc hdc hkb hen hd h1 h0 fun h' n => ?_)
 obtain ⟨n1, ⟨_, _, n2⟩, n3, n4⟩ := n
 exact kE (s := { s with heap := h' }) n1 n2 n3 fun h2 m => h h2 ⟨m.st, m.fr, m.tr, n4.trans m.up⟩
end
end HT
namespace L2
open PySem PySem.Spec PyProof.Rows
abbrev veM : List Value := [.type "ValueError", .type "Exception", .type "BaseException", .type "object"]
def gG (K : W.Frag) (C D : Addr) : Option Bool := match K.lookup C with
 | some ⟨_, _, .cls cd, _⟩ => some (cd.mro.contains (.ref D))
 | _ => none
def mZ (K : W.Frag) (C : Addr) : Bool := match K.lookup C with
  | some ⟨.type "type", _, .cls cd, sl⟩ => (match cd.mro, sl.toList with
    | .ref C' :: bm, [_, _, _, _, some (.builtin n), _] => C' == C && n == "ValueError.__new__" && !cd.hasDel && W.tailIn K veM bm && W.nsOkIn K cd.ns
    | _, _ => false)
  | _ => false
def dg (K : W.Frag) (C : Addr) : Prop := mZ K C = true
def sG (K : W.Frag) (C : Addr) : Prop := W.excIn K C veM "ValueError.__new__" = true
theorem gm {K : W.Frag} {h : Heap} {C : Addr} (X : K.In h) (q : dg K C) :
   ∃ bm N nm qn bs hdct sn sub ab col dd k0 k1 k2 k3 k5 mN, h.get? C = some (excClassObj nm qn C N bs bm hdct sn sub ab col dd k0 k1 k2 k3 k5 "ValueError.__new__") ∧ h.Ns N mN ∧ (sG K C → mN "__init__" = none) ∧ OwnTail h veM bm ∧
     ∀ D, gG K C D = some ((Value.ref C :: bm).contains (.ref D)) := by
 have q2 := q
 unfold dg mZ at q
 split at q
 · rename_i dd cd sl ho
   split at q
   · rename_i C' bm k0 k1 k2 k3 n k5 hm hs
     simp only [Bool.and_eq_true, beq_iff_eq, Bool.not_eq_true'] at q
     obtain ⟨⟨⟨⟨rfl, rfl⟩, hdel⟩, ht⟩, hok⟩ := q
     obtain ⟨nm, bs, mro, ns, qn, hd, sn, sub, ab, col, del⟩ := cd
     dsimp only at hm hdel hok
     subst hm hdel
     have hsl : sl = #[k0, k1, k2, k3, some (.builtin "ValueError.__new__"), k5] := by
       obtain ⟨l⟩ := sl
       simp only at hs
       rw [hs]
     subst hsl
     refine ⟨bm, ns, nm, qn, bs, hd, sn, sub, ab, col, dd, k0, k1, k2, k3, k5, _, X _ _ ho, .of_isNs (W.isNs_of_in X hok), fun r => ?_, W.tail_of_in X ht, fun D => ?_⟩
     · unfold sG W.excIn at r
       rw [ho] at r
       simp only [Bool.and_eq_true, beq_iff_eq] at r
       exact W.nsMap_none_of_in X hok r.2
     · unfold gG
       rw [ho]
   · cases q
 · cases q
theorem kM {M : Model} {A : Around} {E : Value → Shared → Prop} {s : Shared} {K : W.Frag} {C D e : Addr} {oe : Obj} {Q : Bool → Shared → Prop} {b : Bool} (X : K.In s.heap) (hC : dg K C) (hD : dg K D) (he : s.heap.get? e = some oe) (hcls : oe.cls = .ref C)
  (hs : gG K C D = some b) (hq : Q b s) : wpAny M A (excMatches (.ref e) (.ref D)) Q E s := by
 obtain ⟨bm, N, nm, qn, bs, hdct, sn, sub, ab, col, dd, k0, k1, k2, k3, k5, mN, oC, _, _, _, hsub⟩ := gm X hC
 obtain ⟨bm', N', nm', qn', bs', hdct', sn', sub', ab', col', dd', k0', k1', k2', k3', k5', mN', oD, _, _, T', _⟩ := gm X hD
 have hb : (Value.ref C :: bm).contains (.ref D) = b := Option.some.inj ((hsub D).symm.trans hs)
 have hbase : (Value.ref D :: bm').contains (.type "BaseException") = true := by
  rw [List.contains_cons, T'.hasType (X := "BaseException") (b := true) (by decide +kernel), Bool.or_true]
 have f := tc_notTuple
 obtain ⟨hp, g, d, t, os⟩ := s
 unfold excMatches
 repeat (first | (with_reducible refine wpAny_loadPart_at he ?_; rw [hcls]) | with_reducible refine wpAny_loadPart_at oD ?_ | (with_reducible refine wpAny_isSubtype_exc oC ?_; rw [hb]) | (with_reducible refine wpAny_isSubtype_exc oD ?_; rw [hbase]) | wp_step)
 all_goals first | exact hq | (cases b <;> first | exact hq | (repeat (first | exact hq | wp_step)))
structure Fly (P : Program) (w : World) (l : List Env) (H : Hp) (s : Shared) (cls fl : Value) (a : Addr) (d : Option Addr) (H' : Hp) (s' : Shared) : Prop where
 os : s'.os = s.os
 bare : AllBare s'.gens
 un : Un (frs l) [] H H' s.heap s'.heap
 hok : HOk P w H' s'.heap
 new : s.heap.get? a = none
 free : H' a = none
 tr : ∃ oe vs a0 T oT ts, s'.heap.get? a = some oe ∧ oe.cls = cls ∧ oe.dict = d ∧ oe.data = .fields vs ∧ vs[0]? = some a0 ∧ vs[1]? = some (.ref T) ∧ T ≠ a ∧ s'.heap.get? T = some oT ∧ oT.data = .fields ts ∧ ts[3]? = some fl ∧ s.heap.get? T = none ∧ H' T = none
def CX1 (P : Program) (w : World) : CXT := fun outer H s E e s' => ∃ a C d H', e = .ref a ∧ Fly P w outer H s (.ref C) .none a d H' s' ∧ E (.ref C) d H'
theorem jm {P : Program} {w : World} {H : Hp} {h : Heap} {a : Addr} {o : HO} (x : aR P w H h a o) : ∃ u, h.get? a = some u := by
 cases o with
 | lst xs => obtain ⟨_, _, _, _, e⟩ := x; exact ⟨_, e⟩
 | tup xs => obtain ⟨_, _, _, p⟩ := x; obtain ⟨o, e, _⟩ := p; exact ⟨_, e⟩
 | dK kvs => obtain ⟨_, _, _, _, o, _, _, e, _⟩ := x; exact ⟨_, e⟩
 | dT kvs => obtain ⟨_, _, _, _, o, _, _, e, _⟩ := x; exact ⟨_, e⟩
 | set S n => obtain ⟨o, _, _, _, e, _⟩ := x; exact ⟨_, e⟩
 | ins C dx fs => obtain ⟨_, _, _, e, _⟩ := x; exact ⟨_, e⟩
 | own y => exact x
 | xd fs => obtain ⟨_, ⟨_, _, _, e, _⟩, _⟩ := x; exact ⟨_, e⟩
 | rng lo hi => obtain ⟨_, _, _, e⟩ := x; exact ⟨_, e⟩
 | frz ob u => obtain ⟨e, _⟩ := x; exact ⟨_, e⟩
 | tbl ps => exact ⟨_, (show h.get? a = some _ from x)⟩
 | met f y => exact ⟨_, (show h.get? a = some _ from x)⟩
 | ext φ => obtain ⟨_, e, _⟩ := x; exact e
section
variable {P : Program} {w : World} {l : List Env} {H H' : Hp} {s s' : Shared} {cls fl fl' : Value} {a : Addr} {d : Option Addr} {base : Heap}
def eO (h : Heap) (l : List Env) (a T : Addr) : Heap := W.hideAll h (a :: T :: frs l)
theorem Fly.frames (F : Fly P w l H s cls fl a d H' s') (ff : s.heap.FunFrames base l) (frf : ∀ b ∈ frs l, H b = none) : s'.heap.FunFrames base l := by
  have all : ∀ (k : List Env), (∀ b ∈ frs k, b ∈ frs l) → s.heap.FunFrames base k → s'.heap.FunFrames base k := by
    intro k
    induction k with
    | nil => intro _ _; trivial
    | cons env r ih =>
      intro hs hl
      obtain ⟨hk, ⟨L, o, hf, hn, ho, hd⟩, hr⟩ := hl
      have hL : L ∈ frs l := hs L (by unfold frs; rw [List.filterMap_cons, hf]; exact List.mem_cons_self)
      obtain ⟨sl, e⟩ := F.un.slot L o ho (frf L hL) hL (by simp)
      exact ⟨hk, ⟨L, _, hf, hn, e, hd⟩, ih (fun b hb => hs b (by unfold frs; rw [List.filterMap_cons, hf]; exact List.mem_cons_of_mem _ hb)) hr⟩
  exact all l (fun _ hb => hb) ff
theorem iA {h B B' : Heap} : ∀ {k : List Env}, h.FunFrames B k → (∀ b ∈ frs k, B'.get? b = none) → h.FunFrames B' k
 | [], _, _ => trivial
 | env :: r, ⟨hk, ⟨L, o, hf, hn, ho, hd⟩, hr⟩, hb => ⟨hk, ⟨L, o, hf, hb L (by unfold frs; rw [List.filterMap_cons, hf]; exact List.mem_cons_self), ho, hd⟩, iA hr fun b h => hb b (by unfold frs; rw [List.filterMap_cons, hf]; exact List.mem_cons_of_mem _ h)⟩
theorem Fly.moved (F : Fly P w l H s cls fl a d H' s') (ff : s.heap.FunFrames base l) (frf : ∀ b ∈ frs l, H b = none) (ffs : ∀ b ∈ frs l, H' b = none) {T : Addr} {oT : Obj} (hT0 : s.heap.get? T = none) (hT1 : H' T = none) {h' : Heap} {a0 : Value}
    (st : (eO s'.heap l a T).StaysIn h') (up : s'.heap.UpToSlots h') (tr : HT.TrD h' (eO s'.heap l a T) a cls a0 d fl') : Fly P w l H s cls fl' a d H' { s' with heap := h' } := by
  have kp : ∀ b o, s'.heap.get? b = some o → b ≠ a → b ≠ T → b ∉ frs l → h'.get? b = some o := fun b o e h1 h2 h3 => st b o (W.hideAll_get _ e (by simp [h1, h2, h3]))
  have ff' := F.frames ff frf
  have nf : ∀ b ∈ frs l, ∀ o, s'.heap.get? b = some o → ∀ vs, o.data ≠ .fields vs := fun b hb o e vs z => by
    obtain ⟨_, o', ho, hd⟩ := ff'.mem hb
    rw [e] at ho; cases ho
    exact hd vs z
  have old : ∀ b o, s.heap.get? b = some o → b ≠ a ∧ b ≠ T := fun b o e => ⟨fun z => (by rw [z, F.new] at e; cases e), fun z => (by rw [z, hT0] at e; cases e)⟩
  refine ⟨F.os, F.bare, ⟨fun b o e n hb hx => ?_, fun b o e n hb hx => ?_, F.un.free, fun b o e hx => ?_, F.un.tups, F.un.frzs, F.un.tbls⟩, fun b o e => ?_, F.new, F.free, ?_⟩
  · exact kp b o (F.un.keep b o e n hb hx) (old b o e).1 (old b o e).2 hb
  · obtain ⟨sl, e1⟩ := F.un.slot b o e n hb hx
    obtain ⟨sl', e2⟩ := up b _ e1 (nf b hb _ e1)
    exact ⟨sl', e2⟩
  · obtain ⟨o', e1⟩ := F.un.there b o e hx
    by_cases hb : b ∈ frs l
    · obtain ⟨sl', e2⟩ := up b _ e1 (nf b hb _ e1)
      exact ⟨_, e2⟩
    · exact ⟨o', kp b o' e1 (old b o e).1 (old b o e).2 hb⟩
  · refine (F.hok b o e).stay (fun c u hc q => kp c u q ?_ ?_ ?_) (fun _ q => q) fun _ _ q => q
    · rintro rfl
      rcases hc with r | r
      · rw [← r, F.free] at e; cases e
      · rw [F.free] at r; cases r
    · rintro rfl
      rcases hc with r | r
      · rw [← r, hT1] at e; cases e
      · rw [hT1] at r; cases r
    · intro hm
      rcases hc with r | r
      · rw [← r, ffs _ hm] at e; cases e
      · rw [ffs _ hm] at r; cases r
  · obtain ⟨oe, vs, T', oT', ts, he, hc, hdc, hd, h0, h1, hn, hne, hT', hdT, h3⟩ := tr.ex
    have key : s'.heap.get? T' = none ∨ T' = T := by
      cases q : s'.heap.get? T' with
      | none => exact .inl rfl
      | some o =>
        refine .inr (Classical.byContradiction fun hz => ?_)
        by_cases hf : T' ∈ frs l
        · obtain ⟨sl', e2⟩ := up T' o q (nf T' hf o q)
          rw [hT'] at e2; cases e2
          exact nf T' hf o q ts hdT
        · have : (eO s'.heap l a T).get? T' = some o := W.hideAll_get _ q (by simp [hz, hne, hf])
          rw [hn] at this; cases this
    refine ⟨oe, vs, a0, T', oT', ts, he, hc, hdc, hd, h0, h1, hne, hT', hdT, h3, ?_, ?_⟩
    · rcases key with z | z
      · cases q : s.heap.get? T' with
        | none => rfl
        | some o =>
          obtain ⟨o', e⟩ := F.un.there T' o q (by simp)
          rw [z] at e; cases e
      · rw [z]; exact hT0
    · rcases key with z | z
      · cases q : H' T' with
        | none => rfl
        | some o =>
          obtain ⟨o1, e1⟩ := jm (F.hok T' o q)
          rw [z] at e1; cases e1
      · rw [z]; exact hT1
end
end L2
namespace L2
open PySem PySem.Spec PyProof.Rows
section
variable {X : Cx} {pins : List (Addr × Obj)} {σ : St} {H H' : Hp} {s s' : Shared} {cls fl : Value} {a : Addr} {d : Option Addr}
theorem Fly.inv (I : Inv X pins σ H s) (F : Fly X.prog X.w X.stack H s cls fl a d H' s') : Inv X pins σ H' s' := I.call' (ch := []) F.os F.un F.hok F.bare fun b z => absurd z (by simp)
theorem Fly.up (I : Inv X pins σ H s) (hex : X.ex = []) (F : Fly X.prog X.w X.stack H s cls fl a d H' s') : Fly X.prog X.w X.outer X.H₀ X.s₀ cls fl a d H' s' := by
  have I2 := F.inv I
  have back : ∀ b, s.heap.get? b = none → X.s₀.heap.get? b = none := fun b e => by
    cases q : X.s₀.heap.get? b with
    | none => rfl
    | some o =>
      obtain ⟨o', e'⟩ := I.base.there b o q (by rw [hex]; simp)
      rw [e] at e'; cases e'
  obtain ⟨oe, vs, a0, T, oT, ts, h1, h2, hd, h3, h4, h5, h6, h7, h8, h9, h10, h11⟩ := F.tr
  have b := I2.base
  rw [hex] at b
  exact ⟨I2.os, I2.bare, b, I2.hok, back a F.new, F.free, oe, vs, a0, T, oT, ts, h1, h2, hd, h3, h4, h5, h6, h7, h8, h9, back T h10, h11⟩
theorem Fly.flying (I : Inv X pins σ H s) (F : Fly X.prog X.w X.stack H s cls .none a d H' s') : ∃ T a0, s.heap.get? T = none ∧ H' T = none ∧ (eO s'.heap X.stack a T).StaysIn s'.heap ∧ (eO s'.heap X.stack a T).get? a = none ∧ s'.heap.FunFrames (eO s'.heap X.stack a T) X.stack ∧
  HT.TrD s'.heap (eO s'.heap X.stack a T) a cls a0 d .none := by
 obtain ⟨oe, vs, a0, T, oT, ts, h1, h2, hd, h3, h4, h5, h6, h7, h8, h9, h10, h11⟩ := F.tr
 exact ⟨T, a0, h10, h11, fun b o e => W.of_hideAll _ e, W.hideAll_none _ (by simp), iA (F.frames I.stack I.stkFree) fun b hb => W.hideAll_none _ (by simp [hb]), ⟨oe, vs, T, oT, ts, h1, h2, hd, h3, h4, h5, W.hideAll_none _ (by simp), h6, h7, h8, h9⟩⟩
end
structure uT (P : Program) (w : World) (l : List Env) (H : Hp) (s : Shared) (cls : Value) (a : Addr) (d : Option Addr) (H' : Hp) (s' : Shared) : Prop where
 os : s'.os = s.os
 bare : AllBare s'.gens
 un : Un (frs l) [] H H' s.heap s'.heap
 hok : HOk P w H' s'.heap
 new : s.heap.get? a = none
 free : H' a = none
 tr : ∃ oe vs a0, s'.heap.get? a = some oe ∧ oe.cls = cls ∧ oe.dict = d ∧ oe.data = .fields vs ∧ vs[0]? = some a0 ∧ vs[1]? = some .none
section
variable {P : Program} {w : World} {l : List Env} {H H' : Hp} {s s' : Shared} {cls fl' : Value} {a : Addr} {d : Option Addr} {base : Heap}
theorem lb (un : Un (frs l) [] H H' s.heap s'.heap) (ff : s.heap.FunFrames base l) (frf : ∀ b ∈ frs l, H b = none) : s'.heap.FunFrames base l := by
  have all : ∀ (k : List Env), (∀ b ∈ frs k, b ∈ frs l) → s.heap.FunFrames base k → s'.heap.FunFrames base k := by
    intro k
    induction k with
    | nil => intro _ _; trivial
    | cons env r ih =>
      intro hs hl
      obtain ⟨hk, ⟨L, o, hf, hn, ho, hd⟩, hr⟩ := hl
      have hL : L ∈ frs l := hs L (by unfold frs; rw [List.filterMap_cons, hf]; exact List.mem_cons_self)
      obtain ⟨sl, e⟩ := un.slot L o ho (frf L hL) hL (by simp)
      exact ⟨hk, ⟨L, _, hf, hn, e, hd⟩, ih (fun b hb => hs b (by unfold frs; rw [List.filterMap_cons, hf]; exact List.mem_cons_of_mem _ hb)) hr⟩
  exact all l (fun _ hb => hb) ff
theorem uT.moved (F : uT P w l H s cls a d H' s') (ff : s.heap.FunFrames base l) (frf : ∀ b ∈ frs l, H b = none) (ffs : ∀ b ∈ frs l, H' b = none) {h' : Heap} {a0 : Value}
    (st : (eO s'.heap l a a).StaysIn h') (up : s'.heap.UpToSlots h') (tr : HT.TrD h' (eO s'.heap l a a) a cls a0 d fl') : Fly P w l H s cls fl' a d H' { s' with heap := h' } := by
  have kp : ∀ b o, s'.heap.get? b = some o → b ≠ a → b ∉ frs l → h'.get? b = some o := fun b o e h1 h3 => st b o (W.hideAll_get _ e (by simp [h1, h3]))
  have ff' := lb F.un ff frf
  have nf : ∀ b ∈ frs l, ∀ o, s'.heap.get? b = some o → ∀ vs, o.data ≠ .fields vs := fun b hb o e vs z => by
    obtain ⟨_, o', ho, hd⟩ := ff'.mem hb
    rw [e] at ho; cases ho
    exact hd vs z
  have old : ∀ b o, s.heap.get? b = some o → b ≠ a := fun b o e z => by rw [z, F.new] at e; cases e
  refine ⟨F.os, F.bare, ⟨fun b o e n hb hx => ?_, fun b o e n hb hx => ?_, F.un.free, fun b o e hx => ?_, F.un.tups, F.un.frzs, F.un.tbls⟩, fun b o e => ?_, F.new, F.free, ?_⟩
  · exact kp b o (F.un.keep b o e n hb hx) (old b o e) hb
  · obtain ⟨sl, e1⟩ := F.un.slot b o e n hb hx
    obtain ⟨sl', e2⟩ := up b _ e1 (nf b hb _ e1)
    exact ⟨sl', e2⟩
  · obtain ⟨o', e1⟩ := F.un.there b o e hx
    by_cases hb : b ∈ frs l
    · obtain ⟨sl', e2⟩ := up b _ e1 (nf b hb _ e1)
      exact ⟨_, e2⟩
    · exact ⟨o', kp b o' e1 (old b o e) hb⟩
  · refine (F.hok b o e).stay (fun c u hc q => kp c u q ?_ ?_) (fun _ q => q) fun _ _ q => q
    · rintro rfl
      rcases hc with r | r
      · rw [← r, F.free] at e; cases e
      · rw [F.free] at r; cases r
    · intro hm
      rcases hc with r | r
      · rw [← r, ffs _ hm] at e; cases e
      · rw [ffs _ hm] at r; cases r
  · obtain ⟨oe, vs, T', oT', ts, he, hc, hdc, hd, h0, h1, hn, hne, hT', hdT, h3⟩ := tr.ex
    have key : s'.heap.get? T' = none := by
      cases q : s'.heap.get? T' with
      | none => rfl
      | some o =>
        by_cases hf : T' ∈ frs l
        · obtain ⟨sl', e2⟩ := up T' o q (nf T' hf o q)
          rw [hT'] at e2; cases e2
          exact (nf T' hf o q ts hdT).elim
        · have : (eO s'.heap l a a).get? T' = some o := W.hideAll_get _ q (by simp [hne, hf])
          rw [hn] at this; cases this
    refine ⟨oe, vs, a0, T', oT', ts, he, hc, hdc, hd, h0, h1, hne, hT', hdT, h3, ?_, ?_⟩
    · cases q : s.heap.get? T' with
      | none => rfl
      | some o =>
        obtain ⟨o', e⟩ := F.un.there T' o q (by simp)
        rw [key] at e; cases e
    · cases q : H' T' with
      | none => rfl
      | some o =>
        obtain ⟨o1, e1⟩ := jm (F.hok T' o q)
        rw [key] at e1; cases e1
end
def eQ (CX : CXT) (X : Cx) (E : St → XK) : Prop := ∀ (pins : List (Addr × Obj)) (σ : St) (H : Hp) (s : Shared) (e : Value) (s' : Shared), Inv X pins σ H s → CX X.stack H s (E σ) e s' → X.xe e s'
def si (X : Cx) (E : St → XK) : Prop := ∀ (pins : List (Addr × Obj)) (σ : St) (H : Hp) (s : Shared) (C a : Addr) (d : Option Addr) (H2 : Hp) (s2 : Shared), Inv X pins σ H s → uT X.prog X.w X.stack H s (.ref C) a d H2 s2 → E σ (.ref C) d H2 → X.xe (.ref a) s2
theorem cq {P : Program} {w : World} {X : Cx} : eQ (CX1 P w) X (fun _ => E0) := fun pins σ H s e s' I ⟨_, _, _, _, _, _, h⟩ => h.elim
section
variable {P : Program} {w : World} {K : W.Frag} {mg : Str → Option Value} {base : Heap} {N : List Str} {qual : Str} {scope : Scope} {f : Addr} {cd : Value} {A : Around} {outer : List Env} {s : Shared} {H : Hp} {E : XK}
theorem sU : si (de (CX1 P w) P w K mg base N qual scope f cd A outer s H E) (fun _ => E) := by
 intro pins σ H1 s1 C a d H2 s2 I F hE
 have I2 : Inv (de (CX1 P w) P w K mg base N qual scope f cd A outer s H E) pins σ H2 s2 := I.call' (ch := []) F.os F.un F.hok F.bare fun b z => absurd z (by simp)
 obtain ⟨oe, vs, a0, he, hc, hdc, hd, h0, h1⟩ := F.tr
 refine HT.nK I.ok.frames (iA (B' := eO s2.heap (de (CX1 P w) P w K mg base N qual scope f cd A outer s H E).stack a a) (lb F.un I.stack I.stkFree) fun b hb => W.hideAll_none _ (List.mem_cons_of_mem _ (List.mem_cons_of_mem _ hb))) rfl he hc hdc (fun b o e => W.of_hideAll _ e) (W.hideAll_none _ (by simp)) hd h1 h0 fun h' n => ?_
 have F2 := F.moved I.stack I.stkFree I2.stkFree n.st n.up n.tr
 exact ⟨a, C, d, H2, rfl, F2.up I rfl, hE⟩
end
def aw (sp : Sp) (E : St → XK) (t : TA) : TE := fun σ H Q => t σ H fun vs H1 => sp vs H1 Q (E σ)
section
variable {X : Cx} {CX : CXT} {k : Nat} {f : Addr} {fd : FuncData} {ps : List Str} {sp : Sp} {E : St → XK} {x : Str} {p pos : Pos} {e : Expr} {es : List Expr} {t : TA}
theorem kP {pins : List (Addr × Obj)} {σ : St} {H : Hp} {s : Shared} {Q : VK} {us : List Value} {vs : List V} (F : aV X.prog X.w X.K X.mg X.base CX k f fd ps sp) (hr : bc k X.A) (hb : bY X.K fd ps []) (hx : eQ CX X E)
    (I : Inv X pins σ H s) (r : aK vs us) (h : sp vs H Q (E σ)) : wpAny (model X.prog X.w) X.A (call (.ref f) us) (EP X pins σ Q) X.xe s := by
  have hl : us.length = ps.length := by rw [← r.length]; exact F.len _ _ _ _ h
  have hb' := hb s us I.kIn (by rw [List.append_nil]; exact hl)
  rw [List.append_nil] at hb'
  refine wpAny_call (codeAny_mono (F.run X.A X.stack s H ⟨us, []⟩ us vs Q (E σ) hr I.env0 hb' r h) fun r s' hq => ?_)
  cases r with
  | error e => exact hx pins σ H s e s' I hq
  | ok fl =>
    cases fl with
    | ret u => exact I.after hq
    | next => exact False.elim hq
    | brk => exact False.elim hq
    | cont => exact False.elim hq
theorem pq (F : aV X.prog X.w X.K X.mg X.base CX k f fd ps sp) (hr : bc k X.A) (hm : X.mg x = some (.ref f)) (hk : W.keepIn X.K (.ref f) = true) (hb : bY X.K fd ps []) (hx : eQ CX X E)
  (ha : QA X (e :: es) t) (hg : Gl X x := by rfl) (hdb : (x == ("__debug__" : Str)) = false := by decide) (hs : aZ (e :: es) = true := by rfl) : QE X (.Call (.Name x p) (e :: es) [] pos) (aw sp E t) := by
 refine ⟨fun pins s σ H Q I h => ?_⟩
 have h' : (bL e && aZ es) = true := hs
 refine wpAny_Call_Name_kw (gs I hg hm ?_ hdb)
 refine W.callWith_K (h₀ := X.base) I.ok.mod.kin hk (thn (ha.out pos pins s σ H _ I h) fun us s1 ⟨vs, H1, I1, r, q⟩ => ⟨I1.kIn, ?_⟩) (aX (Bool.and_eq_true_iff.mp h').1 es X.env) (bJ (Bool.and_eq_true_iff.mp h').2)
 exact kP F hr hb hx I1 r q
theorem nG (F : aV X.prog X.w X.K X.mg X.base CX k f fd ps sp) (hr : bc k X.A) (hm : X.mg x = some (.ref f)) (hk : W.keepIn X.K (.ref f) = true) (hb : bY X.K fd ps []) (hx : eQ CX X E)
  (hg : Gl X x := by rfl) (hdb : (x == ("__debug__" : Str)) = false := by decide) : QE X (.Call (.Name x p) [] [] pos) (aw sp E af) := by
 refine ⟨fun pins s σ H Q I h => ?_⟩
 refine wpAny_Call_Name_kw (gs I hg hm ?_ hdb)
 exact W.callWith_K0 I.kIn hk (kP (us := []) F hr hb hx I .nil h)
end
theorem Fun.okX {P : Program} {w : World} {K : W.Frag} {mg : Str → Option Value} {base : Heap} {x qual : Str} {st : Stmt} {f : Addr} {fd : FuncData} {N ps : List Str} {k : Nat} {sp : Sp} (F : Fun K x qual st f fd) (S : aF N ps (am st)) (len : ∀ vs H Q E, sp vs H Q E → vs.length = ps.length)
  (hbody : ∀ (cdv : Value) (A : Around) (outer : List Env) (s : Shared) (H : Hp) (vs : List V) (Q : VK) (E : XK), bc k (A.deeper (envOfC qual (am st) s.heap.objs.size f cdv)) → sp vs H Q E →
   ∃ t, PSs (de (CX1 P w) P w K mg base N qual (am st) f cdv A outer s H E) (aQ st) t ∧ t { nx := fun _ H' => Q .non H', rt := Q } (start N vs) H) : aV P w K mg base (CX1 P w) (k + 1) f fd ps sp := by
 obtain ⟨oc, od, kV, doc, pm, an, cdv, ct, osl, rfl, lk, hcd⟩ := F.ex
 exact wM lk hcd S len fun A outer s H vs Q E hr hsp => hbody cdv A outer s H vs Q E hr hsp
end L2
namespace L2
open PySem PySem.Spec PyProof.Rows
def ki (C : Addr) (d : Option Addr) (a : Addr) : HO := .ext fun h => ∃ o vs, h.get? a = some o ∧ o.cls = .ref C ∧ o.dict = d ∧ o.data = .fields vs
theorem xt {P : Program} {w : World} {H : Hp} {h : Heap} {C a : Addr} {d : Option Addr} {o : Obj} {vs : Array Value} (e : h.get? a = some o) (hc : o.cls = .ref C) (hdc : o.dict = d) (hd : o.data = .fields vs) : aR P w H h a (ki C d a) :=
 ⟨⟨o, vs, e, hc, hdc, hd⟩, ⟨o, e⟩, fun h1 h2 ⟨o1, vs1, e1, c1, x1, d1⟩ k => ⟨o1, vs1, k o1 e1, c1, x1, d1⟩⟩
theorem xS {P : Program} {w : World} {H : Hp} {h : Heap} {C a : Addr} {d : Option Addr} (x : aR P w H h a (ki C d a)) : ∃ o vs, h.get? a = some o ∧ o.cls = .ref C ∧ o.dict = d ∧ o.data = .fields vs := x.1
section
variable {X : Cx} {pins : List (Addr × Obj)} {σ : St} {H H1 H' : Hp} {s s0 : Shared} {a : Addr} {o : HO}
theorem Inv.track (I0 : Inv X pins σ H1 s0) (hex : X.ex = []) (I : Inv X pins σ H s) (new : s0.heap.get? a = none) (hn : H a = none) (ok : aR X.prog X.w (upd H a o) s.heap a o) : Inv X pins σ (upd H a o) s := by
 have ne : ∀ b u, s0.heap.get? b = some u → b ≠ a := fun b u e z => by rw [z, new] at e; cases e
 have ne0 : ∀ b u, X.s₀.heap.get? b = some u → b ≠ a := fun b u e => by
   obtain ⟨u', e'⟩ := I0.base.there b u e (by rw [hex]; simp)
   exact ne b u' e'
 have nL : X.env.locals ≠ a := by
   obtain ⟨m, ⟨o', _, _, e, _⟩, _⟩ := I0.loc
   exact ne _ _ e
 refine ⟨I.ok, I.os, I.bare, ⟨I.base.keep, I.base.slot, fun b u e n hx => ?_, I.base.there, fun b xs e => ?_, fun b u v e => ?_, fun b ps e => ?_⟩, I.loc, I.cell, ?_, fun x c e => ?_, fun p hp => ?_, fun b u e => ?_, I.len⟩
 · rw [ak (ne0 b u e)]; exact I.base.free b u e n hx
 · have := I.base.tups b xs e
   rw [ak (ar this hn)]; exact this
 · have := I.base.frzs b u v e
   rw [ak (ar this hn)]; exact this
 · obtain ⟨more, this⟩ := I.base.tbls b ps e
   exact ⟨more, by rw [ak (ar this hn)]; exact this⟩
 · rw [ak nL]; exact I.free
 · obtain ⟨v, o', e', _⟩ := I0.cell x c e
   rw [ak (ne _ _ e')]; exact I.freeC x c e
 · obtain ⟨h1, h2, h3⟩ := I.pin p hp
   exact ⟨h1, by rw [ak (ne _ _ (I0.pin p hp).1)]; exact h2, h3⟩
 · by_cases hb : b = a
   · subst hb
     rw [ag] at e; cases e
     exact ok
   · rw [ak hb] at e
     exact (I.hok b u e).stay (fun c v _ q => q) (fun c q => by
      have : c ≠ a := ar q hn
      rw [ak this]; exact q) fun c xs q => by
      have : c ≠ a := ar q hn
      rw [ak this]; exact q
end
def cxH (X : Cx) (a : Addr) : Cx := { X with A := X.A.mark (some (.ref a)), calm := false, xe := fun _ _ => False }
section
variable {X : Cx} {pins : List (Addr × Obj)} {σ : St} {H : Hp} {s : Shared} {a : Addr}
theorem Cx.Ok.toH (ok : X.Ok) : (cxH X a).Ok := ⟨ok.mod, ok.kind, ok.glob, ok.blt, ok.above, ok.inj, ok.has, ok.cab, fun h => absurd (show false = true from h) Bool.false_ne_true, ok.frames, ok.stk, ok.exf, ok.bs, ok.bsz, ok.noex, ok.exfs, ok.funs, ok.frf⟩
theorem Inv.toH (I : Inv X pins σ H s) : Inv (cxH X a) pins σ H s := ⟨I.ok.toH, I.os, I.bare, I.base, I.loc, I.cell, I.free, I.freeC, I.pin, I.hok, I.len⟩
theorem Inv.ofH (ok : X.Ok) (I : Inv (cxH X a) pins σ H s) : Inv X pins σ H s := ⟨ok, I.os, I.bare, I.base, I.loc, I.cell, I.free, I.freeC, I.pin, I.hok, I.len⟩
theorem SP.ofH {D : eC} {f : Flow} (ok : X.Ok) (h : SP (cxH X a) pins D f s) : SP X pins D f s := by
 cases f with
 | next => obtain ⟨σ', H', J, q⟩ := h; exact ⟨σ', H', J.ofH ok, q⟩
 | brk => obtain ⟨σ', H', J, q⟩ := h; exact ⟨σ', H', J.ofH ok, q⟩
 | cont => obtain ⟨σ', H', J, q⟩ := h; exact ⟨σ', H', J.ofH ok, q⟩
 | ret u => obtain ⟨v, σ', H', J, r, q⟩ := h; exact ⟨v, σ', H', J.ofH ok, r, q⟩
end
abbrev TH := eC → St → Addr → Option Addr → Hp → Prop
def PH (X : Cx) (hs : List ExceptHandler) (t : TH) : Prop := ∀ (pins : List (Addr × Obj)) (s0 : Shared) (σ : St) (H1 H' : Hp) (C a : Addr) (d : Option Addr) (s3 : Shared) (D : eC), X.stack = X.env :: X.outer → X.env.frame = some X.env.locals → X.ex = [] →
 Inv X pins σ H1 s0 → Fly X.prog X.w X.stack H1 s0 (.ref C) .none a d H' s3 → dg X.K C → t D σ C d H' → wpAny (model X.prog X.w) X.A (handleBy (.ref a) X.env hs) (SP X pins D) X.xe s3
structure QH (X : Cx) (hs : List ExceptHandler) (t : TH) : Prop where
 out : PH X hs t
def wB : TH := fun _ _ _ _ _ => False
def rh (i : Nat) (D : eC) : eC := ⟨fun σ H => D.nx (σ.set i none) H, D.rt, fun σ H => D.bk (σ.set i none) H, fun σ H => D.ct (σ.set i none) H⟩
def hAs (K : W.Frag) (Dc : Addr) (i : Nat) (ts : TS) (r : TH) : TH := fun D σ C d H => ∃ b, gG K C Dc = some b ∧ Sel b (∀ a, H a = none → ts (rh i D) (σ.set i (some (.ref a))) (upd H a (ki C d a))) (r D σ C d H)
section
variable {X : Cx}
theorem AA : QH X [] wB := ⟨fun _ _ _ _ _ _ _ _ _ _ _ _ _ _ _ _ h => h.elim⟩
theorem sK {pins : List (Addr × Obj)} {σ : St} {H H' : Hp} {s s' : Shared} {cls : Value} {a : Addr} {d : Option Addr} {M : Model} {A : Around} {E : Value → Shared → Prop} {Q : Unit → Shared → Prop} (I : Inv X pins σ H s) (F : Fly X.prog X.w X.stack H s cls .none a d H' s')
  (hQ : ∀ s'', Fly X.prog X.w X.stack H s cls .none a d H' s'' → Q () s'') : wpAny M A (setFlight (.ref a) none) Q E s' := by
 obtain ⟨T, a0, hT0, hT1, f1, f2, f3, f4⟩ := F.flying I
 refine HT.kE f1 f3 f4 fun h' n => ?_
 exact hQ _ (F.moved (oT := { cls := .none, data := .dict #[] }) I.stack I.stkFree (F.inv I).stkFree hT0 hT1 n.st n.up n.tr)
variable {x n : Str} {np hp : Pos} {Dc : Addr} {b0 : Stmt} {suite : List Stmt} {bX : List ExceptHandler} {ts : TS} {r : TH} {i : Nat}
theorem uG {A : Around} {E : Value → Shared → Prop} {pins : List (Addr × Obj)} {s : Shared} {σ : St} {H : Hp} {u : Value} {pos : Pos} {Q : Value → Shared → Prop} (I : Inv X pins σ H s) (hg : Gl X x) (hm : X.mg x = some u) (h : Q u s)
  (hd : (x == ("__debug__" : Str)) = false := by decide) : wpAny (model X.prog X.w) A (eval (.Name x pos) X.env) Q E s :=
 Calls.Name_function_global I.ok.kind hg (Calls.loadGlobal_global (by rw [I.ok.glob]; exact I.mod.glob.keeps I.bk) hm h) hd
theorem Bi (i : Nat) (hN : X.N.Nodup) (hD : dg X.K Dc) (hm : X.mg x = some (.ref Dc)) (hs : ∀ a, QSs (cxH X a) (b0 :: suite) ts) (hr : QH X bX r) (hg : Gl X x := by rfl) (hdb : (x == ("__debug__" : Str)) = false := by decide)
    (hi : X.N[i]? = some n := by rfl) (hl : X.env.scope.names.lookup n = some .local := by rfl) :
    QH X (.ExceptHandler (some (.Name x np)) (some n) (b0 :: suite) hp :: bX) (hAs X.K Dc i ts r) := by
  refine ⟨fun pins s0 σ H1 H' C a d s3 D e1 e2 hex I F hC h => ?_⟩
  obtain ⟨b, hb, q⟩ := h
  have I3 := F.inv I
  obtain ⟨oe, vs, _, _, _, _, he, hc, hdc, hd, _⟩ := F.tr
  refine wpAny_handleBy_cons (codeAny_handlers_test (uG I3 hg hm ?_ hdb)) (by intro q; cases q)
  refine kM I3.kIn hC hD he hc hb ?_
  have q := dm q
  cases b with
  | false => exact hr.out pins s0 σ H1 H' C a d s3 D e1 e2 hex I F hC q
  | true =>
    refine codeAny_handlers_suite_as (sK I F fun s4 F4 => ?_)
    have I4 := F4.inv I
    obtain ⟨oe4, vs4, _, _, _, _, he4, hc4, hdc4, hd4, _⟩ := F4.tr
    have I5 : Inv X pins σ (upd H' a (ki C d a)) s4 := Inv.track I hex I4 F.new F.free (xt he4 hc4 hdc4 hd4)
    have hcls : (X.env.scope.kind == .class || (X.env.scope.kind == .module && X.env.locals != X.env.globals)) = false := by rw [I.ok.kind]; rfl
    refine eK (v := .ref a) I5 hN hi (.inl hl) rfl (fun s6 I6 => ?_) (.inr hl)
    refine wpAny_mono ((hs a).out pins s6 _ _ (rh i D) I6.toH (q a F.free)) (fun f s7 h7 => ?_) fun _ _ z => z.elim
    have h7 := SP.ofH I.ok h7
    have go : ∀ {σ' : St} {H'' : Hp} {Q : Unit → Shared → Prop}, Inv X pins σ' H'' s7 → (∀ s8, Inv X pins (σ'.set i none) H'' s8 → Q () s8) → wpAny (model X.prog X.w) X.A (do bindName X.env n .none; unbindBehindTheSuite X.env n hp) Q X.xe s7 := fun {σ' H'' Q} J hQ => by
      obtain ⟨m, hn, hloc⟩ := id J.loc
      refine wpAny_nameGoes_keeps hl hn hcls fun h' v hn' hs' => hQ _ ?_
      obtain ⟨oL, _, _, hoL, _⟩ := id hn
      refine ⟨J.ok, J.os, J.bare, ⟨fun b o e n hb hx => ?_, fun b o e n hb hx => ?_, J.base.free, fun b o e hx => ?_, J.base.tups, J.base.frzs, J.base.tbls⟩, ⟨_, hn', fun j y v' e1 e2 e3 => ?_⟩, fun y c e => ?_, J.free, J.freeC, fun p hp => ?_, fun b ob e => ?_, by simpa using J.len⟩
      · exact (hs'.2 b (Nat.ne_of_lt (Nat.lt_of_lt_of_le (Heap.lt_size e) J.ok.above))).trans (J.base.keep b o e n hb hx)
      · obtain ⟨sl, e1⟩ := J.base.slot b o e n hb hx
        exact ⟨sl, (hs'.2 b (Nat.ne_of_lt (Nat.lt_of_lt_of_le (Heap.lt_size e) J.ok.above))).trans e1⟩
      · obtain ⟨o', e1⟩ := J.base.there b o e hx
        exact ⟨o', (hs'.2 b (Nat.ne_of_lt (Nat.lt_of_lt_of_le (Heap.lt_size e) J.ok.above))).trans e1⟩
      · have hji : j ≠ i := by
          rintro rfl
          have : j < σ'.length := by rw [J.len]; exact (List.getElem?_eq_some_iff.mp hi).1
          rw [List.getElem?_set_self this] at e2; cases e2
        rw [List.getElem?_set_ne (Ne.symm hji)] at e2
        obtain ⟨u, ru, lk⟩ := hloc j y v' e1 e2 e3
        refine ⟨u, ru, ?_⟩
        rcases lk with ⟨k, e⟩ | ⟨k, c, e, z⟩
        · refine .inl ⟨k, ?_⟩
          have : y ≠ n := fun e => hji (jy hN e1 (e ▸ hi))
          simp [this, e]
        · exact .inr ⟨k, c, e, z.sameBut hs' (J.cne y c e)⟩
      · obtain ⟨w', z⟩ := J.cell y c e
        exact ⟨w', z.sameBut hs' (J.cne y c e)⟩
      · obtain ⟨e, n, ne, nf, d⟩ := J.pin p hp
        exact ⟨(hs'.2 p.1 ne).trans e, n, ne, nf, d⟩
      · refine (J.hok b ob e).stay (fun c w' hc q => (hs'.2 c ?_).trans q) (fun _ q => q) fun _ _ q => q
        rintro rfl
        rcases hc with r | hc
        · rw [← r, J.free] at e; cases e
        · rw [J.free] at hc; cases hc
    cases f with
    | next => obtain ⟨σ', H'', J, q'⟩ := h7; exact go J fun s8 J8 => ⟨_, _, J8, q'⟩
    | brk => obtain ⟨σ', H'', J, q'⟩ := h7; exact go J fun s8 J8 => ⟨_, _, J8, q'⟩
    | cont => obtain ⟨σ', H'', J, q'⟩ := h7; exact go J fun s8 J8 => ⟨_, _, J8, q'⟩
    | ret u => obtain ⟨v, σ', H'', J, rv, q'⟩ := h7; exact go J fun s8 J8 => ⟨v, _, _, J8, rv, q'⟩
end
end L2
namespace L2
open PySem PySem.Spec PyProof.Rows
def AI (K : W.Frag) (tb : (St → XK) → TS) (th : TH) (te : TS) : TS := fun D σ H =>
 tb (fun σ' cls d H' => ∃ C, cls = .ref C ∧ dg K C ∧ th D σ' C d H') { D with nx := te D } σ H
abbrev cxT (X : Cx) (pn : List (Addr × Obj)) (E' : Value → Shared → Prop) : Cx := { X with pn := pn, xe := E' }
section
variable {X : Cx} {pins pn : List (Addr × Obj)} {σ : St} {H : Hp} {s : Shared} {E' : Value → Shared → Prop}
theorem Cx.Ok.toT (ok : X.Ok) : (cxT X pn E').Ok := ⟨ok.mod, ok.kind, ok.glob, ok.blt, ok.above, ok.inj, ok.has, ok.cab, ok.hd, ok.frames, ok.stk, ok.exf, ok.bs, ok.bsz, ok.noex, ok.exfs, ok.funs, ok.frf⟩
theorem Inv.toT (I : Inv X pins σ H s) : Inv (cxT X (X.pn ++ pins) E') [] σ H s := ⟨I.ok.toT, I.os, I.bare, I.base, I.loc, I.cell, I.free, I.freeC, fun p hp => I.pin p (by
 have hp : p ∈ (X.pn ++ pins) ++ [] := hp
 rwa [List.append_nil] at hp), I.hok, I.len⟩
theorem Inv.ofT {pins' : List (Addr × Obj)} (ok : X.Ok) (I : Inv (cxT X (X.pn ++ pins) E') pins' σ H s) : Inv X pins σ H s := ⟨ok, I.os, I.bare, I.base, I.loc, I.cell, I.free, I.freeC, fun p hp => I.pin p (List.mem_append_left _ hp), I.hok, I.len⟩
theorem BV {body orelse : List Stmt} {h0 : ExceptHandler} {hs : List ExceptHandler} {pos : Pos} {tb : (St → XK) → TS} {te : TS} {th : TH}
    (hb : ∀ (pn' : List (Addr × Obj)) (E' : Value → Shared → Prop) (EH : St → XK), eQ (CX1 X.prog X.w) (cxT X pn' E') EH → QSs (cxT X pn' E') body (tb EH)) (hh : QH X (h0 :: hs) th) (he : QSs X orelse te)
    (e1 : X.stack = X.env :: X.outer := by rfl) (e2 : X.env.frame = some X.env.locals := by rfl) (hex : X.ex = [] := by rfl) : QS X (.Try body (h0 :: hs) orelse [] pos) (AI X.K tb th te) := by
  refine ⟨fun pins s σ H D I h => ?_⟩
  let E' : Value → Shared → Prop := fun e s1 => ∃ σ1 H1 s0 C a d H', e = .ref a ∧ Inv X pins σ1 H1 s0 ∧ Fly X.prog X.w X.stack H1 s0 (.ref C) .none a d H' s1 ∧ dg X.K C ∧ th D σ1 C d H'
  have pass : eQ (CX1 X.prog X.w) (cxT X (X.pn ++ pins) E') (fun σ' cls d H' => ∃ C, cls = .ref C ∧ dg X.K C ∧ th D σ' C d H') := by
    intro pins' σ1 H1 s0 e s1 I1 hx
    obtain ⟨a, C, d, H', rfl, F, C', ec, hC, ht⟩ := hx
    cases ec
    exact ⟨σ1, H1, s0, C, a, d, H', rfl, I1.ofT I.ok, F, hC, ht⟩
  refine wpAny_Try_except (wpAny_mono ((hb (X.pn ++ pins) E' _ pass).out [] s σ H _ I.toT h) (fun f s1 h1 => ?_) fun e s1 h1 => ?_)
  · cases f with
    | next =>
      obtain ⟨σ', H', J, q⟩ := h1
      exact he.out pins s1 σ' H' D (J.ofT I.ok) q
    | brk => obtain ⟨σ', H', J, q⟩ := h1; exact ⟨σ', H', J.ofT I.ok, q⟩
    | cont => obtain ⟨σ', H', J, q⟩ := h1; exact ⟨σ', H', J.ofT I.ok, q⟩
    | ret u => obtain ⟨v, σ', H', J, rv, q⟩ := h1; exact ⟨v, σ', H', J.ofT I.ok, rv, q⟩
  · obtain ⟨σ1, H1, s0, C, a, d, H', rfl, I1, F, hC, ht⟩ := h1
    obtain ⟨T, a0, hT0, hT1, f1, f2, f3, f4⟩ := F.flying I1
    have hfr := I1.ok.frames
    rw [e1] at hfr
    have f3' := f3
    rw [e1] at f3'
    have f1' := f1
    have f2' := f2
    have f4' := f4
    rw [e1] at f1' f2' f4'
    refine HT.qk hfr f3' e2 f4' f1' f2' fun h' n1 => ?_
    refine HT.kE (s := { s1 with heap := h' }) n1.st n1.fr n1.tr fun h'' n2 => ?_
    have st : (eO s1.heap X.stack a T).StaysIn h'' := by rw [e1]; exact n2.st
    have tr : HT.TrD h'' (eO s1.heap X.stack a T) a (.ref C) a0 d .none := by rw [e1]; exact n2.tr
    have F3 := F.moved (oT := { cls := .none, data := .dict #[] }) I1.stack I1.stkFree (F.inv I1).stkFree hT0 hT1 st (n1.up.trans n2.up) tr
    exact hh.out pins s0 σ1 H1 H' C a d _ D e1 e2 hex I1 F3 hC ht
end
section
variable {X : Cx}
end
end L2
namespace L2
open PySem PySem.Spec PyProof.Rows
structure iF (K : W.Frag) (C : Addr) : Prop where
 ga : W.findIn K (.ref C) "__getattribute__" = some (some (.builtin "BaseException.__getattribute__"))
 na : W.findIn K (.ref C) "__getattr__" = some none
 cl : W.findIn K (.ref C) "__class__" = some (some (.builtin "object.__class__"))
 mo : W.mroIn K C (.type "object") = some true
 mb : W.mroIn K C (.type "BaseException") = some true
section
variable {K : W.Frag} {prog : Program} {w : World} {A : Around} {E : Value → Shared → Prop} {h : Heap} {g : Array GenState} {d : Drawn} {t : Nat} {os : OsState} {a C : Addr} {o : Obj}
theorem ur {M : Model} {nameV : Value} {Q : Unit → Shared → Prop} (X : K.In h) (G : iF K C) (hx : h.get? a = some o) (hc : o.cls = .ref C) (hq : Q () ⟨h, g, d, t, os⟩) : wpAny M A (checkBuiltinCall "BaseException.__getattribute__" ⟨[.ref a, nameV], []⟩) Q E ⟨h, g, d, t, os⟩ := by
 have hk : builtinKind "BaseException.__getattribute__" = some .slot := by decide +kernel
 have hsplit : splitId "BaseException.__getattribute__" = some ("BaseException", "__getattribute__") := by decide +kernel
 have f8 := W.looks_mroIn (M := M) X G.mb
 have ha := F.args_bexc_ga (.ref a) nameV
 simp only [checkBuiltinCall, hk, hsplit]
 refine wpAny_bind ?_
 · unfold isInstance
   repeat (first | (with_reducible refine wpAny_loadPart_at hx ?_; rw [hc]) | with_reducible refine f8.at ?_ | wp_step)
   exact hq
end
section
variable {X : Cx}
end
end L2
namespace HT
open PySem PyProof.Rows
section
variable {prog : Program} {w : World} {A : Around} {E : Value → Shared → Prop} {s : Shared}
theorem hU {t sl : Addr} {items : Array Value} {vl vu : Value} {lo hi : Option Int} {Q : Value → Shared → Prop} (ht : IsTup s.heap t items) (hs : s.heap.IsSliceOf sl vl vu .none) (pl : IsPart vl lo) (pu : IsPart vu hi)
  (hw : sIx items.size 0 lo = 0 ∧ sIx items.size items.size hi = items.size) (h : Q (.ref t) s) : wpAny (model prog w) A (getItem (.ref t) (.ref sl)) Q E s := by
 obtain ⟨os, hos, hcs, hds⟩ := id hs
 have hTs : s.TypeIs (.ref sl) "slice" := ⟨os, hos, hcs⟩
 unfold getItem
 try with_reducible refine wpAny_holding ?_
 first | refine wpAny_bind (wpAny_pure ?_) | skip
 refine wpAny_bind (wpAny_sequenceKey ht.typeIs (by decide) ?_)
 refine wpAny_bind (wpAny_callSpecial?_slot (name := Str.ofString "__getitem__") ht.typeIs PyProof.Rows.slot_tuple_getitem
  (wpAny_call_entry PyProof.Rows.slot_tuple_getitem ht.typeIs entry_tuple_getitem ?_ (args_tuple_getitem _ _)))
 show wpAny _ _ (Builtin.Tuple.tupleItemsOf (.ref t) >>= _) _ _ s
 refine wpAny_bind (tupleItemsOf_ ht ?_)
 refine wpAny_bind (wpAny_typeOf hTs ?_)
 rw [if_pos (by decide)]
 refine wpAny_bind (fG hs pl pu ?_)
 have hyes : (((sIx items.size 0 lo : Nat) : Int) == 0 && (1 : Int) == 1 && (sIx items.size items.size hi - sIx items.size 0 lo) == items.size) = true := by
  rw [hw.1, hw.2]; simp
 show wpAny _ _ (if (((sIx items.size 0 lo : Nat) : Int) == 0 && (1 : Int) == 1 && (sIx items.size items.size hi - sIx items.size 0 lo) == items.size) = true then _ else _) _ _ s
 rw [if_pos hyes]
 have hte : s.TypeIs (.ref t) "tuple" := ht.typeIs
 unfold Builtin.Tuple.tupleIsExact
 repeat (first | exact ⟨_, rfl, wpAny_pure h⟩ | (with_reducible refine wpAny_typeOf hte ?_) | wp_step)
end
end HT
namespace HT
open PySem PyProof.Rows
section
variable {prog : Program} {w : World} {A : Around} {E : Value → Shared → Prop} {s : Shared}
theorem uh {t b : Addr} {ws : List Value} {Q : Value → Shared → Prop} (ht : IsTup s.heap t #[]) (hb : IsTup s.heap b ws.toArray) (h1 : Q (.ref b) s) : wpAny (model prog w) A (binaryOp .Add (.ref t) (.ref b)) Q E s := by
 obtain ⟨⟨cls, dd, data, sl⟩, ho, hc, n, hd⟩ := id ht
 obtain ⟨⟨cls2, dd2, data2, sl2⟩, ho2, hc2, n2, hd2⟩ := id hb
 simp only at hc hd hc2 hd2
 subst hc hd hc2 hd2
 exact concat_meets ⟨_, ho, rfl⟩ ⟨_, ho2, rfl⟩ noFill_tuple_add seq_tuple_add PySem.F.slot_tuple_add PySem.F.entry_tuple_add (PySem.F.args_tuple_add_2 _ _)
  (tuple_addW0 t b #[] ws.toArray n n2 dd dd2 sl sl2 (by simp)) ⟨ho, ho2, h1⟩
end
end HT
namespace L2
open PySem PySem.Spec PyProof.Rows
theorem ao.rfl' {H : Hp} : ao H H := fun _ _ e => e
theorem qC {xs : List V} {lo hi : Option Int} (h : HT.sIx xs.length 0 lo = 0 ∧ HT.sIx xs.length xs.length hi = xs.length) : eJ xs lo hi = xs := by
 unfold eJ
 rw [h.1, h.2, List.drop_zero, Nat.sub_zero, List.take_length]
section
variable {X : Cx}
def vX : V → Option Int → Option Int → Hp → VK → Prop := fun x lo hi H Q => ∃ a xs, x = .ref a ∧ H a = some (.tup xs) ∧ ∀ p H', ao H H' → H' p = some (.tup (eJ xs lo hi)) → Q (.ref p) H'
theorem xV : SlR X vX := by
 intro pins s σ H x v vl vu lo hi sl Q I rx hs pl pu h
 obtain ⟨a, xs, rfl, hx, q⟩ := h
 have hq : SqT X.K H a xs := .inl (.inl hx)
 by_cases hw : HT.sIx xs.length 0 lo = 0 ∧ HT.sIx xs.length xs.length hi = xs.length
 · cases rx
   obtain ⟨its, r, ht, hz⟩ := I.tuple hq
   have hlen : its.toArray.size = xs.length := by rw [List.size_toArray]; exact r.length.symm
   refine ⟨"tuple", _, PyProof.Rows.slot_tuple_getitem.lookup, ht.typeIs, ?_⟩
   refine HT.hU ht hs pl pu (by rw [hlen]; exact hw) ?_
   exact ⟨.ref a, H, I, rfl, q a H ao.rfl' (by rw [qC hw]; exact hx)⟩
 · exact yf pins s σ H _ v vl vu lo hi sl Q I rx hs pl pu ⟨a, xs, rfl, hq, hw, fun p hp => q p _ (ao.upd hp) (ag ..)⟩
def wf : R2 := fun x y H Q => ∃ a b xs ys, x = .ref a ∧ y = .ref b ∧ H a = some (.tup xs) ∧ H b = some (.tup ys) ∧ xs.length + ys.length ≤ sizeLine ∧ ∀ p H', ao H H' → H' p = some (.tup (xs ++ ys)) → Q (.ref p) H'
theorem xp : OpR X (binaryOp .Add) wf := by
 intro pins s σ H x y v u Q I rx ry h
 obtain ⟨a, b, xs, ys, rfl, rfl, ha, hb, hz, q⟩ := h
 by_cases hx : xs = []
 · subst hx
   cases rx
   cases ry
   obtain ⟨its, r1, p1, _⟩ := I.tuple (.inl (.inl ha))
   obtain ⟨its2, r2, p2, _⟩ := I.tuple (.inl (.inl hb))
   cases r1
   exact HT.uh p1 p2 ⟨.ref b, H, I, rfl, q b H ao.rfl' hb⟩
 · refine xj pins s σ H _ _ v u Q I rx ry ⟨a, b, xs, ys, rfl, rfl, .inl (.inl ha), .inl (.inl hb), hx, hz, fun e => ?_, fun _ p hp => q p _ (ao.upd hp) (ag ..)⟩
   subst e
   exact q a H ao.rfl' (by rw [List.append_nil]; exact ha)
def ba (K : W.Frag) : R2 := fun x y H Q => match x, y with
 | .int i, .int j => Q (.int (i + j)) H
 | .str i, .str j => i.length + j.length ≤ sizeLine ∧ Q (.str (i ++ j)) H
 | .ref a, .ref b => zy (.ref a) (.ref b) H Q ∨ wf (.ref a) (.ref b) H Q
 | _, _ => False
theorem bv : OpR X (binaryOp .Add) (ba X.K) := (yk.or (qu.or (zI.or xp))).imp fun x y H Q q => by
 unfold ba at q
 split at q
 · exact .inl ⟨_, _, rfl, rfl, q⟩
 · exact .inr (.inl ⟨_, _, rfl, rfl, q.1, q.2⟩)
 · exact .inr (.inr q)
 · exact q.elim
def yA (K : W.Frag) : V → Option Int → Option Int → Hp → VK → Prop := fun x lo hi H Q => zQ K x lo hi H Q ∨ vX x lo hi H Q
theorem yL : SlR X (yA X.K) := yb.or xV
def qW (t : TE) : TE := fun σ H Q => t σ H fun x H' => match x with
 | .int i => i.natAbs.log2 < 1920 ∧ Q (.str (toString i)) H'
 | .str z => z.length ≤ sizeLine ∧ Q (.str z) H'
 | _ => False
theorem qV {e : Expr} {te : TE} {pos : Pos} (h : QE X e te) : QE X (.FormattedValue e (-1) none pos) (qW te) := ⟨fun pins s σ H Q I q => by
 refine FormattedValue_plain (thn (h.out pins s σ H _ I q) fun v s1 ⟨x, H1, I1, r1, q1⟩ => ?_)
 cases x <;> first | exact q1.elim | skip
 · rename_i i
   obtain ⟨t, rfl⟩ := (show ∃ t, v = Value.int i t from r1)
   exact formatField_int_small q1.1 ⟨.str _, H1, I1.tok _, ⟨_, rfl⟩, q1.2⟩
 · rename_i z
   obtain ⟨t, rfl⟩ := (show ∃ t, v = Value.str z t from r1)
   exact formatField_str (fun t' tk => ⟨.str _, H1, I1.tok _, ⟨_, rfl⟩, q1.2⟩) q1.1⟩
def mJ : List TE → Str → TE
  | [], acc => fun σ H Q => acc.length ≤ sizeLine ∧ Q (.str acc) H
  | t :: r, acc => fun σ H Q => t σ H fun x H' => match x with
    | .str y => (acc ++ y).length ≤ sizeLine ∧ mJ r (acc ++ y) σ H' Q
    | _ => False
inductive QJ (X : Cx) : List Expr → List TE → Prop where
 | nil : QJ X [] []
 | cons {e : Expr} {t : TE} {es : List Expr} {ts : List TE} : QE X e t → QJ X es ts → QJ X (e :: es) (t :: ts)
theorem Cr {es : List Expr} {ts : List TE} (j : QJ X es ts) : ∀ {pins : List (Addr × Obj)} {s : Shared} {σ : St} {H : Hp} {Q : VK} {acc : Str}, Inv X pins σ H s → mJ ts acc σ H Q → wpAny (model X.prog X.w) X.A (joinParts acc (evalEach es X.env)) (EP X pins σ Q) X.xe s := by
  induction j with
  | nil => intro pins s σ H Q acc I q; exact joinParts_nil ⟨.str _, H, I.tok _, ⟨_, rfl⟩, q.2⟩ q.1
  | cons h _ ih =>
    intro pins s σ H Q acc I q
    refine joinParts_cons (thn (h.out pins s σ H _ I q) fun v s1 ⟨x, H1, I1, r1, q1⟩ => ?_)
    cases x <;> first | exact q1.elim | skip
    rename_i z
    obtain ⟨t, rfl⟩ := (show ∃ t, v = Value.str z t from r1)
    exact ⟨q1.1, ih I1 q1.2⟩
theorem sO {v1 v2 : Expr} {bX : List Expr} {ts : List TE} {pos : Pos} (j : QJ X (v1 :: v2 :: bX) ts) : QE X (.JoinedStr (v1 :: v2 :: bX) pos) (mJ ts Str.empty) := ⟨fun pins s σ H Q I q => JoinedStr_many (Cr j I q)⟩
end
end L2
namespace L2
open PySem PySem.Spec PyProof.Rows
theorem tH {K : W.Frag} {C D : Addr} {b : Bool} (h : W.mroIn K C (.ref D) = some b) : gG K C D = some b := by
 unfold W.mroIn W.clsIn at h
 unfold gG
 split at h
 · rename_i cd sl e
   rw [e]
   dsimp only [Option.bind] at h ⊢
   split at h
   · cases h
   · exact h
 · cases h
theorem Fun.okN {P : Program} {w : World} {K : W.Frag} {mg : Str → Option Value} {base : Heap} {CX : CXT} {x qual : Str} {st : Stmt} {f : Addr} {fd : FuncData} {N ps : List Str} {k : Nat} {sp : Sp} (F : Fun K x qual st f fd) (S : aF N ps (am st)) (len : ∀ vs H Q E, sp vs H Q E → vs.length = ps.length)
  (hbody : ∀ (cdv : Value) (A : Around) (outer : List Env) (s : Shared) (H : Hp) (vs : List V) (Q : VK) (E : XK), bc k (A.deeper (envOfC qual (am st) s.heap.objs.size f cdv)) → sp vs H Q E →
   ∃ t, PSs (de CX P w K mg base N qual (am st) f cdv A outer s H E).nox (aQ st) t ∧ t { nx := fun _ H' => Q .non H', rt := Q } (start N vs) H) : aV P w K mg base CX (k + 1) f fd ps sp := by
 obtain ⟨oc, od, kV, doc, pm, an, cdv, ct, osl, rfl, lk, hcd⟩ := F.ex
 refine wM lk hcd S len fun A outer s H vs Q E hr hsp => ?_
 obtain ⟨t, h, q⟩ := hbody cdv A outer s H vs Q E hr hsp
 exact ⟨t, h.nox, q⟩
end L2
namespace L2
open PySem PySem.Spec PyProof.Rows
section
variable {X : Cx}
def ym : V → Option Int → Option Int → Hp → VK → Prop := fun x lo hi H Q => ∃ z, x = .str z ∧ z.length ≤ sizeLine ∧ Q (.str (Txt.slice z lo hi)) H
theorem zR : SlR X ym := by
  intro pins s σ H x v vl vu lo hi sl Q I rx hs pl pu h
  obtain ⟨z, rfl, hz, q⟩ := h
  obtain ⟨t, rfl⟩ := (show ∃ t, v = Value.str z t from rx)
  refine ⟨"str", _, F.slot_str_getitem.lookup, typeIs_str _ _ _, ?_⟩
  have fin : ∀ (l u : Option (Int × Tok)), l.map (·.1) = lo → u.map (·.1) = hi → s.heap.IsSlice sl l u none → wpAny (model X.prog X.w) X.A (getItem (.str z t) (.ref sl)) (EP X pins σ Q) X.xe s := fun l u e1 e2 hs' => by
    subst e1 e2
    refine wpAny_getItem_str_slice (l := l) (u := u) (st := none) hs' rfl (post_val_or_str ⟨Nat.le_trans (Txt.slice_le z _ _) hz, fun t' k => ⟨.str _, H, I.tok k, ⟨_, rfl⟩, q⟩⟩)
  obtain ⟨os, hos, hcs, hds⟩ := hs
  cases pl with
  | none => cases pu with
    | none => exact fin none none rfl rfl ⟨os, hos, hcs, hds⟩
    | int j tj => exact fin none (some (j, tj)) rfl rfl ⟨os, hos, hcs, hds⟩
  | int i ti => cases pu with
    | none => exact fin (some (i, ti)) none rfl rfl ⟨os, hos, hcs, hds⟩
    | int j tj => exact fin (some (i, ti)) (some (j, tj)) rfl rfl ⟨os, hos, hcs, hds⟩
def fX (K : W.Frag) : V → Option Int → Option Int → Hp → VK → Prop := fun x lo hi H Q => yA K x lo hi H Q ∨ ym x lo hi H Q
theorem gn : SlR X (fX X.K) := yL.or zR
def ia : V → Bool
 | .int _ => true
 | .str _ => true
 | _ => false
theorem pS {A : Around} {s : Shared} {x y : V} {u v : Value} (rx : aJ x u) (ry : aJ y v) (hx : ia x = true) (hy : ia y = true) : PySem.SeqAt.EqAt A s u v (decide (x = y)) := by
 cases x <;> first | cases hx | skip
 all_goals (cases y <;> first | cases hy | skip)
 · obtain ⟨t, rfl⟩ := rx; obtain ⟨t', rfl⟩ := ry
   have e := PySem.SeqAt.EqAt.int_int (A := A) (s := s) ‹Int› t ‹Int› t'
   rename_i i j
   have e2 : decide (V.int i = V.int j) = (i == j) := by rw [im (f := V.int) fun _ _ e => V.int.inj e]; rfl
   rw [e2]; exact PySem.SeqAt.EqAt.int_int i t j t'
 · obtain ⟨t, rfl⟩ := rx; obtain ⟨t', rfl⟩ := ry
   exact PySem.SeqAt.EqAt.int_str _ _ _ _
 · obtain ⟨t, rfl⟩ := rx; obtain ⟨t', rfl⟩ := ry
   exact PySem.SeqAt.EqAt.str_int _ _ _ _
 · obtain ⟨t, rfl⟩ := rx; obtain ⟨t', rfl⟩ := ry
   rename_i i j
   have e2 : decide (V.str i = V.str j) = (i == j) := by
    rw [im (f := V.str) fun _ _ e => V.str.inj e]
    by_cases h : i = j
    · rw [h]; simp
    · rw [decide_eq_false h]; exact (beq_eq_false_iff_ne.mpr h).symm
   rw [e2]; exact PySem.SeqAt.EqAt.str_str i t j t'
theorem rZ {xs ys : List V} : decide (xs = ys) = ((List.range (min xs.length ys.length)).all (fun j => decide (xs[j]? = ys[j]?)) && xs.length == ys.length) := by
 by_cases h : xs = ys
 · subst h; simp
 · rw [decide_eq_false h]
   by_cases hl : xs.length = ys.length
   · rw [hl, Nat.min_self, beq_self_eq_true, Bool.and_true]
     symm
     rw [List.all_eq_false]
     apply Classical.byContradiction
     intro hn
     apply h
     apply List.ext_getElem? fun i => ?_
     by_cases hi : i < ys.length
     · apply Classical.byContradiction
       intro hne
       exact hn ⟨i, List.mem_range.mpr hi, by simpa using hne⟩
     · rw [List.getElem?_eq_none (by omega), List.getElem?_eq_none (by omega)]
   · have : (xs.length == ys.length) = false := by simpa using hl
     rw [this, Bool.and_false]
def AT (K : W.Frag) : R2 := fun x y H Q => ∃ a b xs ys, x = .ref a ∧ y = .ref b ∧ SqT K H a xs ∧ SqT K H b ys ∧ xs.all ia = true ∧ ys.all ia = true ∧ Q (.bl (decide (xs = ys))) H
theorem zW (hu : X.A.units < cLine) : OpR X (compareOp .Eq) (AT X.K) := by
 intro pins s σ H x y v u Q I rx ry h
 obtain ⟨a, b, xs, ys, rfl, rfl, ha, hb, px, py, q⟩ := h
 cases rx
 cases ry
 obtain ⟨its, r1, p1, _⟩ := I.tuple ha
 obtain ⟨its2, r2, p2, _⟩ := I.tuple hb
 have l1 := r1.length
 have l2 := r2.length
 refine PySem.SeqAt.eq_tupleAt (e := fun j => decide (xs[j]? = ys[j]?)) p1 p2 hu (fun j h1 h2 => ?_) ?_
 · have h1 : j < its.length := by simpa using h1
   have h2 : j < its2.length := by simpa using h2
   have e1 : xs[j]? = some xs[j] := List.getElem?_eq_getElem (by omega)
   have e2 : ys[j]? = some ys[j] := List.getElem?_eq_getElem (by omega)
   obtain ⟨u1, g1, ru1⟩ := r1.get e1
   obtain ⟨u2, g2, ru2⟩ := r2.get e2
   have g1' : its.toArray[j] = u1 := by
    rw [List.getElem?_eq_getElem h1] at g1; simpa using Option.some.inj g1
   have g2' : its2.toArray[j] = u2 := by
    rw [List.getElem?_eq_getElem h2] at g2; simpa using Option.some.inj g2
   rw [g1', g2', e1, e2]
   have : decide (some xs[j] = some ys[j]) = decide (xs[j] = ys[j]) := by simp
   rw [this]
   exact pS ru1 ru2 (List.all_eq_true.mp px _ (List.getElem_mem _)) (List.all_eq_true.mp py _ (List.getElem_mem _))
 · have e := rZ (xs := xs) (ys := ys)
   rw [l1, l2] at e
   simp only [List.size_toArray]
   rw [← e]
   exact ⟨.bl _, H, I, rfl, q⟩
def qx : List V → Hp → VK → Prop := fun xs H Q => match xs with
 | [.str z] => ∃ n, PySem.intText? z = some n ∧ z.length ≤ 640 ∧ Q (.int n) H
 | [.bl b] => Q (.int (if b then 1 else 0)) H
 | _ => False
theorem yG : bM X (.type "int") qx := fun pins s σ H xs us Q I r h => by
 unfold qx at h
 split at h
 · obtain ⟨n, h1, h2, q⟩ := h
   obtain ⟨u, rfl, ru⟩ := fh r
   obtain ⟨t, rfl⟩ := ru
   exact W.KIN.call_text h1 h2 ⟨.int n, H, I.tok _, ⟨_, rfl⟩, q⟩
 · obtain ⟨u, rfl, ru⟩ := fh r
   cases ru
   exact call_int_bool ⟨.int _, H, I.tok _, ⟨_, rfl⟩, h⟩
 · exact h.elim
end
end L2
namespace HT
open PySem PyProof.Rows
section
variable {prog : Program} {w : World} {A : Around} {E : Value → Shared → Prop} {s : Shared}
theorem ju {it t : Addr} {i : Nat} {items : Array Value} {x : Value} {Q : Value → Shared → Prop} (hit : s.heap.IsTupleIter it t i) (ht : s.heap.IsTuple t items) (hx : items[i]? = some x)
  (hQ : ∀ h', h'.IsTupleIter it t (i + 1) → Heap.SameBut it s.heap h' → Q x { s with heap := h' }) : wpAny (model prog w) A (Builtin.SmallTypes.nextOf (.ref it)) Q E s := by
 obtain ⟨o, ho, hc, hd⟩ := id hit
 obtain ⟨ol, hol, _, nl, hdl⟩ := ht
 unfold Builtin.SmallTypes.nextOf
 refine wpAny_bind (wpAny_callSpecial?_slot (name := Str.ofString "__next__") hit.typeIs F.slot_tuple_iterator_next
  (wpAny_call_entry F.slot_tuple_iterator_next hit.typeIs F.entry_tuple_iterator_next ?_ (F.args_tuple_iterator_next_1 _)))
 show wpAny _ _ (field (.ref it) 0 >>= _) _ _ s
 refine wpAny_bind (wpAny_field ho hd (x := .ref t) rfl ?_)
 show wpAny _ _ (if (Value.ref t == Value.none) = true then _ else _) _ _ s
 rw [if_neg (show ¬ ((Value.ref t == Value.none) = true) from Bool.false_ne_true)]
 show wpAny _ _ (field (.ref it) 1 >>= _) _ _ s
 refine wpAny_bind (wpAny_field ho hd (x := .int i 0) rfl ?_)
 show wpAny _ _ (seqItems? (.ref t) >>= _) _ _ s
 refine wpAny_bind (wpAny_seqItems hol hdl ?_)
 simp only [Int.toNat_natCast, hx]
 refine wpAny_bind (wpAny_setField ho hd (by simp) (wpAny_pure ⟨x, rfl, wpAny_pure (hQ _ ?_ (Heap.SameBut.update ..))⟩))
 exact ⟨_, Heap.get?_update_self _ ho (Obj.isFreed_of_fields (Obj.data_mapFields hd _)), (Obj.cls_mapFields ..).trans hc, by rw [Obj.data_mapFields hd]; simp [rawInt]⟩
theorem iC {it t : Addr} {i : Nat} {items : Array Value} {Q : Value → Shared → Prop} (hh : A.handled = none) (hit : s.heap.IsTupleIter it t i) (ht : s.heap.IsTuple t items) (hx : items[i]? = none)
  (hE : ∀ h' e, Heap.ExtBut it s.heap h' → (∃ o, h'.get? e = some o ∧ o.cls = .type "StopIteration") → E (.ref e) { s with heap := h' }) : wpAny (model prog w) A (Builtin.SmallTypes.nextOf (.ref it)) Q E s := by
 obtain ⟨o, ho, hc, hd⟩ := id hit
 obtain ⟨ol, hol, _, nl, hdl⟩ := ht
 unfold Builtin.SmallTypes.nextOf
 refine wpAny_bind (wpAny_callSpecial?_slot (name := Str.ofString "__next__") hit.typeIs F.slot_tuple_iterator_next
  (wpAny_call_entry F.slot_tuple_iterator_next hit.typeIs F.entry_tuple_iterator_next ?_ (F.args_tuple_iterator_next_1 _)))
 show wpAny _ _ (field (.ref it) 0 >>= _) _ _ s
 refine wpAny_bind (wpAny_field ho hd (x := .ref t) rfl ?_)
 show wpAny _ _ (if (Value.ref t == Value.none) = true then _ else _) _ _ s
 rw [if_neg (show ¬ ((Value.ref t == Value.none) = true) from Bool.false_ne_true)]
 show wpAny _ _ (field (.ref it) 1 >>= _) _ _ s
 refine wpAny_bind (wpAny_field ho hd (x := .int i 0) rfl ?_)
 show wpAny _ _ (seqItems? (.ref t) >>= _) _ _ s
 refine wpAny_bind (wpAny_seqItems hol hdl ?_)
 simp only [Int.toNat_natCast, hx]
 refine wpAny_bind (wpAny_rule (wpAny_bind (wpAny_setField ho hd (by simp) ?_)))
 show wpAny _ _ (newExc (.type "StopIteration") [] >>= _) _ _ _
 refine wpAny_bind ?_
 simp only [newExc, newTuple]
 refine wpAny_bind (wpAny_newObj_type ?_ (by size_fits))
 refine wpAny_bind (m := firstArgMember _ _) (wpAny_of_eq (a := Value.none) (by first | rfl | (simp only [firstArgMember]; rfl)) ?_)
 refine wpAny_newObj_type ?_ (by size_fits)
 simp only [raiseNew]
 refine wpAny_bind (wpAny_handled ?_)
 first | rw [show A.in1.handled = none from hh] | rw [hh]
 refine wpAny_bind (wpAny_pure (wpAny_throw ?_))
 exact hE _ _ (((Heap.SameBut.update ..).extBut.push _).push _) ⟨_, Heap.get?_push_size _ rfl, rfl⟩
structure jY (h : Heap) (z TI TO i1 i2 t1 t2 : Addr) (xs ys : Array Value) (f0 : Value) (k : Nat) : Prop where
 z : IsZip h z TI TO f0
 ti : IsPair h TI (.ref i1) (.ref i2)
 to : ∃ a b, IsPair h TO a b
 j1 : h.IsTupleIter i1 t1 k
 j2 : h.IsTupleIter i2 t2 k
theorem sr {z TI TO i1 i2 t1 t2 : Addr} {k : Nat} {xs ys : Array Value} {x y : Value} {Q : Option Value → Shared → Prop} (D : ZipApart z TI TO i1 i2 t1 t2) (Z : jY s.heap z TI TO i1 i2 t1 t2 xs ys .none k)
  (ht1 : s.heap.IsTuple t1 xs) (ht2 : s.heap.IsTuple t2 ys) (hx : xs[k]? = some x) (hy : ys[k]? = some y)
  (hQ : ∀ h', jY h' z TI TO i1 i2 t1 t2 xs ys (rawInt s.heap.objs.size) (k + 1) → IsPair h' s.heap.objs.size x y →
   (∀ c o, c ≠ z → c ≠ TO → c ≠ i1 → c ≠ i2 → s.heap.get? c = some o → h'.get? c = some o) → Q (some (.ref s.heap.objs.size)) { s with heap := h' }) :
  wpAny (model prog w) A (pyNext (.ref z)) Q E s := by
 obtain ⟨hz, hTI, ⟨a, b, hTO⟩, h1, h2⟩ := Z
 have hT : s.TypeIs (.ref z) "zip" := ⟨_, hz, rfl⟩
 unfold pyNext
 refine wpAny_bind (wpAny_attempt (wpAny_callSpecial?_slot (name := Str.ofString "__next__") hT F.slot_zip_next (wpAny_call_entry F.slot_zip_next hT F.entry_zip_next ?_ (F.args_zip_next_1 _))))
 show wpAny _ _ (field (.ref z) 2 >>= _) _ _ _
 refine wpAny_bind (wpAny_field hz rfl (x := .bool false) rfl ?_)
 show wpAny _ _ (field (.ref z) 3 >>= _) _ _ _
 refine wpAny_bind (wpAny_field hz rfl (x := .ref TI) rfl (wpAny_bind (wpAny_seqItems hTI rfl ?_)))
 show wpAny _ _ (Builtin.SmallTypes.ownedTupleIsFree (.ref z) >>= _) _ _ _
 refine wpAny_bind ?_
 unfold Builtin.SmallTypes.ownedTupleIsFree
 refine wpAny_bind (wpAny_field hz rfl (x := .none) rfl (wpAny_pure ?_))
 simp only [if_true]
 refine wpAny_bind (wpAny_rule (wpAny_bind (wpAny_field hz rfl (x := .ref TO) rfl (wpAny_bind (wpAny_setField_rec hz (by simp) fun ha hza hsa => wpAny_bind ?_)))))
 replace hza : IsZip ha z TI TO .ellipsis := hza
 simp only [List.zipIdx_cons, List.zipIdx_nil, List.forIn_cons, List.forIn_nil]
 refine wpAny_bind (wpAny_bind (wpAny_onRaise ?_))
 show wpAny _ _ (Builtin.SmallTypes.nextOf (.ref i1) >>= _) _ _ _
 refine wpAny_bind (ju (h1.at fun o e => hsa.extBut _ _ D.i1z e) (ht1.at fun o e => hsa.extBut _ _ D.l1z e) hx fun hb h1b hsb => wpAny_pure ?_)
 have hTOb : IsPair hb TO a b := hsb.extBut _ _ D.TOi1 (hsa.extBut _ _ D.TOz hTO)
 refine wpAny_bind (wpAny_seqItems hTOb rfl (wpAny_bind (wpAny_updateSeq_pair hTOb fun hc hTOc hsc => ?_)))
 replace hTOc : IsPair hc TO x b := hTOc
 refine wpAny_bind (wpAny_letGo (wpAny_pure ?_))
 refine wpAny_bind (wpAny_bind (wpAny_onRaise ?_))
 show wpAny _ _ (Builtin.SmallTypes.nextOf (.ref i2) >>= _) _ _ _
 refine wpAny_bind (ju (h2.at fun o e => hsc.extBut _ _ D.TOi2.symm (hsb.extBut _ _ D.i12.symm (hsa.extBut _ _ D.i2z e)))
  (ht2.at fun o e => hsc.extBut _ _ D.l2TO (hsb.extBut _ _ D.l2i1 (hsa.extBut _ _ D.l2z e))) hy fun hd h2d hsd => wpAny_pure ?_)
 have hTOd : IsPair hd TO x b := hsd.extBut _ _ D.TOi2 hTOc
 refine wpAny_bind (wpAny_seqItems hTOd rfl (wpAny_bind (wpAny_updateSeq_pair hTOd fun he hTOe hse => ?_)))
 replace hTOe : IsPair he TO x y := hTOe
 refine wpAny_bind (wpAny_letGo (wpAny_pure (wpAny_pure ?_)))
 refine wpAny_bind (wpAny_seqItems hTOe rfl (wpAny_bind (wpAny_newTuple ?_)))
 have hsz : he.objs.size = s.heap.objs.size := by rw [hse.1, hsd.1, hsc.1, hsb.1, hsa.1]
 have hze : IsZip he z TI TO .ellipsis := hse.extBut _ _ D.TOz.symm (hsd.extBut _ _ D.i2z.symm (hsc.extBut _ _ D.TOz.symm (hsb.extBut _ _ D.i1z.symm hza)))
 have hke : ∀ c o, c ≠ z → c ≠ TO → c ≠ i1 → c ≠ i2 → s.heap.get? c = some o → he.get? c = some o := fun c o c1 c2 c3 c4 e =>
  hse.extBut _ _ c2 (hsd.extBut _ _ c4 (hsc.extBut _ _ c2 (hsb.extBut _ _ c3 (hsa.extBut _ _ c1 e))))
 have h1e : he.IsTupleIter i1 t1 (k + 1) := h1b.at fun o e => hse.extBut _ _ D.TOi1.symm (hsd.extBut _ _ D.i12 (hsc.extBut _ _ D.TOi1.symm e))
 have h2e : he.IsTupleIter i2 t2 (k + 1) := h2d.at fun o e => hse.extBut _ _ D.TOi2.symm e
 show wpAny _ _ (Builtin.SmallTypes.ownedTupleHandOut (.ref z) (.ref he.objs.size) >>= _) _ _ _
 refine wpAny_bind ?_
 unfold Builtin.SmallTypes.ownedTupleHandOut
 have hzf : IsZip (he.push { cls := .type "tuple", data := .seq #[x, y] }) z TI TO .ellipsis := Heap.get?_push_of_some _ hze
 refine wpAny_bind (wpAny_setField_rec hzf (by simp) fun hg hzg hsg => ?_)
 replace hzg : IsZip hg z TI TO (rawInt he.objs.size) := hzg
 refine wpAny_setField_rec hzg (by simp) fun hh hzh hsh => ?_
 replace hzh : IsZip hh z TI TO (rawInt he.objs.size) := hzh
 have up : ∀ c o, c ≠ z → he.get? c = some o → hh.get? c = some o := fun c o c1 e => hsh.extBut _ _ c1 (hsg.extBut _ _ c1 (Heap.get?_push_of_some _ e))
 have hTh : IsPair hh he.objs.size x y := hsh.extBut _ _ (Nat.ne_of_gt (Heap.lt_size hze)) (hsg.extBut _ _ (Nat.ne_of_gt (Heap.lt_size hze)) (Heap.get?_push_size _ rfl))
 rw [hsz] at hzh hTh
 have fin := hQ hh ⟨hzh, up _ _ D.TIz (hke _ _ D.TIz D.TITO D.TIi1 D.TIi2 hTI), ⟨x, y, up _ _ D.TOz hTOe⟩, h1e.at fun o e => up _ o D.i1z e, h2e.at fun o e => up _ o D.i2z e⟩ hTh fun c o c1 c2 c3 c4 e => up c o c1 (hke c o c1 c2 c3 c4 e)
 rw [← hsz] at fin
 exact wpAny_pure ⟨_, rfl, wpAny_pure fin⟩
theorem uU {z TI TO i1 i2 t1 t2 : Addr} {k : Nat} {xs ys : Array Value} {Q : Option Value → Shared → Prop} (hh : A.handled = none) (D : ZipApart z TI TO i1 i2 t1 t2) (Z : jY s.heap z TI TO i1 i2 t1 t2 xs ys .none k)
    (ht1 : s.heap.IsTuple t1 xs) (ht2 : s.heap.IsTuple t2 ys) (hend : xs[k]? = none ∨ ys[k]? = none)
    (hQ : ∀ h', (∀ c o, c ≠ z → c ≠ TO → c ≠ i1 → c ≠ i2 → s.heap.get? c = some o → h'.get? c = some o) → Q none { s with heap := h' }) : wpAny (model prog w) A (pyNext (.ref z)) Q E s := by
  obtain ⟨hz, hTI, ⟨a, b, hTO⟩, h1, h2⟩ := Z
  have hT : s.TypeIs (.ref z) "zip" := ⟨_, hz, rfl⟩
  have fin : ∀ h' e, (∀ c o, c ≠ z → c ≠ TO → c ≠ i1 → c ≠ i2 → s.heap.get? c = some o → h'.get? c = some o) → (∃ o, h'.get? e = some o ∧ o.cls = .type "StopIteration") →
      wpAny (model prog w) A (do if ← isInstance (.ref e) (.type "StopIteration") then pure none else throw (.ref e)) Q E { s with heap := h' } := fun h' e hk ⟨o, ho, hc⟩ =>
    wpAny_bind (wpAny_isInstance (T := "StopIteration") (b := true) ⟨o, ho, hc⟩ isSubtype_stop (wpAny_pure (hQ _ hk)))
  unfold pyNext
  refine wpAny_bind (wpAny_attempt (wpAny_callSpecial?_slot (name := Str.ofString "__next__") hT F.slot_zip_next (wpAny_call_entry F.slot_zip_next hT F.entry_zip_next ?_ (F.args_zip_next_1 _))))
  show wpAny _ _ (field (.ref z) 2 >>= _) _ _ _
  refine wpAny_bind (wpAny_field hz rfl (x := .bool false) rfl ?_)
  show wpAny _ _ (field (.ref z) 3 >>= _) _ _ _
  refine wpAny_bind (wpAny_field hz rfl (x := .ref TI) rfl (wpAny_bind (wpAny_seqItems hTI rfl ?_)))
  show wpAny _ _ (Builtin.SmallTypes.ownedTupleIsFree (.ref z) >>= _) _ _ _
  refine wpAny_bind ?_
  unfold Builtin.SmallTypes.ownedTupleIsFree
  refine wpAny_bind (wpAny_field hz rfl (x := .none) rfl (wpAny_pure ?_))
  simp only [if_true]
  refine wpAny_bind (wpAny_rule (wpAny_bind (wpAny_field hz rfl (x := .ref TO) rfl (wpAny_bind (wpAny_setField_rec hz (by simp) fun ha hza hsa => wpAny_bind ?_)))))
  replace hza : IsZip ha z TI TO .ellipsis := hza
  simp only [List.zipIdx_cons, List.zipIdx_nil, List.forIn_cons, List.forIn_nil]
  refine wpAny_bind (wpAny_bind (wpAny_onRaise ?_))
  show wpAny _ _ (Builtin.SmallTypes.nextOf (.ref i1) >>= _) _ _ _
  cases hx : xs[k]? with
  | none =>
    refine wpAny_bind (iC hh (h1.at fun o e => hsa.extBut _ _ D.i1z e) (ht1.at fun o e => hsa.extBut _ _ D.l1z e) hx fun hb e hsb he => ?_)
    obtain ⟨oe, hoe, hce⟩ := he
    have hzb : IsZip hb z TI TO .ellipsis := hsb _ _ D.i1z.symm hza
    have hez : e ≠ z := fun x => by subst x; rw [hzb] at hoe; cases hoe; simp at hce
    exact wpAny_setField_rec hzb (by simp) fun hc _ hsc => fin hc e (fun c o c1 _ c3 _ x => hsc.extBut _ _ c1 (hsb _ _ c3 (hsa.extBut _ _ c1 x))) ⟨oe, hsc.extBut _ _ hez hoe, hce⟩
  | some x =>
    have hy : ys[k]? = none := by rcases hend with h | h; rw [hx] at h; cases h; exact h
    refine wpAny_bind (ju (h1.at fun o e => hsa.extBut _ _ D.i1z e) (ht1.at fun o e => hsa.extBut _ _ D.l1z e) hx fun hb h1b hsb => wpAny_pure ?_)
    have hTOb : IsPair hb TO a b := hsb.extBut _ _ D.TOi1 (hsa.extBut _ _ D.TOz hTO)
    refine wpAny_bind (wpAny_seqItems hTOb rfl (wpAny_bind (wpAny_updateSeq_pair hTOb fun hc hTOc hsc => ?_)))
    refine wpAny_bind (wpAny_letGo (wpAny_pure ?_))
    refine wpAny_bind (wpAny_bind (wpAny_onRaise ?_))
    show wpAny _ _ (Builtin.SmallTypes.nextOf (.ref i2) >>= _) _ _ _
    refine wpAny_bind (iC hh (h2.at fun o e => hsc.extBut _ _ D.TOi2.symm (hsb.extBut _ _ D.i12.symm (hsa.extBut _ _ D.i2z e)))
      (ht2.at fun o e => hsc.extBut _ _ D.l2TO (hsb.extBut _ _ D.l2i1 (hsa.extBut _ _ D.l2z e))) hy fun hd e hsd he => ?_)
    obtain ⟨oe, hoe, hce⟩ := he
    have hzd : IsZip hd z TI TO .ellipsis := hsd _ _ D.i2z.symm (hsc.extBut _ _ D.TOz.symm (hsb.extBut _ _ D.i1z.symm hza))
    have hez : e ≠ z := fun x => by subst x; rw [hzd] at hoe; cases hoe; simp at hce
    exact wpAny_setField_rec hzd (by simp) fun hf _ hsf => fin hf e (fun c o c1 c2 c3 c4 x => hsf.extBut _ _ c1 (hsd _ _ c4 (hsc.extBut _ _ c2 (hsb.extBut _ _ c3 (hsa.extBut _ _ c1 x))))) ⟨oe, hsf.extBut _ _ hez hoe, hce⟩
end
end HT
namespace HT
open PySem PyProof.Rows
abbrev itO (t : Addr) : Obj := { cls := .type "tuple_iterator", data := .fields #[.ref t, .int 0 0] }
abbrev zh1 (h : Heap) (t1 : Addr) : Heap := h.push (itO t1)
abbrev zh2 (h : Heap) (t1 t2 : Addr) : Heap := (zh1 h t1).push (itO t2)
abbrev zh3 (h : Heap) (t1 t2 : Addr) : Heap := (zh2 h t1 t2).push { cls := .type "tuple", data := .seq #[.ref h.objs.size, .ref (zh1 h t1).objs.size] }
abbrev zh4 (h : Heap) (t1 t2 : Addr) : Heap := (zh3 h t1 t2).push { cls := .type "tuple", data := .seq #[.none, .none] }
abbrev zh5 (h : Heap) (t1 t2 : Addr) : Heap := (zh4 h t1 t2).push { cls := .type "zip", data := .fields #[.none, .bool false, .bool false, .ref (zh2 h t1 t2).objs.size, .ref (zh3 h t1 t2).objs.size] }
theorem vM (t1 t2 : Addr) (xs ys : Array Value) :
  Meets (Builtin.«zip.__new__» ⟨[.type "zip", .ref t1, .ref t2], []⟩) (fun _ R s => s.heap.IsTuple t1 xs ∧ s.heap.IsTuple t2 ys ∧ R (.ok (.ret (.ref (zh4 s.heap t1 t2).objs.size))) { s with heap := zh5 s.heap t1 t2 }) :=
 .of_wp fun prog w A R s h => by
  obtain ⟨hp, g, d, tk, os⟩ := s; obtain ⟨hl1, hl2, h⟩ := h
  have hsub := sub_zip
  have hL1 : Heap.IsTuple (Shared.heap ⟨hp, g, d, tk, os⟩) t1 xs := hl1
  have hL2 : Heap.IsTuple (Shared.heap ⟨hp.push (itO t1), g, d, tk, os⟩) t2 ys := hl2.at fun o e => Heap.get?_push_of_some _ e
  wp_walk using wpAny_pyIter_tuple hL1, wpAny_pyIter_tuple hL2
  exact ⟨_, rfl, h⟩
section
variable {prog : Program} {w : World} {A : Around} {E : Value → Shared → Prop} {s : Shared}
theorem sD {t1 t2 : Addr} {xs ys : Array Value} {Q : Value → Shared → Prop} (hl1 : s.heap.IsTuple t1 xs) (hl2 : s.heap.IsTuple t2 ys)
  (h : ∀ h', jY h' (s.heap.objs.size + 4) (s.heap.objs.size + 2) (s.heap.objs.size + 3) s.heap.objs.size (s.heap.objs.size + 1) t1 t2 xs ys .none 0 → (∀ c o, s.heap.get? c = some o → h'.get? c = some o) → Q (.ref (s.heap.objs.size + 4)) { s with heap := h' }) :
  wpAny (model prog w) A (call (.type "zip") [.ref t1, .ref t2]) Q E s := by
 refine callType_new F.called_zip (by decide) (F.typeCall_zip_2 _ _) (F.newCall_zip_2 _ _) (fun obj => F.args_object_init_3 obj _ _) F.entry_zip_new (vM t1 t2 xs ys) ⟨hl1, hl2, ?_⟩
 have z1 : (zh1 s.heap t1).objs.size = s.heap.objs.size + 1 := Heap.size_push ..
 have z2 : (zh2 s.heap t1 t2).objs.size = s.heap.objs.size + 2 := by rw [Heap.size_push, z1]
 have z3 : (zh3 s.heap t1 t2).objs.size = s.heap.objs.size + 3 := by rw [Heap.size_push, z2]
 have z4 : (zh4 s.heap t1 t2).objs.size = s.heap.objs.size + 4 := by rw [Heap.size_push, z3]
 have g5 : (zh5 s.heap t1 t2).get? (zh4 s.heap t1 t2).objs.size = some _ := Heap.get?_push_size _ rfl
 have g4 : (zh5 s.heap t1 t2).get? (zh3 s.heap t1 t2).objs.size = some _ := Heap.get?_push_of_some _ (Heap.get?_push_size _ rfl)
 have g3 : (zh5 s.heap t1 t2).get? (zh2 s.heap t1 t2).objs.size = some _ := Heap.get?_push_of_some _ (Heap.get?_push_of_some _ (Heap.get?_push_size _ rfl))
 have g2 : (zh5 s.heap t1 t2).get? (zh1 s.heap t1).objs.size = some _ := Heap.get?_push_of_some _ (Heap.get?_push_of_some _ (Heap.get?_push_of_some _ (Heap.get?_push_size _ rfl)))
 have g1 : (zh5 s.heap t1 t2).get? s.heap.objs.size = some _ := Heap.get?_push_of_some _ (Heap.get?_push_of_some _ (Heap.get?_push_of_some _ (Heap.get?_push_of_some _ (Heap.get?_push_size _ rfl))))
 show _ ∧ _
 rw [z2, z3, z4] at g5
 rw [z1, z2] at g3
 rw [z3] at g4
 rw [z1] at g2
 rw [z4]
 exact ⟨⟨_, g5, rfl⟩, h _ ⟨g5, g3, ⟨_, _, g4⟩, ⟨_, g1, rfl, rfl⟩, ⟨_, g2, rfl, rfl⟩⟩ fun c o x => Heap.get?_push_of_some _ (Heap.get?_push_of_some _ (Heap.get?_push_of_some _ (Heap.get?_push_of_some _ (Heap.get?_push_of_some _ x))))⟩
end
end HT
namespace L2
open PySem PySem.Spec PyProof.Rows
section
variable {X : Cx} {pins : List (Addr × Obj)} {σ : St} {H : Hp} {s : Shared} {h' : Heap}
theorem Inv.turnedL {t' : Nat} {fp : List Addr} (I : Inv X pins σ H s) (k : ∀ b o, b ∉ fp → s.heap.get? b = some o → h'.get? b = some o) (hf : ∀ b ∈ fp, gw X pins H b) : Inv X pins σ H { s with heap := h', toks := t' } := by
 have nit : ∀ b u, H b = some u → b ∉ fp := fun b u e z => by rw [(hf b z).1] at e; cases e
 refine I.step (g' := s.gens) (d' := s.drawn) (ch := fp) (fun b hb => ?_) (fun b o _ _ hc e _ => k b o hc e) (fun b o _ _ hc e _ => ⟨o.slots, k b o hc e⟩) (fun _ _ _ _ n => n)
   (fun b o hc e => ⟨o, k b o hc e⟩) (fun _ _ e => e) (fun _ _ _ e => e) (fun b ps e => ⟨#[], by rw [e]; simp⟩) (fun m hm => ?_) (fun b u e => ?_) I.bare
 · obtain ⟨f0, f1, f2, f3, f4, f5⟩ := hf b hb
   exact ⟨f3, f1, f4, f5⟩
 · obtain ⟨o, es, ep, ho, r⟩ := hm
   exact ⟨o, es, ep, k _ o (fun z => (hf _ z).2.1 rfl) ho, r⟩
 · refine (I.hok b u e).stay (fun c v hc q => k c v ?_ q) (fun _ q => q) fun _ _ q => q
   rcases hc with z | z
   · rw [z]; exact nit b u e
   · exact nit c _ z
end
section
variable {X : Cx} {pins : List (Addr × Obj)} {σ : St} {H H1 : Hp} {s s0 : Shared} {a : Addr} {o : HO}
theorem Inv.track2 (I0 : Inv X pins σ H1 s0) (I : Inv X pins σ H s) (new : s0.heap.objs.size ≤ a) (hn : H a = none) (ok : aR X.prog X.w (upd H a o) s.heap a o) : Inv X pins σ (upd H a o) s := by
 have ne : ∀ b u, s0.heap.get? b = some u → b ≠ a := fun b u e => Nat.ne_of_lt (Nat.lt_of_lt_of_le (Heap.lt_size e) new)
 have ne0 : ∀ b u, X.s₀.heap.get? b = some u → b ≠ a := fun b u e => Nat.ne_of_lt (Nat.lt_of_lt_of_le (Heap.lt_size e) (Nat.le_trans I0.sz new))
 have nL : X.env.locals ≠ a := by
   obtain ⟨m, ⟨o', _, _, e, _⟩, _⟩ := I0.loc
   exact ne _ _ e
 refine ⟨I.ok, I.os, I.bare, ⟨I.base.keep, I.base.slot, fun b u e n hx => ?_, I.base.there, fun b xs e => ?_, fun b u v e => ?_, fun b ps e => ?_⟩, I.loc, I.cell, ?_, fun x c e => ?_, fun p hp => ?_, fun b u e => ?_, I.len⟩
 · rw [ak (ne0 b u e)]; exact I.base.free b u e n hx
 · have := I.base.tups b xs e
   rw [ak (ar this hn)]; exact this
 · have := I.base.frzs b u v e
   rw [ak (ar this hn)]; exact this
 · obtain ⟨more, this⟩ := I.base.tbls b ps e
   exact ⟨more, by rw [ak (ar this hn)]; exact this⟩
 · rw [ak nL]; exact I.free
 · obtain ⟨v, o', e', _⟩ := I0.cell x c e
   rw [ak (ne _ _ e')]; exact I.freeC x c e
 · obtain ⟨h1, h2, h3⟩ := I.pin p hp
   exact ⟨h1, by rw [ak (ne _ _ (I0.pin p hp).1)]; exact h2, h3⟩
 · by_cases hb : b = a
   · subst hb
     rw [ag] at e; cases e
     exact ok
   · rw [ak hb] at e
     exact (I.hok b u e).stay (fun c v _ q => q) (fun c q => by
      have : c ≠ a := ar q hn
      rw [ak this]; exact q) fun c xs q => by
      have : c ≠ a := ar q hn
      rw [ak this]; exact q
end
def Itz (K : W.Frag) (a b : Addr) : It where
 go := fun i H => ∃ xs ys x y, SqT K H a xs ∧ SqT K H b ys ∧ xs[i]? = some x ∧ ys[i]? = some y
 yld := fun i H v H' => ∃ p, v = .ref p ∧ H p = none ∧ ∀ xs ys, SqT K H a xs → SqT K H b ys → ∃ x y, xs[i]? = some x ∧ ys[i]? = some y ∧ H' = upd H p (.tup [x, y])
 stop := fun i H => ∃ xs ys, SqT K H a xs ∧ SqT K H b ys ∧ (xs.length ≤ i ∨ ys.length ≤ i)
theorem vq {P : Program} {w : World} {K : W.Frag} {elts : List Expr} {ek : Nat} {ep : Pos} (a b z TI TO i1 i2 : Addr) (D : ZipApart z TI TO i1 i2 a b) :
  ik P w K (.Tuple elts ek ep) (Itz K a b) [z, TI, TO, i1, i2] z (fun i h => HT.jY h z TI TO i1 i2 a b #[] #[] .none i) where
 mem := by simp
 obj := fun i h st c hc => by
  obtain ⟨hz, hTI, ⟨x, y, hTO⟩, ⟨o1, e1, c1, d1⟩, ⟨o2, e2, c2, d2⟩⟩ := st
  simp only [List.mem_cons, List.not_mem_nil, or_false] at hc
  rcases hc with rfl | rfl | rfl | rfl | rfl
  · exact ⟨_, hz, fun v q => by cases q⟩
  · exact ⟨_, hTI, fun v q => by cases q⟩
  · exact ⟨_, hTO, fun v q => by cases q⟩
  · exact ⟨o1, e1, fun v q => by rw [d1] at q; cases q⟩
  · exact ⟨o2, e2, fun v q => by rw [d2] at q; cases q⟩
 keep := fun i h h' st k => by
  obtain ⟨hz, hTI, ⟨x, y, hTO⟩, h1, h2⟩ := st
  exact ⟨k z (by simp) _ hz, k TI (by simp) _ hTI, ⟨x, y, k TO (by simp) _ hTO⟩, h1.at fun o e => k i1 (by simp) o e, h2.at fun o e => k i2 (by simp) o e⟩
 item := by
  intro X hP hw hK hc i pins s σ H E I hf st hg
  subst hP hw hK
  obtain ⟨xs, ys, x, y, hx, hy, ex, ey⟩ := hg
  obtain ⟨its, r1, p1, _⟩ := I.tuple hx
  obtain ⟨its2, r2, p2, _⟩ := I.tuple hy
  obtain ⟨u, gu, ru⟩ := r1.get ex
  obtain ⟨u2, gu2, ru2⟩ := r2.get ey
  obtain ⟨z1, z2, z3, z4, z5⟩ := st
  refine HT.sr (xs := its.toArray) (ys := its2.toArray) (x := u) (y := u2) D ⟨z1, z2, z3, z4, z5⟩ p1 p2 (by simpa using gu) (by simpa using gu2) fun h1 Z1 hT hk => ?_
  obtain ⟨y1, y2, y3, y4, y5⟩ := Z1
  refine ⟨_, rfl, wpAny_letOwnedTupleGo_zip y1 fun h2 hz2 hs2 => ?_⟩
  have Tn : ∀ c ∈ [z, TI, TO, i1, i2], c ≠ s.heap.objs.size := fun c hc e => by
    obtain ⟨o, eo⟩ : ∃ o, s.heap.get? c = some o := by
      simp only [List.mem_cons, List.not_mem_nil, or_false] at hc
      rcases hc with rfl | rfl | rfl | rfl | rfl
      · exact ⟨_, z1⟩
      · exact ⟨_, z2⟩
      · obtain ⟨_, _, q⟩ := z3; exact ⟨_, q⟩
      · obtain ⟨_, q, _⟩ := z4; exact ⟨_, q⟩
      · obtain ⟨_, q, _⟩ := z5; exact ⟨_, q⟩
    have := Heap.lt_size eo
    rw [e] at this; exact Nat.lt_irrefl _ this
  have k2 : ∀ c o, c ∉ [z, TI, TO, i1, i2] → s.heap.get? c = some o → h2.get? c = some o := fun c o hc e => by
    simp only [List.mem_cons, List.not_mem_nil, or_false, not_or] at hc
    exact hs2.extBut _ _ hc.1 (hk c o hc.1 hc.2.2.1 hc.2.2.2.1 hc.2.2.2.2 e)
  have I1 : Inv X pins σ H { s with heap := h2, toks := s.toks } := I.turnedL k2 hf
  have hTz : s.heap.objs.size ≠ z := fun e => Tn z (by simp) e.symm
  have hT2 : IsPair h2 s.heap.objs.size u u2 := hs2.extBut _ _ hTz hT
  have hfr : H s.heap.objs.size = none := I.hok.fresh (Nat.le_refl _)
  have I2 : Inv X pins σ (upd H s.heap.objs.size (.tup [x, y])) { s with heap := h2, toks := s.toks } :=
    Inv.track2 I I1 (Nat.le_refl _) hfr ⟨by show 2 ≤ sizeLine; decide, [u, u2], .cons ru (.cons ru2 .nil), ⟨_, hT2, rfl, _, rfl⟩⟩
  refine ⟨.ref s.heap.objs.size, _, I2, rfl, ⟨_, rfl, hfr, fun xs' ys' hx' hy' => ⟨x, y, by rw [I.tuple_inj hx' hx]; exact ex, by rw [I.tuple_inj hy' hy]; exact ey, rfl⟩⟩, ?_, fun c hc => ?_⟩
  · exact ⟨hz2, hs2.extBut _ _ D.TIz y2, (let ⟨m, n, q⟩ := y3; ⟨m, n, hs2.extBut _ _ D.TOz q⟩), y4.at fun o e => hs2.extBut _ _ D.i1z e, y5.at fun o e => hs2.extBut _ _ D.i2z e⟩
  · rw [ak (Tn c hc)]; exact (hf c hc).1
 done := by
  intro X hP hw hK hc i pins s σ H E I hf st hg
  subst hP hw hK
  obtain ⟨xs, ys, hx, hy, hl⟩ := hg
  obtain ⟨its, r1, p1, _⟩ := I.tuple hx
  obtain ⟨its2, r2, p2, _⟩ := I.tuple hy
  have l1 := r1.length
  have l2 := r2.length
  obtain ⟨z1, z2, z3, z4, z5⟩ := st
  refine HT.uU (xs := its.toArray) (ys := its2.toArray) (I.ok.hd hc) D ⟨z1, z2, z3, z4, z5⟩ p1 p2 ?_ fun h1 hk => ⟨rfl, I.turnedL (t' := s.toks) (fun c o hc e => ?_) hf⟩
  · rcases hl with q | q
    · exact .inl (by simp; omega)
    · exact .inr (by simp; omega)
  · simp only [List.mem_cons, List.not_mem_nil, or_false, not_or] at hc
    exact hk c o hc.1 hc.2.2.1 hc.2.2.2.1 hc.2.2.2.2 e
 self := fun _ _ _ _ _ st h => wpAny_pyIter_zip st.z h
end L2
namespace L2
open PySem PySem.Spec PyProof.Rows
section
variable {X : Cx} {a b : Expr} {t : TA} {p pos ep : Pos} {elts : List Expr} {ek : Nat}
theorem yZ : bootBuiltins "zip" = some (.type "zip") := by decide +kernel
theorem vz : ∀ (pins : List (Addr × Obj)) (s : Shared) (σ : St) (H : Hp) (us : List Value) (vs : List V) (R : It → Hp → Prop), Inv X pins σ H s → aK vs us → (∃ c d xs ys, vs = [.ref c, .ref d] ∧ SqT X.K H c xs ∧ SqT X.K H d ys ∧ R (Itz X.K c d) H) →
   wpAny (model X.prog X.w) X.A (call (.type "zip") us) (fun v s1 => wpAny (model X.prog X.w) X.A (pyIter v) (PIE X pins σ (.Tuple elts ek ep) R) X.xe s1) X.xe s := by
 intro pins s σ H us vs R I r h
 obtain ⟨c, d, xs, ys, rfl, hx, hy, q⟩ := h
 obtain ⟨u, w', rfl, r1, r2⟩ := mh r
 cases r1
 cases r2
 obtain ⟨its, rv1, p1, _⟩ := I.tuple hx
 obtain ⟨its2, rv2, p2, _⟩ := I.tuple hy
 have lt1 : c < s.heap.objs.size := by obtain ⟨o, e, _⟩ := p1; exact Heap.lt_size e
 have lt2 : d < s.heap.objs.size := by obtain ⟨o, e, _⟩ := p2; exact Heap.lt_size e
 refine HT.sD (show s.heap.IsTuple c its.toArray from p1) (show s.heap.IsTuple d its2.toArray from p2) fun h' Z hk => ?_
 refine wpAny_pyIter_zip Z.z ?_
 refine ⟨s.heap.objs.size + 4, [s.heap.objs.size + 4, s.heap.objs.size + 2, s.heap.objs.size + 3, s.heap.objs.size, s.heap.objs.size + 1], _, Itz X.K c d, H, rfl, I.kept (t' := s.toks) hk, vq c d _ _ _ _ _ (zipApart_new lt1 lt2), ?_, fun b hb => ?_, q⟩
 · obtain ⟨z1, z2, z3, z4, z5⟩ := Z
   exact ⟨z1, z2, z3, z4, z5⟩
 · have : s.heap.objs.size ≤ b := by
    simp only [List.mem_cons, List.not_mem_nil, or_false] at hb
    rcases hb with rfl | rfl | rfl | rfl | rfl <;> omega
   exact I.fpOk this (I.hok.fresh this)
end
end L2
namespace L2
open PySem PySem.Spec PyProof.Rows
theorem sk : bootBuiltins "int" = some (.type "int") := by decide +kernel
section
variable {X : Cx} {a b : Expr} {t : TA} {p pos ep px py : Pos} {elts : List Expr} {ek : Nat} {x y : Str} {iter : Expr} {wi : TI} {tS : TS}
theorem rX (i j : Nat) (hN : X.N.Nodup) {body : List Stmt} (hi : QI X (.Tuple [.Name x px, .Name y py] ek ep) iter wi) (hb : QSs X body tS) (hp : PassesOwn (model X.prog X.w) X.A X.env X.xe) (hc : X.calm = true := by rfl)
  (hj : X.N[i]? = some x := by rfl) (hx : Loc X.env.scope x := by first | exact .inl rfl | exact .inr rfl) (hf : X.fn x = true ∨ X.env.scope.names.lookup x = some .local := by first | exact .inl rfl | exact .inr rfl)
  (hj2 : X.N[j]? = some y := by rfl) (hx2 : Loc X.env.scope y := by first | exact .inl rfl | exact .inr rfl) (hf2 : X.fn y = true ∨ X.env.scope.names.lookup y = some .local := by first | exact .inl rfl | exact .inr rfl)
  (hs : ∀ x, foldedSetIterable iter X.env x = pure x := by intro _; rfl) : QS X (.For (.Tuple [.Name x px, .Name y py] ek ep) iter body [] pos) (eW wi (mX X.K 2 (fg (av i) (fg (av j) mI))) tS) :=
 ⟨rD hp hc hi.out (yX hc (nS (kK hN hj hx hf) (nS (kK hN hj2 hx2 hf2) xU))) hb.out hs⟩
end
end L2
namespace L2
open PySem PySem.Spec PyProof.Rows
def se (C : Addr) (m : Str) (sp : Sp) (E : St → XK) (ta : TE) (t : TA) : TE := fun σ H Q => ta σ H fun x H1 => ∃ a dx fs, x = .ref a ∧ H1 a = some (.ins C dx fs) ∧ fs.lookup m = none ∧ t σ H1 fun vs H2 => sp (x :: vs) H2 Q (E σ)
def sI (C : Addr) (sp : Sp) (E : St → XK) (t : TA) : TE := fun σ H Q => t σ H fun vs H1 => ∀ x dx, H1 x = none → H1 dx = none → dx ≠ x →
 sp (.ref x :: vs) (upd (upd H1 dx (.own x)) x (.ins C dx [])) (fun v H2 => v = .non ∧ Q (.ref x) H2) (E σ)
section
variable {X : Cx} {CX : CXT} {k : Nat} {f C : Addr} {fd : FuncData} {ps : List Str} {sp : Sp} {E : St → XK} {x m fl : Str} {p pos apos pos' : Pos} {e o value : Expr} {es : List Expr} {ta tv to : TE} {t : TA}
theorem mm (he : QE X e ta) (hb : attributeBase e fl X.env (eval e X.env) = eval e X.env := by rfl) : QE X (.Attribute e fl pos) (kS X.K ta fl) := ⟨Aa he.out hb⟩
theorem uQ (ho : QE X o to) (hv : QE X value tv) (hs : swapsWith value (some (.Attribute o fl pos')) pos.line X.env = pure false := by rfl) : QS X (.Assign [.Attribute o fl pos'] value pos) (vF X.K to tv fl) := ⟨zT ho.out hv.out hs⟩
theorem xh {pl : Sem Bool} (he : QE X o ta) (c : Cls X.K C) (hm : vn X.K C m f) (F : aV X.prog X.w X.K X.mg X.base CX k f fd ps sp) (hr : bc k X.A) (hb : bY X.K fd ps []) (hx : eQ CX X E) (ha : QA X (e :: es) t)
  (hs : aZ (e :: es) = true := by rfl)
  (ht : eval (.Call (.Attribute o m apos) (e :: es) [] pos) X.env = (do
   let ov ← eval o X.env
   standAt apos.atName
   let (f, first) ← holding [ov] (getMethod ov m pl)
   callWith pos f first (backTo pos (starEach (e :: es) X.env)) (backToKw pos (keywordEach [] X.env))) := by rfl) :
  QE X (.Call (.Attribute o m apos) (e :: es) [] pos) (se C m sp E ta t) := ⟨fun pins s σ H Q I h => by
 have h' : (bL e && aZ es) = true := hs
 refine W.methodCall_KW (pl := pl) (thn (he.out pins s σ H _ I h) fun u s1 ⟨x, H1, I1, rx, a, dx, fs, ex, ea, l, q⟩ => ?_) ht
 subst ex
 obtain rfl : u = Value.ref a := rx
 refine pR I1 ea c hm l ?_
 refine W.callWith_K (first := [.ref a]) (h₀ := X.base) I.ok.mod.kin hm.kp (thn (ha.out pos pins s1 σ H1 _ I1 q) fun us s2 ⟨vs, H2, I2, r, q2⟩ => ⟨I2.kIn, ?_⟩)
  (aX (Bool.and_eq_true_iff.mp h').1 es X.env) (bJ (Bool.and_eq_true_iff.mp h').2)
 exact kP (us := .ref a :: us) (vs := .ref a :: vs) F hr hb hx I2 (.cons rfl r) q2⟩
theorem sC {pins : List (Addr × Obj)} {σ : St} {H : Hp} {s : Shared} {Q : VK} {us : List Value} {vs : List V} (M : Mk X.K C f) (F : aV X.prog X.w X.K X.mg X.base CX k f fd ps sp) (hr : bc (k + 1) X.A) (hb : bY X.K fd ps [])
    (hx : eQ CX X E) (I : Inv X pins σ H s) (r : aK vs us)
    (h : ∀ x dx, H x = none → H dx = none → dx ≠ x → sp (.ref x :: vs) (upd (upd H dx (.own x)) x (.ins C dx [])) (fun v H2 => v = .non ∧ Q (.ref x) H2) (E σ)) :
    wpAny (model X.prog X.w) X.A (call (.ref C) us) (EP X pins σ Q) X.xe s := by
  have hq := h (s.heap.objs.size + 1) s.heap.objs.size (I.hok.fresh (Nat.le_succ _)) (I.hok.fresh (Nat.le_refl _)) (Nat.ne_of_lt (Nat.lt_succ_self _))
  have I2 := Inv.made (C := C) I
  have r2 : aK (V.ref (s.heap.objs.size + 1) :: vs) (Value.ref (s.heap.objs.size + 1) :: us) := .cons rfl r
  have hl : (Value.ref (s.heap.objs.size + 1) :: us).length = ps.length := by
    have e := r2.length
    rw [F.len _ _ _ _ hq] at e
    exact e.symm
  have hb' := hb _ (Value.ref (s.heap.objs.size + 1) :: us) I2.kIn (by rw [List.append_nil]; exact hl)
  rw [List.append_nil] at hb'
  refine wpAny_call (uw (f := f) I.kIn M.makes M.init (beq_iff_eq.mp M.fn) (codeAny_mono (F.run _ X.stack _ _ ⟨Value.ref (s.heap.objs.size + 1) :: us, []⟩ (Value.ref (s.heap.objs.size + 1) :: us) _ _ (E σ) (hr.make C us [])
    (I2.env0.make C us []) hb' r2 hq) fun r s' hq' => ?_))
  cases r with
  | error e => exact hx pins σ _ _ e s' I2 hq'
  | ok fl =>
    cases fl with
    | ret u =>
      obtain ⟨v, H', I3, rv, ev, q3⟩ := I2.after hq'
      subst ev
      exact ⟨rv, ⟨V.ref (s.heap.objs.size + 1), H', I3, rfl, q3⟩⟩
    | next => exact False.elim hq'
    | brk => exact False.elim hq'
    | cont => exact False.elim hq'
theorem vK (M : Mk X.K C f) (F : aV X.prog X.w X.K X.mg X.base CX k f fd ps sp) (hr : bc (k + 1) X.A) (hm : X.mg x = some (.ref C)) (hb : bY X.K fd ps []) (hx : eQ CX X E)
  (hg : Gl X x := by rfl) (hdb : (x == ("__debug__" : Str)) = false := by decide) : QE X (.Call (.Name x p) [] [] pos) (sI C sp E af) := ⟨fun pins s σ H Q I h => by
 refine wpAny_Call_Name_kw (gs I hg hm ?_ hdb)
 exact W.callWith_K0 I.kIn M.kp (sC (us := []) M F hr hb hx I .nil h)⟩
end
end L2
namespace L2
open PySem PySem.Spec PyProof.Rows
mutual
inductive dB (K : W.Frag) (H : Hp) : V → PyData → Prop
 | non : dB K H .non .none
 | bl (b) : dB K H (.bl b) (.bool b)
 | int (i) : dB K H (.int i) (.int i)
 | str (z) : dB K H (.str z) (.str z)
 | lst {a xs ds} : SqL K H a xs → DatVs K H xs ds → dB K H (.ref a) (.list ds)
 | tup {a xs ds} : SqT K H a xs → DatVs K H xs ds → dB K H (.ref a) (.tuple ds)
inductive DatVs (K : W.Frag) (H : Hp) : List V → List PyData → Prop
 | nil : DatVs K H [] []
 | cons {x xs d ds} : dB K H x d → DatVs K H xs ds → DatVs K H (x :: xs) (d :: ds)
end
section
variable {X : Cx}
mutual
theorem cR {pins : List (Addr × Obj)} {σ : St} {H : Hp} {s : Shared} (I : Inv X pins σ H s) : ∀ {x : V} {d : PyData}, dB X.K H x d → ∀ {v : Value}, aJ x v → ∃ as, Reads s.heap v d as
  | _, _, .non, _, r => by cases r; exact ⟨_, .none⟩
  | _, _, .bl b, _, r => by cases r; exact ⟨_, .bool b⟩
  | _, _, .int i, _, r => by obtain ⟨t, rfl⟩ := r; exact ⟨_, .int i t⟩
  | _, _, .str z, _, r => by obtain ⟨t, rfl⟩ := r; exact ⟨_, .str z t⟩
  | _, _, .lst h hs, _, r => by
    cases r
    obtain ⟨its, r1, ⟨o, n, h1, h2, _, h3⟩, _⟩ := I.list h
    obtain ⟨as, ra⟩ := datVs_reads I hs r1
    exact ⟨_, .list h1 h2 h3 (by simpa using ra)⟩
  | _, _, .tup h hs, _, r => by
    cases r
    obtain ⟨its, r1, ⟨o, h1, h2, n, h3⟩, _⟩ := I.tuple h
    obtain ⟨as, ra⟩ := datVs_reads I hs r1
    exact ⟨_, .tuple h1 h2 h3 (by simpa using ra)⟩
theorem datVs_reads {pins : List (Addr × Obj)} {σ : St} {H : Hp} {s : Shared} (I : Inv X pins σ H s) : ∀ {xs : List V} {ds : List PyData}, DatVs X.K H xs ds → ∀ {vs : List Value}, aK xs vs → ∃ as, ReadsAll s.heap vs ds as
  | _, _, .nil, _, r => by cases r; exact ⟨_, .nil⟩
  | _, _, .cons h hs, _, r => by
    cases r with
    | cons r1 r2 =>
      obtain ⟨as, a⟩ := cR I h r1
      obtain ⟨bs, b⟩ := datVs_reads I hs r2
      exact ⟨_, .cons a b⟩
end
def qe (K : W.Frag) : R2 := fun x y H Q => ∃ d e, dB K H x d ∧ dB K H y e ∧ d.canLay0 = true ∧ e.canLay0 = true ∧ d.depth ≤ 150 ∧ Q (.bl (d.eqv e)) H
def uD (K : W.Frag) : R2 := fun x y H Q => ∃ d e, dB K H x d ∧ dB K H y e ∧ d.canLay0 = true ∧ e.canLay0 = true ∧ d.depth ≤ 150 ∧ Q (.bl (!d.eqv e)) H
theorem zA (hu : X.A.units + 150 < cLine) : OpR X (compareOp .Eq) (qe X.K) := by
 intro pins s σ H x y v u Q I rx ry h
 obtain ⟨d, e, hd, he, cd, ce, dp, q⟩ := h
 obtain ⟨as, ra⟩ := cR I hd rx
 obtain ⟨bs, rb⟩ := cR I he ry
 exact PySem.SeqAt.compareEq_reads ra rb cd ce (by have := Nat.min_le_left d.depth e.depth; omega) ⟨.bl _, H, I, rfl, q⟩
theorem Ab (hu : X.A.units + 150 < cLine) : OpR X (compareOp .NotEq) (uD X.K) := by
 intro pins s σ H x y v u Q I rx ry h
 obtain ⟨d, e, hd, he, cd, ce, dp, q⟩ := h
 obtain ⟨as, ra⟩ := cR I hd rx
 obtain ⟨bs, rb⟩ := cR I he ry
 exact PySem.SeqAt.compareNe_reads ra rb cd ce (by have := Nat.min_le_left d.depth e.depth; omega) ⟨.bl _, H, I, rfl, q⟩
theorem bc.units150 {k : Nat} {A : Around} (r : bc k A) : A.units + 150 < cLine := by have := r.un; omega
def dC (K : W.Frag) : R2 := fun x y H Q => match x, y with
 | .ref a, y => uD K (.ref a) y H Q
 | x, .ref b => uD K x (.ref b) H Q
 | x, y => mNe x y H Q
theorem fT (hu : X.A.units + 150 < cLine) : OpR X (compareOp .NotEq) (dC X.K) := ((Ab hu).or oNe).imp fun x y H Q q => by
 unfold dC at q
 split at q
 · exact .inl q
 · exact .inl q
 · exact .inr q
def qD : V → List V → Hp → VK → Prop := fun x vs H Q => match x, vs with | .int i, [] => Q (.int (Builtin.Int.intBits i)) H | _, _ => False
theorem xw : MtR X "int.bit_length" qD := by
 intro pins s σ H x xs v us Q I rx rs q
 unfold qD at q
 split at q
 · obtain ⟨t, rfl⟩ := rx
   cases rs
   exact call_int_bit_length ⟨.int _, H, I.tok _, ⟨_, rfl⟩, q⟩
 · exact q.elim
variable {o : Expr} {to : TE} {name : Str} {apos cpos : Pos} {T id : String} {rm : V → List V → Hp → VK → Prop}
theorem Cp (pa : PlainAttrs T) (slot : Slot T name id) (hty : typeOf (.builtin id) = pure (.type "method_descriptor")) (hm : MtR X id rm) (ho : QE X o to)
 (hbase : attributeBase o name X.env (eval o X.env) = eval o X.env := by rfl) (hline : (apos.endLine == cpos.line) = true := by rfl) : QE X (.Call (.Attribute o name apos) [] [] cpos) (um X.K T rm to) := ⟨yB pa slot hty hm ho.out hbase hline⟩
end
end L2
namespace L2
open PySem PySem.Spec PyProof.Rows
theorem rP : (("" : String) : Str) = Str.empty := by decide
theorem vY : ∀ xs : List Str, Str.join "" xs = xs.foldr (· ++ ·) Str.empty
  | [] => rfl
  | [x] => (Str.append_empty x).symm
  | x :: y :: r => by
    show x ++ (("" : String) : Str) ++ Str.join "" (y :: r) = x ++ (y :: r).foldr (· ++ ·) Str.empty
    rw [vY (y :: r), rP, Str.append_empty]
theorem kC (xs : List Str) : Txt.join "" xs = xs.foldr (· ++ ·) Str.empty := (eq_of_beq (join_plain_closes "" xs)).trans (vY xs)
theorem og : ∀ xs : List Str, (xs.foldr (· ++ ·) Str.empty).length = (xs.map (·.length)).sum
  | [] => by decide
  | x :: r => by
    show (x ++ r.foldr (· ++ ·) Str.empty).length = _
    rw [strLen_append, og r, List.map_cons, List.sum_cons]
theorem ax {n : Nat} (h : n ≤ 1000000) : n ≤ sizeLine := by rw [sizeLine_eq]; omega
theorem wC (k : Nat) : ((2 ^ k : Nat) : Int) = (2 : Int) ^ k := by simp
theorem rl {α : Type} {xs : List α} {i : Int} (h0 : 0 ≤ i) (h1 : i < xs.length) : ∃ c, atI xs i = some c := by
 unfold atI ixN
 rw [if_pos h0, if_pos h1]
 have : i.toNat < xs.length := by omega
 exact ⟨xs[i.toNat], by show xs[i.toNat]? = _; rw [List.getElem?_eq_getElem this]⟩
theorem jC : ∀ (xs : List Str), (∀ x ∈ xs, x.length = 1) → (xs.map (·.length)).sum = xs.length
  | [], _ => rfl
  | x :: r, h => by
    rw [List.map_cons, List.sum_cons, List.length_cons, jC r fun y hy => h y (List.mem_cons_of_mem _ hy), h x List.mem_cons_self]; omega
theorem EC {p : Prop} [Decidable p] {a b : Prop} (h1 : p → a) (h2 : ¬ p → b) : if decide p = true then a else b := by
 by_cases h : p
 · rw [if_pos (decide_eq_true h)]; exact h1 h
 · rw [if_neg (by rw [decide_eq_false h]; decide)]; exact h2 h
theorem tQ (xs : List Str) (h : ∀ x ∈ xs, x.length = 1) : (Txt.join "" xs).length = xs.length := by rw [kC, og, jC xs h]
end L2
namespace L2
open PySem PySem.Spec PyProof.Rows
section
variable {X : Cx}
theorem bc.units1 {k : Nat} {A : Around} (r : bc k A) : A.units + 1 < cLine := by have := r.un; omega
def AB : R2 := fun x y H Q => ∃ a v, x = .ref a ∧ cO H a y (some v) ∧ Q v H
theorem xy (hu : X.A.units + 1 < cLine) : IxR X AB := by
 intro value slice pins s σ H x y v u Q I rx ry h hs
 obtain ⟨a, w0, rfl, g, q⟩ := h
 obtain rfl : v = Value.ref a := rx
 have hT := oo I g
 have h2 : wpAny (model X.prog X.w) X.A (getItem (.ref a) u) (EP X pins σ Q) X.xe s := rL hu I g ry fun w' s3 I3 rw' => ⟨w0, H, I3, rw', q⟩
 unfold subscriptTail
 refine wpAny_bind ?_
 rw [getitemInPython_of_ne hT.not_modules]
 refine wpAny_bind (wpAny_specialOf hT PySem.F.slot_dict_getitem.lookup ?_)
 have fin : wpAny (model X.prog X.w) X.A (subscripted slice false (.ref a) u) (fun r s₃ => wpAny (model X.prog X.w) X.A (letTemporaryGo value (.ref a) r >>= fun _ => pure r) (EP X pins σ Q) X.xe s₃) X.xe s := by
  rw [hs]
  exact wpAny_operating (wpAny_mono h2 (fun r s₃ h₃ => wpAny_bind (wpAny_letTemporaryGo (wpAny_pure h₃))) fun _ _ x => x)
 first
  | exact wpAny_pure (wpAny_bind fin)
  | exact wpAny_bind (wpAny_pure (wpAny_bind fin))
  | exact wpAny_bind fin
def aA (K : W.Frag) : R2 := fun x y H Q => rIx K x y H Q ∨ AB x y H Q
theorem ay (hu : X.A.units + 1 < cLine) : IxR X (aA X.K) := zL.or (xy hu)
def wc : V → V → V → Hp → (Hp → Prop) → Prop := fun o i v H Q => ∃ a H', o = .ref a ∧ kr H a i v H' ∧ Q H'
theorem uZ (hu : X.A.units + 1 < cLine) : rf X wc := by
 intro pins s σ H o i v ov iv u Q I ro ri rv h
 obtain ⟨a, H', rfl, g, q⟩ := h
 obtain rfl : ov = Value.ref a := ro
 exact sX hu I g ri rv fun s4 I4 => ⟨H', I4, q⟩
def mG : V → V → V → Hp → (Hp → Prop) → Prop := fun o i v H Q => wF o i v H Q ∨ wc o i v H Q
theorem xA (hu : X.A.units + 1 < cLine) : rf X mG := by
 intro pins s σ H o i v ov iv u Q I ro ri rv h
 rcases h with h | h
 · exact vE pins s σ H o i v ov iv u Q I ro ri rv h
 · exact uZ hu pins s σ H o i v ov iv u Q I ro ri rv h
variable {o e : Expr} {to te : TE} {p pos : Pos}
theorem mK {ti : TE} {i : Expr} (hu : X.A.units + 1 < cLine) (ho : QE X o to) (hi : QE X i ti) (he : QE X e te) (hs : swapsWithSole [.Subscript o i p] e pos.line X.env = pure false := by rfl) (hw : swappedStores [.Subscript o i p] e X.env = pure none := by rfl) (ha : ∀ v, assign (.Subscript o i p) X.env v = (do let ov ← holding [v] (eval o X.env); let iv ← holding [v, ov] (eval i X.env); standAt p; holding [v, ov, iv] (setItem ov iv v); release [v, ov, iv] []) := by intro _; rfl) : QS X (.Assign [.Subscript o i p] e pos) (aE te (re to ti mG)) := ⟨Aq he.out (yw ho.out hi.out (xA hu) ha) hs hw⟩
def pe : R2 := fun y x H Q => ∃ a o, x = .ref a ∧ cO H a y o ∧ Q (.bl (!o.isSome)) H
theorem rJ (hu : X.A.units + 1 < cLine) : OpR X (compareOp .NotIn) pe := by
 intro pins s σ H x y v u Q I rx ry h
 obtain ⟨a, ov, rfl, g, q⟩ := h
 obtain rfl : u = Value.ref a := ry
 exact xo hu I g rx fun s3 I3 => ⟨.bl (!ov.isSome), H, I3, rfl, q⟩
def pr (K : W.Frag) : R2 := fun y x H Q => ∃ d ds, dB K H y d ∧ (dB K H x (.list ds) ∨ dB K H x (.tuple ds)) ∧ PyData.canLayAll0 ds = true ∧ d.canLay0 = true ∧ d.depth ≤ 140 ∧ Q (.bl (!ds.any fun e => e.eqv d)) H
theorem sM (hu : X.A.units + 150 < cLine) : OpR X (compareOp .NotIn) (pr X.K) := by
 intro pins s σ H x y v u Q I rx ry h
 obtain ⟨d, ds, hd, hx, c1, c2, dp, q⟩ := h
 obtain ⟨as, ra⟩ := cR I hd rx
 have hm : X.A.units + 1 + min (PyData.depthAll ds) d.depth < cLine := by have := Nat.min_le_right (PyData.depthAll ds) d.depth; omega
 rcases hx with hx | hx
 · obtain ⟨bs, rb⟩ := cR I hx ry
   exact PySem.SeqAt.notIn_list_reads rb ra c1 c2 hm ⟨.bl _, H, I, rfl, q⟩
 · obtain ⟨bs, rb⟩ := cR I hx ry
   exact PySem.SeqAt.notIn_tuple_reads rb ra c1 c2 hm ⟨.bl _, H, I, rfl, q⟩
def fv (K : W.Frag) : R2 := fun y x H Q => pe y x H Q ∨ pr K y x H Q
theorem iU (hu : X.A.units + 150 < cLine) : OpR X (compareOp .NotIn) (fv X.K) := (rJ (by omega)).or (sM hu)
def hV : TE := fun σ H Q => rQ σ H Q ∨ sQ σ H Q
theorem iS : QE X (.Dict [] [] pos) hV := ⟨fun pins s σ H Q I h => h.elim (vQ pins s σ H Q I) (tZ pins s σ H Q I)⟩
theorem sV : bM X (.builtin "len") (fun xs H Q => ∃ p kvs, xs = [.ref p] ∧ H p = some (.dT kvs) ∧ Q (.int kvs.length) H) := by
 intro pins s σ H xs us Q I r h
 obtain ⟨a, kvs, rfl, e, q⟩ := h
 obtain ⟨u, rfl, r1⟩ := fh r
 cases r1
 obtain ⟨z, hd, ps, rel, dd⟩ := pQ I.hok e
 have hl : ps.length = kvs.length := (Paired.length rel).symm
 have hT : s.TypeIs (.ref a) "dict" := dd.typeIs
 obtain ⟨o, es, ep, ho, hc, hdat, he, his, hn⟩ := dd
 have hsz : es.size = kvs.length := by rw [← hl]; have := congrArg List.length he; simpa using this
 have M : MeetsIn X.prog X.w (Builtin.«dict.__len__» ⟨[.ref a], []⟩) (fun _ R s => s.heap.get? a = some o ∧ R (.ok (.ret (.int kvs.length s.toks))) { s with toks := s.toks + 1 }) :=
  .of_wp fun A R s ⟨ho, h⟩ => by
   show wpAny _ _ (dictSize a >>= _) _ _ s
   unfold dictSize
   refine wpAny_bind (wpAny_bind (wpAny_dictEntries ho hdat (wpAny_pure ?_)))
   show wpAny _ _ (Builtin.Dict.pendingCount a >>= _) _ _ s
   refine wpAny_bind (wpAny_pendingCount_other hd ?_)
   refine wpAny_ret_mkInt ?_
   rw [Nat.add_zero, hsz]; exact h
 refine Calls.call_function_entry kind_len plain_len entry_len (args_len1 _) ?_
 unfold Builtin.«len»
 refine wpAny_bind (m := oneArg "len" _) (wpAny_pure ?_)
 refine wpAny_bind (m := callSpecial? (.ref a) (Str.ofString "__len__")) (wpAny_callSpecial?_slot (name := Str.ofString "__len__") hT F.slot_dict_len
  (call_meetsIn F.slot_dict_len hT F.entry_dict_len (F.args_dict_len_1 _) M ⟨ho, ?_⟩))
 show wpAny _ _ _ _ _ { s with toks := s.toks + 1 }
 refine wpAny_bind (wpAny_holding (wpAny_pure ?_))
 refine wpAny_bind (wpAny_letGo ?_)
 have zz : kvs.length ≤ sizeLine := z
 rw [sizeLine_eq] at zz
 show wpAny _ _ (if ((kvs.length : Nat) : Int) < 0 then _ else _) _ _ _
 rw [if_neg (by omega)]
 show wpAny _ _ (if ((kvs.length : Nat) : Int) ≥ 2 ^ 63 then _ else _) _ _ _
 rw [if_neg (by omega)]
 exact wpAny_bind (wpAny_mkInt (wpAny_pure ⟨_, rfl, ⟨.int kvs.length, H, I.tok _, ⟨_, rfl⟩, q⟩⟩))
def bB (K : W.Frag) : List V → Hp → VK → Prop := fun xs H Q => At K xs H Q ∨ ∃ p kvs, xs = [.ref p] ∧ H p = some (.dT kvs) ∧ Q (.int kvs.length) H
theorem bN : bM X (.builtin "len") (bB X.K) := Fd.or sV
def zY (H : Hp) (a : Addr) (y d : V) (r : V) (H' : Hp) : Prop := (cO H a y (some r) ∧ H' = H) ∨ (cO H a y none ∧ kr H a y d H' ∧ r = d)
theorem eD {A : Around} {E : Value → Shared → Prop} {s : Shared} {P : Program} {w : World} {K : Type} [DecidableEq K] {knd : HeapKind P w K} {d a : Addr} {xs : List (K × Addr × Value)} {k : K} {v : Value} {Q : Value → Shared → Prop} (hu : knd.room A) (hkey : knd.is s.heap k a) (hm : s.heap.DictOfH knd d xs)
   (hthere : ∀ p, atKey xs k = some p → Q p.2 { s with toks := s.toks + knd.draws k })
   (hQ : atKey xs k = none → ∀ h', h'.DictOfH knd d (storedH xs k a v) → Heap.SameBut d s.heap h' → Q v { s with heap := h', toks := s.toks + knd.draws k })
   (hsz : xs.length ≤ sizeLine) :
   wpAny (model P w) A (dictSetDefault d (.ref a) v) Q E s := by
 obtain ⟨o, es, ep, ho, hc, hd, he, his, hn⟩ := hm
 unfold dictSetDefault
 try with_reducible refine wpAny_holding ?_
 refine wpAny_bind (knd.pyHash hu hkey ?_)
 refine wpAny_bind (wpAny_dictFind_heap (s := { s with toks := s.toks + knd.draws k }) hu hkey ho hd he his hn ?_ ?_)
 · intro hno
   have hnot : k ∉ xs.map (·.1) := not_mem_keys_of_get hno
   refine wpAny_bind (wpAny_rule (wpAny_bind (wpAny_updateDictKeys (hz := by have e := size_of_entries he; omega) (s := { s with toks := s.toks + knd.draws k }) ho hd (wpAny_pure (hQ (atKey_none_of_get hno) _ ⟨_, _, ep + 1, Heap.get?_update_self _ ho (Obj.isFreed_of_dict (Obj.data_mapDictKeys hd _)),
     hc.mapDictKeys _, Obj.data_mapDictKeys hd _, ?_, ?_, ?_⟩ (Heap.SameBut.update ..))))))
   · rw [storedH_new (atKey_none_of_get hno)]
     simp [he, entryOfKey]
   · rw [storedH_new (atKey_none_of_get hno)]
     intro x hx
     rcases List.mem_append.mp hx with hx | hx
     · exact knd.keeps (his x hx) ho hd (Heap.SameBut.update ..)
     · simp only [List.mem_singleton] at hx
       subst hx
       exact knd.keeps hkey ho hd (Heap.SameBut.update ..)
   · rw [storedH_new (atKey_none_of_get hno)]
     rw [List.map_append, List.nodup_append]
     refine ⟨hn, by simp, ?_⟩
     intro x hx y hy
     simp only [List.map_cons, List.map_nil, List.mem_singleton] at hy
     subst hy
     exact fun e => hnot (e ▸ hx)
 · intro j p hj
   refine wpAny_bind (wpAny_dictEntries (s := { s with toks := s.toks + knd.draws k }) ho hd ?_)
   rw [entry_at he j, hj]
   exact wpAny_bind (wpAny_rule (wpAny_pure (hthere p (atKey_of_get hn hj))))
end
end L2
namespace L2
open PySem PySem.Spec PyProof.Rows
theorem df {h : Heap} {a : Addr} {its : Array Value} (p : PlainL h a its) : h.IsList a its := let ⟨o, n, e, c, _, d⟩ := p; ⟨o, e, c, n, d⟩
structure yr (h : Heap) (z TI TO i1 i2 t1 t2 : Addr) (k : Nat) : Prop where
 z : IsZip h z TI TO .none
 ti : IsPair h TI (.ref i1) (.ref i2)
 to : ∃ a b, IsPair h TO a b
 j1 : h.IsListIter i1 t1 k
 j2 : h.IsListIter i2 t2 k
def jw (K : W.Frag) (a b : Addr) : It where
 go := fun i H => ∃ xs ys x y, SqL K H a xs ∧ SqL K H b ys ∧ xs[i]? = some x ∧ ys[i]? = some y
 yld := fun i H v H' => ∃ p, v = .ref p ∧ H p = none ∧ ∀ xs ys, SqL K H a xs → SqL K H b ys → ∃ x y, xs[i]? = some x ∧ ys[i]? = some y ∧ H' = upd H p (.tup [x, y])
 stop := fun i H => ∃ xs ys, SqL K H a xs ∧ SqL K H b ys ∧ (xs.length ≤ i ∨ ys.length ≤ i)
theorem sN {P : Program} {w : World} {K : W.Frag} {elts : List Expr} {ek : Nat} {ep : Pos} (a b z TI TO i1 i2 : Addr) (D : ZipApart z TI TO i1 i2 a b) :
  ik P w K (.Tuple elts ek ep) (jw K a b) [z, TI, TO, i1, i2] z (fun i h => yr h z TI TO i1 i2 a b i) where
 mem := by simp
 obj := fun i h st c hc => by
  obtain ⟨hz, hTI, ⟨x, y, hTO⟩, ⟨o1, e1, c1, d1⟩, ⟨o2, e2, c2, d2⟩⟩ := st
  simp only [List.mem_cons, List.not_mem_nil, or_false] at hc
  rcases hc with rfl | rfl | rfl | rfl | rfl
  · exact ⟨_, hz, fun v q => by cases q⟩
  · exact ⟨_, hTI, fun v q => by cases q⟩
  · exact ⟨_, hTO, fun v q => by cases q⟩
  · exact ⟨o1, e1, fun v q => by rw [d1] at q; cases q⟩
  · exact ⟨o2, e2, fun v q => by rw [d2] at q; cases q⟩
 keep := fun i h h' st k => by
  obtain ⟨hz, hTI, ⟨x, y, hTO⟩, h1, h2⟩ := st
  exact ⟨k z (by simp) _ hz, k TI (by simp) _ hTI, ⟨x, y, k TO (by simp) _ hTO⟩, h1.at fun o e => k i1 (by simp) o e, h2.at fun o e => k i2 (by simp) o e⟩
 item := by
  intro X hP hw hK hc i pins s σ H E I hf st hg
  subst hP hw hK
  obtain ⟨xs, ys, x, y, hx, hy, ex, ey⟩ := hg
  obtain ⟨its, r1, p1, _⟩ := I.list hx
  obtain ⟨its2, r2, p2, _⟩ := I.list hy
  obtain ⟨u, gu, ru⟩ := r1.get ex
  obtain ⟨u2, gu2, ru2⟩ := r2.get ey
  obtain ⟨z1, z2, z3, z4, z5⟩ := st
  obtain ⟨za, zb, z3'⟩ := z3
  refine wpAny_pyNext_zip_item (xs := its.toArray) (ys := its2.toArray) (x := u) (y := u2) D z1 z2 z3' z4 z5 (df p1) (df p2) (by simpa using gu) (by simpa using gu2) fun h1 y1 y3' y4 y5 hT hsz hk => ?_
  have y2 : IsPair h1 TI (.ref i1) (.ref i2) := hk _ _ D.TIz D.TITO D.TIi1 D.TIi2 z2
  have y3 : ∃ a b, IsPair h1 TO a b := ⟨_, _, y3'⟩
  have z3 : ∃ a b, IsPair s.heap TO a b := ⟨za, zb, z3'⟩
  refine ⟨_, rfl, wpAny_letOwnedTupleGo_zip y1 fun h2 hz2 hs2 => ?_⟩
  have Tn : ∀ c ∈ [z, TI, TO, i1, i2], c ≠ s.heap.objs.size := fun c hc e => by
    obtain ⟨o, eo⟩ : ∃ o, s.heap.get? c = some o := by
      simp only [List.mem_cons, List.not_mem_nil, or_false] at hc
      rcases hc with rfl | rfl | rfl | rfl | rfl
      · exact ⟨_, z1⟩
      · exact ⟨_, z2⟩
      · obtain ⟨_, _, q⟩ := z3; exact ⟨_, q⟩
      · obtain ⟨_, q, _⟩ := z4; exact ⟨_, q⟩
      · obtain ⟨_, q, _⟩ := z5; exact ⟨_, q⟩
    have := Heap.lt_size eo
    rw [e] at this; exact Nat.lt_irrefl _ this
  have k2 : ∀ c o, c ∉ [z, TI, TO, i1, i2] → s.heap.get? c = some o → h2.get? c = some o := fun c o hc e => by
    simp only [List.mem_cons, List.not_mem_nil, or_false, not_or] at hc
    exact hs2.extBut _ _ hc.1 (hk c o hc.1 hc.2.2.1 hc.2.2.2.1 hc.2.2.2.2 e)
  have I1 : Inv X pins σ H { s with heap := h2, toks := s.toks } := I.turnedL k2 hf
  have hTz : s.heap.objs.size ≠ z := fun e => Tn z (by simp) e.symm
  have hT2 : IsPair h2 s.heap.objs.size u u2 := hs2.extBut _ _ hTz hT
  have hfr : H s.heap.objs.size = none := I.hok.fresh (Nat.le_refl _)
  have I2 : Inv X pins σ (upd H s.heap.objs.size (.tup [x, y])) { s with heap := h2, toks := s.toks } :=
    Inv.track2 I I1 (Nat.le_refl _) hfr ⟨by show 2 ≤ sizeLine; decide, [u, u2], .cons ru (.cons ru2 .nil), ⟨_, hT2, rfl, _, rfl⟩⟩
  refine ⟨.ref s.heap.objs.size, _, I2, rfl, ⟨_, rfl, hfr, fun xs' ys' hx' hy' => ⟨x, y, by rw [I.list_inj hx' hx]; exact ex, by rw [I.list_inj hy' hy]; exact ey, rfl⟩⟩, ?_, fun c hc => ?_⟩
  · exact ⟨hz2, hs2.extBut _ _ D.TIz y2, (let ⟨m, n, q⟩ := y3; ⟨m, n, hs2.extBut _ _ D.TOz q⟩), y4.at fun o e => hs2.extBut _ _ D.i1z e, y5.at fun o e => hs2.extBut _ _ D.i2z e⟩
  · rw [ak (Tn c hc)]; exact (hf c hc).1
 done := by
  intro X hP hw hK hc i pins s σ H E I hf st hg
  subst hP hw hK
  obtain ⟨xs, ys, hx, hy, hl⟩ := hg
  obtain ⟨its, r1, p1, _⟩ := I.list hx
  obtain ⟨its2, r2, p2, _⟩ := I.list hy
  have l1 := r1.length
  have l2 := r2.length
  obtain ⟨z1, z2, z3, z4, z5⟩ := st
  obtain ⟨za, zb, z3'⟩ := z3
  refine wpAny_pyNext_zip_end (xs := its.toArray) (ys := its2.toArray) (I.ok.hd hc) D z1 z2 z3' z4 z5 (df p1) (df p2) ?_ fun h1 hk => ⟨rfl, I.turnedL (t' := s.toks) (fun c o hc e => ?_) hf⟩
  · rcases hl with q | q
    · exact .inl (by simp; omega)
    · exact .inr (by simp; omega)
  · simp only [List.mem_cons, List.not_mem_nil, or_false, not_or] at hc
    exact hk c o hc.1 hc.2.2.1 hc.2.2.2.1 hc.2.2.2.2 e
 self := fun _ _ _ _ _ st h => wpAny_pyIter_zip st.z h
section
variable {X : Cx} {a b : Expr} {t : TA} {p pos ep : Pos} {elts : List Expr} {ek : Nat}
theorem sA : ∀ (pins : List (Addr × Obj)) (s : Shared) (σ : St) (H : Hp) (us : List Value) (vs : List V) (R : It → Hp → Prop), Inv X pins σ H s → aK vs us → (∃ c d xs ys, vs = [.ref c, .ref d] ∧ SqL X.K H c xs ∧ SqL X.K H d ys ∧ R (jw X.K c d) H) →
   wpAny (model X.prog X.w) X.A (call (.type "zip") us) (fun v s1 => wpAny (model X.prog X.w) X.A (pyIter v) (PIE X pins σ (.Tuple elts ek ep) R) X.xe s1) X.xe s := by
 intro pins s σ H us vs R I r h
 obtain ⟨c, d, xs, ys, rfl, hx, hy, q⟩ := h
 obtain ⟨u, w', rfl, r1, r2⟩ := mh r
 cases r1
 cases r2
 obtain ⟨its, rv1, p1, _⟩ := I.list hx
 obtain ⟨its2, rv2, p2, _⟩ := I.list hy
 have lt1 : c < s.heap.objs.size := by obtain ⟨o, e, _⟩ := (df p1); exact Heap.lt_size e
 have lt2 : d < s.heap.objs.size := by obtain ⟨o, e, _⟩ := (df p2); exact Heap.lt_size e
 refine call_zip_2 (show s.heap.IsList c its.toArray from (df p1)) (show s.heap.IsList d its2.toArray from (df p2)) fun h' y1 y2 y3 y4 y5 _ hk => ?_
 refine wpAny_pyIter_zip y1 ?_
 refine ⟨s.heap.objs.size + 4, [s.heap.objs.size + 4, s.heap.objs.size + 2, s.heap.objs.size + 3, s.heap.objs.size, s.heap.objs.size + 1], _, jw X.K c d, H, rfl, I.kept (t' := s.toks) hk, sN c d _ _ _ _ _ (zipApart_new lt1 lt2), ?_, fun b hb => ?_, q⟩
 · exact ⟨y1, y2, ⟨_, _, y3⟩, y4, y5⟩
 · have : s.heap.objs.size ≤ b := by
    simp only [List.mem_cons, List.not_mem_nil, or_false] at hb
    rcases hb with rfl | rfl | rfl | rfl | rfl <;> omega
   exact I.fpOk this (I.hok.fresh this)
end
theorem uq {K : W.Frag} {a b : Addr} {xs ys : List V} {g : TG} {tb : TS} {D : eC} {σ : St} {H : Hp} (Pv : Nat → St → Hp → Prop) (h0 : Pv 0 σ H) (hl : ∀ i σ H, i ≤ xs.length → Pv i σ H → SqL K H a xs ∧ SqL K H b ys) (hlen : xs.length = ys.length)
   (hs : ∀ i x y σ H p, xs[i]? = some x → ys[i]? = some y → Pv i σ H → H p = none → g (.ref p) σ (upd H p (.tup [x, y])) fun σ2 H2 => tb { D with nx := Pv (i + 1), ct := Pv (i + 1), bk := D.nx } σ2 H2) (hd : ∀ σ H, Pv xs.length σ H → D.nx σ H) :
   ∃ W : Nat → Nat → St → Hp → Prop, (∃ m, W 0 m σ H) ∧ ∀ i m σ H, W i m σ H →
    ((jw K a b).stop i H ∧ D.nx σ H) ∨ ((jw K a b).go i H ∧ ∃ N : St → Hp → Prop, (∀ σ' H', N σ' H' → ∃ m', m' < m ∧ W (i + 1) m' σ' H') ∧ ∀ x H', (jw K a b).yld i H x H' → g x σ H' fun σ2 H2 => tb { D with nx := N, ct := N, bk := D.nx } σ2 H2) := by
 refine ⟨fun i m σ H => m = xs.length - i ∧ i ≤ xs.length ∧ Pv i σ H, ⟨xs.length, by simp, Nat.zero_le _, h0⟩, ?_⟩
 rintro i m σ H ⟨rfl, hi, p⟩
 obtain ⟨q1, q2⟩ := hl i σ H hi p
 by_cases hlt : i < xs.length
 · have e1 : xs[i]? = some xs[i] := List.getElem?_eq_getElem hlt
   have e2 : ys[i]? = some (ys[i]'(by omega)) := List.getElem?_eq_getElem (by omega)
   refine .inr ⟨⟨xs, ys, _, _, q1, q2, e1, e2⟩, Pv (i + 1), fun σ' H' p' => ⟨xs.length - (i + 1), by omega, rfl, hlt, p'⟩, fun v H' yl => ?_⟩
   obtain ⟨pp, rfl, hn, hy⟩ := yl
   obtain ⟨x, y, ex, ey, rfl⟩ := hy xs ys q1 q2
   exact hs i x y σ H pp ex ey p hn
 · have : i = xs.length := by omega
   subst this
   exact .inl ⟨⟨xs, ys, q1, q2, .inl (Nat.le_refl _)⟩, hd σ H p⟩
end L2
namespace L2
open PySem PySem.Spec PyProof.Rows
set_option genInjectivity false in
set_option genSizeOf false in
structure cQ where
 qual : Str
 body : FuncBody
 scope : Scope
 ps : List Str
 ys : List Str
def jO (t : cQ) (cs : List Addr) (c : Addr) (fd : FuncData) : Prop :=
 fd.qualname = t.qual ∧ fd.body = t.body ∧ fd.scope = t.scope ∧ fd.globals = mainGlobals ∧ fd.closure = t.ys.zip cs ∧ fd.code = .ref c ∧ fd.builtins = builtinsNs ∧
  (∀ us : List Value, us.length = t.ps.length → bindArgs fd ⟨us, []⟩ = pure (t.ps.zip us)) ∧ cs.Nodup ∧ cs.length = t.ys.length
def cN (f : Addr) (t : cQ) (cs : List Addr) (c : Addr) : HO := .ext fun h => ∃ od fd sl, h.get? f = some ⟨.type "function", od, .func fd, sl⟩ ∧ jO t cs c fd
def cf (c : Addr) (qual : Str) : HO := .ext fun h => ∃ o vs tk, h.get? c = some o ∧ o.data = .fields vs ∧ vs[1]? = some (.str qual tk)
def bF (c : Addr) (v : V) : HO := .ext fun h => ∃ u o, aJ v u ∧ h.get? c = some o ∧ o.data = .cell (some u)
abbrev bW (H : Hp) : List Addr → List V → Prop := Paired fun c v => H c = some (bF c v)
structure du (H : Hp) (f : Addr) (t : cQ) (cs : List Addr) (cvs : List V) : Prop where
 ex : ∃ c, H f = some (cN f t cs c) ∧ H c = some (cf c t.qual)
 cells : bW H cs cvs
theorem bW.mem {H : Hp} {cs : List Addr} {cvs : List V} (h : bW H cs cvs) : ∀ c ∈ cs, ∃ v, H c = some (bF c v) := by
  induction h with
  | nil => intro c hc; cases hc
  | cons r t ih =>
    intro c hc
    rcases List.mem_cons.mp hc with rfl | hc
    · exact ⟨_, r⟩
    · exact ih c hc
theorem bW.get {H : Hp} {cs : List Addr} {cvs : List V} (h : bW H cs cvs) : ∀ {i : Nat} {v : V}, cvs[i]? = some v → ∃ c, cs[i]? = some c ∧ H c = some (bF c v) := by
  induction h with
  | nil => intro i v e; cases e
  | @cons c w cs ws r t ih =>
    intro i v e
    cases i with
    | zero => cases e; exact ⟨c, rfl, r⟩
    | succ i => exact ih e
def cr (cs : List Addr) (H : Hp) : Hp := fun b => if b ∈ cs then none else H b
def bU (cs : List Addr) (H H' : Hp) : Hp := fun b => if b ∈ cs then H b else H' b
theorem fJ {cs : List Addr} {H : Hp} {b : Addr} (h : b ∈ cs) : cr cs H b = none := if_pos h
theorem cD {cs : List Addr} {H : Hp} {b : Addr} (h : b ∉ cs) : cr cs H b = H b := if_neg h
theorem gI {cs : List Addr} {H H' : Hp} {b : Addr} (h : b ∈ cs) : bU cs H H' b = H b := if_pos h
theorem bQ {cs : List Addr} {H H' : Hp} {b : Addr} (h : b ∉ cs) : bU cs H H' b = H' b := if_neg h
theorem sT {cs : List Addr} {H H' : Hp} {d : Addr} {o : HO} (h : d ∉ cs) : bU cs H (upd H' d o) = upd (bU cs H H') d o := by
 funext b
 by_cases hb : b ∈ cs
 · have : b ≠ d := fun e => h (e ▸ hb)
   rw [gI hb, ak this, gI hb]
 · rw [bQ hb]
   by_cases e : b = d
   · subst e; rw [ag, ag]
   · rw [ak e, ak e, bQ hb]
theorem bW.notin {H : Hp} {cs : List Addr} {cvs : List V} (h : bW H cs cvs) {b : Addr} {o : HO} (e : H b = some o) (hn : ∀ φ, o ≠ .ext φ) : b ∉ cs := fun hb => by
 obtain ⟨v, ev⟩ := h.mem b hb
 rw [e] at ev
 exact hn _ (Option.some.inj ev)
theorem bW.hide {H : Hp} {cs : List Addr} {cvs : List V} (h : bW H cs cvs) {b : Addr} {o : HO} (e : H b = some o) (hn : ∀ φ, o ≠ .ext φ) : cr cs H b = some o := by
 rw [cD (h.notin e hn)]; exact e
theorem ao.hide {H H' : Hp} (cs : List Addr) (s : ao (cr cs H) H') : ao H (bU cs H H') := fun b o e => by
 by_cases hb : b ∈ cs
 · rw [gI hb]; exact e
 · rw [bQ hb]; exact s _ _ (by rw [cD hb]; exact e)
section
variable {P : Program} {w : World} {fs : List Addr} {H H' : Hp} {h h' : Heap} {cs : List Addr} {cvs : List V}
theorem xH (hc : bW H cs cvs) (ok : HOk P w H h) : HOk P w (cr cs H) h := fun b o e => by
 by_cases hb : b ∈ cs
 · rw [fJ hb] at e; cases e
 · rw [cD hb] at e
   exact (ok b o e).stay (fun c u _ q => q) (fun c q => hc.hide q fun φ z => nomatch z) fun c xs q => hc.hide q fun φ z => nomatch z
theorem oM (hc : bW H cs cvs) (hfs : ∀ b ∈ fs, H b = none) (ok : HOk P w H h) (u : Un fs [] (cr cs H) H' h h') (ok' : HOk P w H' h') : Un fs [] H (bU cs H H') h h' ∧ HOk P w (bU cs H H') h' := by
 have obj : ∀ c ∈ cs, ∃ v o, H c = some (bF c v) ∧ h.get? c = some o ∧ h'.get? c = some o ∧ H' c = none := fun c hm => by
   obtain ⟨v, ev⟩ := hc.mem c hm
   obtain ⟨_, ⟨o, eo⟩, _⟩ := (show aR P w H h c (bF c v) from ok c _ ev)
   refine ⟨v, o, ev, eo, u.keep c o eo (fJ hm) (fun z => ?_) (by simp), u.free c o eo (fJ hm) (by simp)⟩
   rw [hfs c z] at ev; cases ev
 have nin : ∀ b, H b = none → b ∉ cs := fun b e hb => by
   obtain ⟨v, ev⟩ := hc.mem b hb
   rw [e] at ev; cases ev
 have nin' : ∀ b o, H' b = some o → b ∉ cs := fun b o e hb => by
   obtain ⟨_, _, _, _, _, z⟩ := obj b hb
   rw [e] at z; cases z
 refine ⟨⟨fun b o e n hb hx => u.keep b o e (by rw [cD (nin b n)]; exact n) hb hx, fun b o e n hb hx => u.slot b o e (by rw [cD (nin b n)]; exact n) hb hx,
   fun b o e n hx => by rw [bQ (nin b n)]; exact u.free b o e (by rw [cD (nin b n)]; exact n) hx, u.there, fun b xs e => ?_, fun b o v e => ?_, fun b ps e => ?_⟩, fun b o e => ?_⟩
 · have hb := hc.notin e fun φ z => nomatch z
   rw [bQ hb]; exact u.tups b xs (by rw [cD hb]; exact e)
 · have hb := hc.notin e fun φ z => nomatch z
   rw [bQ hb]; exact u.frzs b o v (by rw [cD hb]; exact e)
 · have hb := hc.notin e fun φ z => nomatch z
   rw [bQ hb]; exact u.tbls b ps (by rw [cD hb]; exact e)
 · by_cases hb : b ∈ cs
   · rw [gI hb] at e
     obtain ⟨v, o', ev, e1, e2, _⟩ := obj b hb
     rw [e] at ev; cases ev
     obtain ⟨φ1, _, φ3⟩ := (show aR P w H h b (bF b v) from ok b _ e)
     exact ⟨φ3 h h' φ1 fun q hq => by rw [e1] at hq; cases hq; exact e2, ⟨o', e2⟩, φ3⟩
   · rw [bQ hb] at e
     exact (ok' b o e).stay (fun c u _ q => q) (fun c q => by rw [bQ (nin' c _ q)]; exact q) fun c xs q => by rw [bQ (nin' c _ q)]; exact q
theorem CR.back {outer : List Env} {s s' : Shared} {Q : VK} {E : XK} {r : Result} (hc : bW H cs cvs) (hfs : ∀ b ∈ frs outer, H b = none) (ok : HOk P w H s.heap)
    (h : CR (CX1 P w) outer P w (cr cs H) s (fun v H' => Q v (bU cs H H')) (fun c a H' => E c a (bU cs H H')) r s') : CR (CX1 P w) outer P w H s Q E r s' := by
  cases r with
  | error e =>
    obtain ⟨a, C, d, H', rfl, F, q⟩ := h
    obtain ⟨u, k⟩ := oM hc hfs ok F.un F.hok
    have na : a ∉ cs := fun hb => by
      obtain ⟨v, ev⟩ := hc.mem a hb
      obtain ⟨_, ⟨o, eo⟩, _⟩ := (show aR P w H s.heap a (bF a v) from ok a _ ev)
      rw [F.new] at eo; cases eo
    obtain ⟨oe, vs, a0, T, oT, ts, t1, t2, td, t3, t4, t5, t6, t7, t8, t9, t10, t11⟩ := F.tr
    have nT : T ∉ cs := fun hb => by
      obtain ⟨v, ev⟩ := hc.mem T hb
      obtain ⟨_, ⟨o, eo⟩, _⟩ := (show aR P w H s.heap T (bF T v) from ok T _ ev)
      rw [t10] at eo; cases eo
    exact ⟨a, C, d, _, rfl, ⟨F.os, F.bare, u, k, F.new, by rw [bQ na]; exact F.free, ⟨oe, vs, a0, T, oT, ts, t1, t2, td, t3, t4, t5, t6, t7, t8, t9, t10, by rw [bQ nT]; exact t11⟩⟩, q⟩
  | ok fl =>
    cases fl with
    | ret u =>
      obtain ⟨v, H', os, bare, un, hok, rv, q⟩ := h
      obtain ⟨u', k⟩ := oM hc hfs ok un hok
      exact ⟨v, _, os, bare, u', k, rv, q⟩
    | next => exact False.elim h
    | brk => exact False.elim h
    | cont => exact False.elim h
end
structure eP (P : Program) (w : World) (K : W.Frag) (mg : Str → Option Value) (base : Heap) (k : Nat) (t : cQ) (sp : Sp) : Prop where
 run : ∀ (A : Around) (outer : List Env) (s : Shared) (H : Hp) (f : Addr) (cs : List Addr) (us : List Value) (vs cvs : List V) (Q : VK) (E : XK), bc k A → gU P w K mg base A outer s H → du H f t cs cvs → aK vs us → vs.length = t.ps.length →
  sp (vs ++ cvs) (cr cs H) (fun v H' => Q v (bU cs H H')) (fun c a H' => E c a (bU cs H H')) → codeAny (model P w) A (.call (.ref f) ⟨us, []⟩) (CR (CX1 P w) outer P w H s Q E) s
def dw (N : List Str) (vs cvs : List V) : St := vs.map some ++ (List.replicate (N.length - vs.length - cvs.length) none ++ cvs.map some)
def fM (P : Program) (w : World) (K : W.Frag) (mg : Str → Option Value) (base : Heap) (N : List Str) (qual : Str) (scope : Scope) (f c : Addr) (cl : List (Str × Addr)) (A : Around) (outer : List Env) (s : Shared) (H : Hp) (E : XK) : Cx where
 prog := P
 w := w
 K := K
 mg := mg
 base := base
 A := A.deeper (W.envX qual scope s.heap.objs.size f (.ref c) cl)
 N := N
 s₀ := s
 H₀ := H
 env := W.envX qual scope s.heap.objs.size f (.ref c) cl
 outer := outer
 stack := W.envX qual scope s.heap.objs.size f (.ref c) cl :: outer
 ex := []
 calm := true
 fn := fun _ => false
 pn := []
 xe := fun e s' => wpAny (model P w) (A.deeper (W.envX qual scope s.heap.objs.size f (.ref c) cl)) (leaving (W.envX qual scope s.heap.objs.size f (.ref c) cl) e) (fun _ s'' => CX1 P w outer H s E e s'') (fun e' s'' => CX1 P w outer H s E e' s'') s'
structure dL (N ps ys : List Str) (sc : Scope) : Prop where
 kind : sc.kind = .function
 co : sc.isCoroutine = false
 gen : sc.isGenerator = false
 nd : N.Nodup
 pre : N.take ps.length = ps
 suf : N.drop (N.length - ys.length) = ys
 le : ps.length + ys.length ≤ N.length
 par : ∀ x ∈ ps, sc.names.lookup x = some .local
 nocell : ∀ x ∈ sc.names, x.2 ≠ .cell
 fr : ∀ x ∈ ys, sc.names.lookup x = some .free
 frs : ∀ y ∈ sc.names, y.2 = .free → y.1 ∈ ys
theorem kh {ys : List Str} {cs : List Addr} (hl : cs.length = ys.length) (nd : ys.Nodup) : ∀ {i : Nat} {y : Str} {c : Addr}, ys[i]? = some y → cs[i]? = some c → (ys.zip cs).lookup y = some c := by
  induction ys generalizing cs with
  | nil => intro i y c e; cases e
  | cons a r ih =>
    intro i y c e1 e2
    cases cs with
    | nil => cases e2
    | cons b cs =>
      cases i with
      | zero => cases e1; cases e2; show (List.lookup _ ((_, _) :: _)) = _; rw [List.lookup_cons]; simp
      | succ i =>
        have hne : y ≠ a := fun e => (List.nodup_cons.mp nd).1 (e ▸ List.mem_of_getElem? (show r[i]? = some y from e1))
        show (List.lookup y ((a, b) :: r.zip cs)) = _
        rw [List.lookup_cons, show (y == a) = false from by simpa using hne]
        exact ih (by simpa using hl) (List.nodup_cons.mp nd).2 (show r[i]? = some y from e1) (show cs[i]? = some c from e2)
theorem eY {ys : List Str} {cs : List Addr} : ∀ {y : Str} {c : Addr}, (ys.zip cs).lookup y = some c → ∃ i : Nat, ys[i]? = some y ∧ cs[i]? = some c := by
  induction ys generalizing cs with
  | nil => intro y c e; cases e
  | cons a r ih =>
    intro y c e
    cases cs with
    | nil => cases e
    | cons b cs =>
      have e : (List.lookup y ((a, b) :: r.zip cs)) = some c := e
      rw [List.lookup_cons] at e
      by_cases hy : (y == a) = true
      · rw [hy] at e; cases e; exact ⟨0, by simpa using (eq_of_beq hy).symm, rfl⟩
      · rw [show (y == a) = false from by simpa using hy] at e
        obtain ⟨i, h1, h2⟩ := ih e
        exact ⟨i + 1, h1, h2⟩
theorem kG {ps : List Str} {us : List Value} (nd : ps.Nodup) : ∀ {i : Nat} {x : Str} {u : Value}, ps[i]? = some x → us[i]? = some u → (ps.zip us).reverse.lookup x = some u := by
  induction ps generalizing us with
  | nil => intro i x u e; cases e
  | cons a r ih =>
    intro i x u e1 e2
    cases us with
    | nil => cases e2
    | cons b us =>
      show (List.lookup x ((a, b) :: r.zip us).reverse) = _
      rw [List.reverse_cons, List.lookup_append]
      cases i with
      | zero =>
        cases e1; cases e2
        have : (r.zip us).reverse.lookup a = none := by
          rw [List.lookup_eq_none_iff]
          intro p hp
          have := (List.of_mem_zip (List.mem_reverse.mp hp)).1
          simp only [beq_eq_false_iff_ne, ne_eq, bne_iff_ne]
          intro e
          exact (List.nodup_cons.mp nd).1 (by rw [← e] at this; exact this)
        rw [this]; simp
      | succ i =>
        rw [ih (List.nodup_cons.mp nd).2 (show r[i]? = some x from e1) (show us[i]? = some u from e2)]; rfl
end L2
namespace L2
open PySem PySem.Spec PyProof.Rows
section
variable {P : Program} {w : World} {K : W.Frag} {mg : Str → Option Value} {base : Heap} {N ps ys : List Str} {qual : Str} {scope : Scope} {f c : Addr} {A : Around} {outer : List Env} {s : Shared} {H : Hp} {E : XK} {us : List Value} {vs cvs : List V} {cs : List Addr} {h1 : Heap} {tk : Nat}
theorem oN (S : dL N ps ys scope) (hd : A.handled = none) (e0 : gU P w K mg base A outer s H) (ca : bW H cs cvs) (hcs : cs.Nodup) (hcl : cs.length = ys.length) (hl : vs.length = ps.length) (r : aK vs us)
   (hns : h1.Ns s.heap.objs.size (fun x => (ps.zip us).reverse.lookup x)) (hk : ∀ b o, s.heap.get? b = some o → h1.get? b = some o) :
   Inv (fM P w K mg base N qual scope f c (ys.zip cs) A outer s (cr cs H) E) [] (dw N vs cvs) (cr cs H) { s with heap := h1, toks := tk } := by
 have ndY : ys.Nodup := by rw [← S.suf]; exact S.nd.sublist (List.drop_sublist _ _)
 have ndP : ps.Nodup := by rw [← S.pre]; exact S.nd.sublist (List.take_sublist _ _)
 have lcv : cvs.length = ys.length := by rw [← hcl]; exact (Paired.length ca).symm
 have cellOf : ∀ c ∈ cs, ∃ v, h1.IsCell c v := fun c hm => by
   obtain ⟨v, ev⟩ := ca.mem c hm
   obtain ⟨⟨u, o, _, eo, hd⟩, _, _⟩ := (show aR P w H s.heap c (bF c v) from e0.hok c _ ev)
   exact ⟨_, o, hk _ _ eo, hd⟩
 have memC : ∀ x c, (ys.zip cs).lookup x = some c → c ∈ cs := fun x c e => by
   obtain ⟨i, _, e2⟩ := eY e
   exact List.mem_of_getElem? e2
 have noA : ∀ b : Addr, b ∉ (fM P w K mg base N qual scope f c (ys.zip cs) A outer s (cr cs H) E).ex := fun b z => absurd (show b ∈ ([] : List Addr) from z) (by simp)
 have hid : ∀ b, H b = none → cr cs H b = none := fun b e => by
   by_cases hb : b ∈ cs
   · exact fJ hb
   · rw [cD hb]; exact e
 refine ⟨⟨e0.mod, S.kind, rfl, rfl, Nat.le_refl _, fun y z c h1 h2 => ?_, fun y hy => ?_, fun y c hf _ => ?_, fun _ => hd, Around.frames_deeper e0.frames, .inr ⟨rfl, rfl⟩, fun b z => absurd z (noA b), fun b o e => ⟨(e0.bs b o e).1, hid b (e0.bs b o e).2⟩, e0.bsz, fun b _ _ => noA b, fun b z => absurd z (noA b), e0.funs, fun b hb => hid b (e0.frf b hb)⟩,
   rfl, e0.bare, Un.kept hk, ⟨_, hns, fun i y v q1 q2 q3 => ?_⟩, fun y c h => cellOf c (memC y c h), hid _ (e0.hok.fresh (Nat.le_refl _)), fun y c h => fJ (memC y c h), fun p hp => absurd (show p ∈ ([] : List (Addr × Obj)) from hp) (by simp), (xH ca e0.hok).kept hk, ?_⟩
 · obtain ⟨i, e1, e2⟩ := eY (show (ys.zip cs).lookup y = some c from h1)
   obtain ⟨j, e3, e4⟩ := eY (show (ys.zip cs).lookup z = some c from h2)
   have : i = j := by
     obtain ⟨a1, b1⟩ := List.getElem?_eq_some_iff.mp e2
     obtain ⟨a2, b2⟩ := List.getElem?_eq_some_iff.mp e4
     exact (List.getElem_inj hcs).mp (b1.trans b2.symm)
   subst this
   rw [e1] at e3; exact Option.some.inj e3
 · have hy : scope.names.lookup y = some .cell ∨ scope.names.lookup y = some .free := hy
   rcases hy with hy | hy
   · exact absurd rfl (S.nocell _ (PySem.mem_of_lookup hy))
   · obtain ⟨i, hi, e⟩ := List.mem_iff_getElem.mp (S.frs _ (PySem.mem_of_lookup hy) rfl)
     have hi2 : i < cs.length := by omega
     exact ⟨cs[i], kh hcl ndY (List.getElem?_eq_some_iff.mpr ⟨hi, e⟩) (List.getElem?_eq_getElem hi2)⟩
 · exact absurd (show false = true from hf) Bool.false_ne_true
 · unfold dw at q2
   by_cases hi : i < vs.length
   · rw [List.getElem?_append_left (by simpa using hi), List.getElem?_map] at q2
     have ha : vs[i]? = some v := by
       cases e : vs[i]? with
       | none => rw [e] at q2; cases q2
       | some a => rw [e] at q2; cases q2; rfl
     obtain ⟨u, hu, rv⟩ := r.get ha
     have hp : ps[i]? = some y := by
       rw [← S.pre, List.getElem?_take_of_lt (by omega)]; exact q1
     exact ⟨u, rv, .inl ⟨S.par y (List.mem_of_getElem? hp), kG ndP hp hu⟩⟩
   · rw [List.getElem?_append_right (by simpa using hi), List.length_map] at q2
     by_cases hj : i - vs.length < N.length - vs.length - cvs.length
     · rw [List.getElem?_append_left (by simpa using hj), List.getElem?_replicate] at q2
       split at q2 <;> cases q2
     · rw [List.getElem?_append_right (by simpa using hj), List.length_replicate, List.getElem?_map] at q2
       have ha : cvs[i - vs.length - (N.length - vs.length - cvs.length)]? = some v := by
        cases e : cvs[i - vs.length - (N.length - vs.length - cvs.length)]? with
        | none => rw [e] at q2; cases q2
        | some a => rw [e] at q2; cases q2; rfl
       have hle := S.le
       have hiN : i < N.length := (List.getElem?_eq_some_iff.mp q1).1
       have hx : i - vs.length - (N.length - vs.length - cvs.length) = i - (N.length - ys.length) := by omega
       rw [hx] at ha
       have hy : ys[i - (N.length - ys.length)]? = some y := by
        have e1 : N.drop (N.length - ys.length) = ys := S.suf
        have e2 : (N.drop (N.length - ys.length))[i - (N.length - ys.length)]? = some y := by
         rw [List.getElem?_drop]
         rw [show N.length - ys.length + (i - (N.length - ys.length)) = i by omega]; exact q1
        rw [e1] at e2; exact e2
       obtain ⟨c, ec, hc⟩ := ca.get ha
       obtain ⟨⟨u, o, ru, eo, hdo⟩, _, _⟩ := (show aR P w H s.heap c (bF c v) from e0.hok c _ hc)
       exact ⟨u, ru, .inr ⟨.inr (S.fr y (List.mem_of_getElem? hy)), c, kh hcl ndY hy ec, o, hk _ _ eo, hdo⟩⟩
 · unfold dw
   show _ = N.length
   have := S.le
   rw [List.length_append, List.length_append, List.length_map, List.length_map, List.length_replicate]
   omega
end
section
variable {P : Program} {w : World} {K : W.Frag} {mg : Str → Option Value} {base : Heap} {k : Nat} {t : cQ} {N : List Str} {sp : Sp}
theorem sj {body : List Stmt} (hb : t.body = .stmts body) (S : dL N t.ps t.ys t.scope)
    (hbody : ∀ (f c : Addr) (cl : List (Str × Addr)) (A : Around) (outer : List Env) (s : Shared) (H : Hp) (vs cvs : List V) (Q : VK) (E : XK), bc k (A.deeper (W.envX t.qual t.scope s.heap.objs.size f (.ref c) cl)) → vs.length = t.ps.length → cvs.length = t.ys.length → sp (vs ++ cvs) H Q E →
      ∃ td, PSs (fM P w K mg base N t.qual t.scope f c cl A outer s H E) body td ∧ td { nx := fun _ H' => Q .non H', rt := Q } (dw N vs cvs) H) : eP P w K mg base (k + 1) t sp := by
  refine ⟨fun A outer s H f cs us vs cvs Q E hr e0 ca r hl hsp => ?_⟩
  obtain ⟨c, hf, hcc⟩ := ca.ex
  have KX : K.In s.heap := e0.mod.kin.keeps fun b o e => (e0.bs b o e).1
  have lim : s.heap.NoLimit := e0.mod.nolimit.keeps fun b o e => (e0.bs b o e).1
  obtain ⟨⟨od, fd, sl, ho, h1, h2, h3, h4, h5, h6, h7, h8, h9, h10⟩, _, _⟩ := (show aR P w H s.heap f (cN f t cs c) from e0.hok f _ hf)
  obtain ⟨⟨o, vs', tk, hco, hdo, hv⟩, _, _⟩ := (show aR P w H s.heap c (cf c t.qual) from e0.hok c _ hcc)
  have hcd : s.heap.CodeRec fd.code fd.qualname := ⟨c, o, vs', tk, h6, hco, hdo, by rw [h1]; exact hv⟩
  refine codeAny_mono (codeAny_call_function (R := CR (CX1 P w) outer P w (cr cs H) s (fun v H' => Q v (bU cs H H')) (fun c a H' => E c a (bU cs H H'))) hr.depth ho rfl (by rw [h3]; exact S.co) (by rw [h3]; exact S.gen) (h2.trans hb) hcd ?_) fun r s' h => CR.back ca.cells e0.frf e0.hok h
  rw [h8 us (by rw [← r.length]; exact hl), h3, h4, h5, h1, h6, h7]
  refine wpAny_pure (wpAny_newFunctionEnv S.nocell (fun y hy => S.par y.1 (List.of_mem_zip hy).1) (fun h' hns hsb => ⟨lim.fresh _ hsb, ?_⟩) S.kind)
  have hk : ∀ b o, s.heap.get? b = some o → h'.get? b = some o := fun b o e => hsb.extBut b o (Nat.ne_of_lt (Heap.lt_size e)) (Heap.get?_push_of_some _ e)
  have lcv : cvs.length = t.ys.length := by rw [← h10]; exact (Paired.length ca.cells).symm
  obtain ⟨td, ht, hq⟩ := hbody f c (t.ys.zip cs) A outer s (cr cs H) vs cvs _ _ (hr.deeper _) hl lcv hsp
  have I := oN (tk := s.toks + (t.ps.zip us).length) (qual := t.qual) (f := f) (c := c) (E := fun c a H' => E c a (bU cs H H')) S hr.hd e0 ca.cells h9 h10 hl r hns hk
  show codeAny _ _ (.func body (W.envX t.qual t.scope s.heap.objs.size f (.ref c) (t.ys.zip cs))) _ _
  refine codeAny_func ?_
  refine wpAny_mono (ht [] _ (dw N vs cvs) _ _ I hq) (fun fl s' hs => ?_) fun e s' hs => hs
  cases fl with
  | ret u =>
    obtain ⟨v, σ', H', J, rv, q⟩ := hs
    exact ⟨v, H', J.os, J.bare, J.base, J.hok, rv, q⟩
  | next =>
    obtain ⟨σ', H', J, q⟩ := hs
    exact ⟨V.non, H', J.os, J.bare, J.base, J.hok, rfl, q⟩
  | brk =>
    obtain ⟨_, _, _, q⟩ := hs
    exact False.elim q
  | cont =>
    obtain ⟨_, _, _, q⟩ := hs
    exact False.elim q
theorem oS {body : Expr} (hb : t.body = .expr body) (S : dL N t.ps t.ys t.scope)
  (hbody : ∀ (f c : Addr) (cl : List (Str × Addr)) (A : Around) (outer : List Env) (s : Shared) (H : Hp) (vs cvs : List V) (Q : VK) (E : XK), bc k (A.deeper (W.envX t.qual t.scope s.heap.objs.size f (.ref c) cl)) → vs.length = t.ps.length → cvs.length = t.ys.length → sp (vs ++ cvs) H Q E →
   ∃ te, PE (fM P w K mg base N t.qual t.scope f c cl A outer s H E) body te ∧ te (dw N vs cvs) H Q) : eP P w K mg base (k + 1) t sp := by
 refine ⟨fun A outer s H f cs us vs cvs Q E hr e0 ca r hl hsp => ?_⟩
 obtain ⟨c, hf, hcc⟩ := ca.ex
 have KX : K.In s.heap := e0.mod.kin.keeps fun b o e => (e0.bs b o e).1
 have lim : s.heap.NoLimit := e0.mod.nolimit.keeps fun b o e => (e0.bs b o e).1
 obtain ⟨⟨od, fd, sl, ho, h1, h2, h3, h4, h5, h6, h7, h8, h9, h10⟩, _, _⟩ := (show aR P w H s.heap f (cN f t cs c) from e0.hok f _ hf)
 obtain ⟨⟨o, vs', tk, hco, hdo, hv⟩, _, _⟩ := (show aR P w H s.heap c (cf c t.qual) from e0.hok c _ hcc)
 have hcd : s.heap.CodeRec fd.code fd.qualname := ⟨c, o, vs', tk, h6, hco, hdo, by rw [h1]; exact hv⟩
 refine codeAny_mono (W.kla_callFunE (R := CR (CX1 P w) outer P w (cr cs H) s (fun v H' => Q v (bU cs H H')) (fun c a H' => E c a (bU cs H H'))) hr.depth ho rfl (by rw [h3]; exact S.co) (by rw [h3]; exact S.gen) (h2.trans hb) hcd ?_) fun r s' h => CR.back ca.cells e0.frf e0.hok h
 rw [h8 us (by rw [← r.length]; exact hl), h3, h4, h5, h1, h6, h7]
 refine wpAny_pure (wpAny_newFunctionEnv S.nocell (fun y hy => S.par y.1 (List.of_mem_zip hy).1) (fun h' hns hsb => ⟨lim.fresh _ hsb, ?_⟩) S.kind)
 have hk : ∀ b o, s.heap.get? b = some o → h'.get? b = some o := fun b o e => hsb.extBut b o (Nat.ne_of_lt (Heap.lt_size e)) (Heap.get?_push_of_some _ e)
 have lcv : cvs.length = t.ys.length := by rw [← h10]; exact (Paired.length ca.cells).symm
 obtain ⟨te, ht, hq⟩ := hbody f c (t.ys.zip cs) A outer s (cr cs H) vs cvs _ _ (hr.deeper _) hl lcv hsp
 have I := oN (tk := s.toks + (t.ps.zip us).length) (qual := t.qual) (f := f) (c := c) (E := fun c a H' => E c a (bU cs H H')) S hr.hd e0 ca.cells h9 h10 hl r hns hk
 show codeAny _ _ (.expr body (W.envX t.qual t.scope s.heap.objs.size f (.ref c) (t.ys.zip cs))) _ _
 refine W.kla_codeExpr ?_
 refine wpAny_mono (ht [] _ (dw N vs cvs) _ _ I hq) (fun v s' hs => ?_) fun e s' hs => hs
 obtain ⟨x, H', J, rv, q⟩ := hs
 exact ⟨x, H', J.os, J.bare, J.base, J.hok, rv, q⟩
end
end L2
namespace L2
open PySem PySem.Spec PyProof.Rows
def BM (mg : Str → Option Value) (h : Heap) : Prop := ∃ bm ob, mg "__builtins__" = some (.ref bm) ∧ bm ≠ builtinsNs ∧ h.get? bm = some ob ∧ ob.cls = .type "module" ∧ ob.dict = some builtinsNs ∧ ob.data = .plain
section
variable {X : Cx} {pins : List (Addr × Obj)} {σ : St} {H : Hp} {s : Shared} {P c : Addr} {ps : Array Value} {t : cQ} {cs : List Addr} {h' : Heap} {tk : Nat} {fd : FuncData}
theorem mR {more : Array Value} (I : Inv X pins σ H s) (hP : H P = some (.tbl ps)) (hx : Heap.ExtBut P s.heap h') (hge : s.heap.objs.size ≤ c) (hlt : c < h'.objs.size) (hrec : h'.CodeRec (.ref c) t.qual)
   (htb : h'.get? P = some (W.tabObj (ps ++ more))) (hfd : jO t cs c fd) :
   Inv X pins σ (upd (upd (upd H P (.tbl (ps ++ more))) c (cf c t.qual)) h'.objs.size (cN h'.objs.size t cs c)) { s with heap := h'.push { cls := .type "function", data := .func fd }, toks := tk } := by
 have hcn : H c = none := I.hok.fresh hge
 have hfn : H h'.objs.size = none := I.hok.fresh (Nat.le_of_lt (Nat.lt_of_le_of_lt hge hlt))
 have ncP : c ≠ P := (ar hP hcn).symm
 have nfP : h'.objs.size ≠ P := (ar hP hfn).symm
 have ncf : c ≠ h'.objs.size := Nat.ne_of_lt hlt
 have old : ∀ b o, s.heap.get? b = some o → b ≠ c ∧ b ≠ h'.objs.size := fun b o e => ⟨Nat.ne_of_lt (Nat.lt_of_lt_of_le (Heap.lt_size e) hge), Nat.ne_of_lt (Nat.lt_of_lt_of_le (Heap.lt_size e) (Nat.le_of_lt (Nat.lt_of_le_of_lt hge hlt)))⟩
 have keepP : ∀ b o, b ≠ P → s.heap.get? b = some o → (h'.push { cls := .type "function", data := .func fd }).get? b = some o := fun b o hb e => Heap.get?_push_of_some _ (hx b o hb e)
 have neP : ∀ b, H b = none → b ≠ P := fun b e z => by rw [z, hP] at e; cases e
 have obj : ∀ b o, H b = some o → ∃ u, s.heap.get? b = some u := fun b o e => jm (I.hok b o e)
 have same : ∀ b o, H b = some o → b ≠ P → (upd (upd (upd H P (.tbl (ps ++ more))) c (cf c t.qual)) h'.objs.size (cN h'.objs.size t cs c)) b = some o := fun b o e hb => by
   rw [ak (ar e hfn), ak (ar e hcn), ak hb]; exact e
 refine I.un ⟨fun b o e n hb hx' => keepP b o (neP b n) e, fun b o e n hb hx' => ⟨o.slots, keepP b o (neP b n) e⟩, fun b o e n hx' => ?_, fun b o e hx' => ?_, fun b xs e => same b _ e (bE e hP (fun z => nomatch z)), fun b o u e => same b _ e (bE e hP (fun z => nomatch z)), fun b qs e => ?_⟩ fun b o e => ?_
 · rw [ak (old b o e).2, ak (old b o e).1, ak (neP b n)]; exact n
 · by_cases hb : b = P
   · subst hb; exact ⟨_, Heap.get?_push_of_some _ htb⟩
   · exact ⟨o, keepP b o hb e⟩
 · by_cases hb : b = P
   · subst hb
     rw [hP] at e; cases e
     exact ⟨more, by rw [ak nfP.symm, ak ncP.symm, ag]⟩
   · exact ⟨#[], by rw [same b _ e hb]; simp⟩
 · by_cases hf : b = h'.objs.size
   · subst hf
     rw [ag] at e; cases e
     refine ⟨⟨_, fd, _, Heap.get?_push_size _ rfl, hfd⟩, ⟨_, Heap.get?_push_size _ rfl⟩, ?_⟩
     rintro h1 h2 ⟨od, fd', sl, e1, e2⟩ k
     exact ⟨od, fd', sl, k _ e1, e2⟩
   · rw [ak hf] at e
     by_cases hc : b = c
     · subst hc
       rw [ag] at e; cases e
       obtain ⟨c2, oc, vs, tq, e0, e1, e2, e3⟩ := hrec
       cases e0
       refine ⟨⟨oc, vs, tq, Heap.get?_push_of_some _ e1, e2, e3⟩, ⟨_, Heap.get?_push_of_some _ e1⟩, ?_⟩
       rintro h1 h2 ⟨o, vs, tk, a1, a2, a3⟩ k
       exact ⟨o, vs, tk, k _ a1, a2, a3⟩
     · rw [ak hc] at e
       by_cases hp : b = P
       · subst hp
         rw [ag] at e; cases e
         exact Heap.get?_push_of_some _ htb
       · rw [ak hp] at e
         refine (I.hok b o e).stay (fun a u ha q => keepP a u ?_ q) (fun a q => same a _ q (bE q hP (fun z => nomatch z))) fun a xs q => same a _ q (bE q hP (fun z => nomatch z))
         rcases ha with rfl | ha
         · exact hp
         · exact bE ha hP (fun z => nomatch z)
theorem mV (I : Inv X pins σ H s) (hk : ∀ b o, s.heap.get? b = some o → h'.get? b = some o) (hsz : s.heap.objs.size ≤ h'.objs.size) (hfd : jO t cs c fd) :
  Inv X pins σ (upd H h'.objs.size (cN h'.objs.size t cs c)) { s with heap := h'.push { cls := .type "function", data := .func fd }, toks := tk } := by
 refine I.laid (a := h'.objs.size) (o := cN h'.objs.size t cs c) (fun b u e => Heap.get?_push_of_some _ (hk b u e)) hsz ⟨⟨_, fd, _, Heap.get?_push_size _ rfl, hfd⟩, ⟨_, Heap.get?_push_size _ rfl⟩, ?_⟩
 rintro h1 h2 ⟨od, fd', sl, e1, e2⟩ k
 exact ⟨od, fd', sl, k _ e1, e2⟩
end
def kj (P : Addr) (pos : Pos) (t : cQ) (cs : List Addr) : TE := fun _ H Q => ∃ ps, H P = some (.tbl ps) ∧ TriplesOk ps.toList ∧
  ((codeAmong pos ps.toList = none ∧ ∀ c f, H c = none → H f = none → c ≠ f → Q (.ref f) (upd (upd (upd H P (.tbl (ps ++ #[rawInt pos.line, rawInt pos.col, .ref c]))) c (cf c t.qual)) f (cN f t cs c))) ∨
   ∃ c, codeAmong pos ps.toList = some (.ref c) ∧ ∀ f, H f = none → Q (.ref f) (upd H f (cN f t cs c)))
section
variable {X : Cx} {c0 P : Addr} {params : Arguments} {scope : Scope} {pos : Pos} {t : cQ} {cs : List Addr}
theorem oI {pins : List (Addr × Obj)} {σ : St} {H : Hp} {s : Shared} {ps : Array Value} (I : Inv X pins σ H s) (hP : H P = some (.tbl ps)) (B : BM X.mg X.base) :
   s.heap.get? P = some (W.tabObj ps) ∧ s.heap.Ns mainGlobals X.mg ∧ mainGlobals ≠ P ∧ s.heap.BuiltinsAt X.mg P := by
 have hPo : s.heap.get? P = some (W.tabObj ps) := I.hok P _ hP
 have hg : s.heap.Ns mainGlobals X.mg := I.mod.glob.keeps I.bk
 have hgP : mainGlobals ≠ P := fun q => by
   obtain ⟨o, es, ep, e, hd, _⟩ := hg
   rw [q, hPo] at e; cases e; cases hd
 obtain ⟨bm, ob, b1, b2, b3, b4, b5, b6⟩ := B
 have b3' := I.bk _ _ b3
 refine ⟨hPo, hg, hgP, bm, ob, b1, b2, fun q => ?_, fun q => ?_, b3', b4, b5, b6⟩
 · obtain ⟨o, es, ep, e, hd, _⟩ := hg
   rw [q, e] at b3'; cases b3'; rw [hd] at b6; cases b6
 · rw [q, hPo] at b3'; cases b3'; cases b4
theorem wx {body : Expr} (B : BM X.mg X.base) (C : W.CodeHd X.base c0 P) (hcode : X.env.code = .ref c0) (hcl : closureFor scope X.env = pure (t.ys.zip cs)) (nd : cs.Nodup) (hl : cs.length = t.ys.length)
   (hq : X.env.qual ++ "<lambda>" = t.qual) (hb : t.body = .expr body) (hs : t.scope = scope)
   (hbind : ∀ (cl : List (Str × Addr)) (pm cdv ct : Value) (us : List Value), us.length = t.ps.length → bindArgs (W.kla_fn "<lambda>" t.qual params body scope cl pm cdv ct) ⟨us, []⟩ = pure (t.ps.zip us))
   (hdef : defaultsOf params X.env = ([], []) := by rfl) : QE X (.Lambda params body scope pos) (kj P pos t cs) := ⟨fun pins s σ H Q I h => by
 obtain ⟨ps, hP, ht, h⟩ := h
 obtain ⟨hPo, hg, hgP, hB⟩ := oI I hP B
 have hfd : ∀ (pm ct : Value) (c : Addr), jO t cs c (W.kla_fn "<lambda>" t.qual params body scope (t.ys.zip cs) pm (.ref c) ct) := fun pm ct c => ⟨rfl, hb.symm, hs.symm, rfl, rfl, rfl, rfl, hbind _ _ _ _, nd, hl⟩
 refine W.kla_eval hdef ?_
 rw [hq]
 rcases h with ⟨hn, q⟩ | ⟨c, hf, q⟩
 · refine W.kla_makeFunction hcl I.ok.glob hg hcode (C.keeps I.bk) hPo ht hn hgP hB fun c ctv h' tk hx hge hlt hrec htb => ?_
   exact ⟨.ref h'.objs.size, _, mR I hP hx hge hlt hrec htb (hfd _ _ _), rfl, q c h'.objs.size (I.hok.fresh hge) (I.hok.fresh (Nat.le_of_lt (Nat.lt_of_le_of_lt hge hlt))) (Nat.ne_of_lt hlt)⟩
 · refine W.kla_makeFunctionHit hcl I.ok.glob hg hcode (C.keeps I.bk) hPo ht hf hB fun ctv h' tk hk hsz => ?_
   exact ⟨.ref h'.objs.size, _, mV I hk hsz (hfd _ _ _), rfl, q h'.objs.size (I.hok.fresh hsz)⟩⟩
theorem wK (i : Nat) {name : Str} {body : List Stmt} (hN : X.N.Nodup) (B : BM X.mg X.base) (C : W.CodeHd X.base c0 P) (hcode : X.env.code = .ref c0) (hcl : closureFor scope X.env = pure (t.ys.zip cs)) (nd : cs.Nodup) (hl : cs.length = t.ys.length)
   (hq : qualnameIn X.env name name = t.qual) (hb : t.body = .stmts body) (hs : t.scope = scope)
   (hbind : ∀ (cl : List (Str × Addr)) (doc pm cdv ct : Value) (us : List Value), us.length = t.ps.length → bindArgs (W.fnX name t.qual params body scope cl .none .none doc pm none cdv ct) ⟨us, []⟩ = pure (t.ps.zip us))
   (hi : X.N[i]? = some name := by rfl) (hx : Loc X.env.scope name := by first | exact .inl rfl | exact .inr rfl) (hf : X.fn name = true ∨ X.env.scope.names.lookup name = some .local := by first | exact .inl rfl | exact .inr rfl)
   (hd0 : params.defaults = [] := by rfl) (hk0 : params.kw_defaults = [] := by rfl) (ha : annTrees params none X.env = [] := by rfl) :
   QS X (.FunctionDef name params body [] none [] scope none name pos) (aE (kj P pos t cs) (av i)) := ⟨fun pins s σ H D I h => by
 obtain ⟨ps, hP, ht, h⟩ := h
 obtain ⟨hPo, hg, hgP, hB⟩ := oI I hP B
 have hfd : ∀ (doc pm ct : Value) (c : Addr), jO t cs c (W.fnX name t.qual params body scope (t.ys.zip cs) .none .none doc pm none (.ref c) ct) := fun doc pm ct c => ⟨rfl, hb.symm, hs.symm, rfl, rfl, rfl, rfl, hbind _ _ _ _ _, nd, hl⟩
 refine W.nestDef_K hd0 hk0 ha ?_
 rw [hq]
 rcases h with ⟨hn, q⟩ | ⟨c, hff, q⟩
 · refine W.makeFunction_K hcl I.ok.glob hg hcode (C.keeps I.bk) hPo ht hn hgP hB fun c ctv doc h' tk hx' hge hlt hrec htb => ?_
   have I2 := mR (tk := tk) (cs := cs) I hP hx' hge hlt hrec htb (hfd doc ((X.mg "__name__").getD .none) ctv c)
   exact eK I2 hN hi hx (v := .ref h'.objs.size) rfl (fun s' I3 => ⟨_, _, I3, q c h'.objs.size (I.hok.fresh hge) (I.hok.fresh (Nat.le_of_lt (Nat.lt_of_le_of_lt hge hlt))) (Nat.ne_of_lt hlt)⟩) hf
 · refine W.makeFunction_hit hcl I.ok.glob hg hcode (C.keeps I.bk) hPo ht hff hB fun ctv doc h' tk hk hsz => ?_
   have I2 := mV (tk := tk) (cs := cs) I hk hsz (hfd doc ((X.mg "__name__").getD .none) ctv c)
   exact eK I2 hN hi hx (v := .ref h'.objs.size) rfl (fun s' I3 => ⟨_, _, I3, q h'.objs.size (I.hok.fresh hsz)⟩) hf⟩
end
section
variable {X : Cx} {k : Nat} {E : St → XK} {x : Str} {p pos : Pos} {e : Expr} {es : List Expr} {ta : TE}
abbrev jH := List (cQ × Sp)
def mw (ks : jH) (f : Addr) (vs : List V) (H : Hp) (Q : VK) (E : XK) : Prop := ∃ ts ∈ ks, ∃ cs cvs, du H f ts.1 cs cvs ∧ vs.length = ts.1.ps.length ∧ ts.2 (vs ++ cvs) (cr cs H) (fun v H' => Q v (bU cs H H')) (fun c a H' => E c a (bU cs H H'))
def cu (ks : jH) (E : St → XK) (ta : TE) (t : TA) : TE := fun σ H Q => ta σ H fun x H1 => ∃ f, x = .ref f ∧ (∃ ts ∈ ks, ∃ cs cvs, du H1 f ts.1 cs cvs) ∧ t σ H1 fun vs H2 => mw ks f vs H2 Q (E σ)
theorem rN {P : Program} {w : World} {H : Hp} {h : Heap} {f : Addr} {t : cQ} {cs : List Addr} {cvs : List V} (ok : HOk P w H h) (c : du H f t cs cvs) : W.FnAt f h := by
 obtain ⟨c', hf, _⟩ := c.ex
 obtain ⟨⟨od, fd, sl, ho, _⟩, _, _⟩ := (show aR P w H h f (cN f t cs c') from ok f _ hf)
 exact ⟨_, _, _, _, ho⟩
def oK (P : Program) (w : World) (K : W.Frag) (mg : Str → Option Value) (base : Heap) (k : Nat) (ks : jH) : Prop := ∀ ts ∈ ks, eP P w K mg base k ts.1 ts.2
theorem cH {ks : jH} {t : TA} (hk : oK X.prog X.w X.K X.mg X.base k ks) (hr : bc k X.A) (hx : eQ (CX1 X.prog X.w) X E) (hg : QE X (.Name x p) ta) (ha : QA X (e :: es) t) (hs : aZ (e :: es) = true := by rfl) :
    QE X (.Call (.Name x p) (e :: es) [] pos) (cu ks E ta t) := ⟨fun pins s σ H Q I h => by
  have h' : (bL e && aZ es) = true := hs
  refine wpAny_Call_Name_kw (thn (hg.out pins s σ H _ I h) fun u s1 ⟨y, H1, I1, ry, f, ey, ⟨ts, hts, cs, cvs, ca⟩, q⟩ => ?_)
  subst ey
  obtain rfl : u = Value.ref f := ry
  refine W.callWith_F (rN I1.hok ca) (thn (ha.out pos pins s1 σ H1 _ I1 q) fun us s2 ⟨vs, H2, I2, rv, ts2, hm2, cs2, cvs2, ca2, hl, hsp⟩ => ⟨rN I2.hok ca2, ?_⟩)
    (aX (Bool.and_eq_true_iff.mp h').1 es X.env) (bJ (Bool.and_eq_true_iff.mp h').2)
  refine wpAny_call (codeAny_mono ((hk ts2 hm2).run X.A X.stack s2 H2 f cs2 us vs cvs2 Q (E σ) hr I2.env0 ca2 rv hl hsp) fun r s' hq => ?_)
  cases r with
  | error e => exact hx pins σ H2 s2 e s' I2 hq
  | ok fl =>
    cases fl with
    | ret u => exact I2.after hq
    | next => exact False.elim hq
    | brk => exact False.elim hq
    | cont => exact False.elim hq⟩
end
end L2
namespace L2
open PySem PySem.Spec PyProof.Rows
structure jE where
 nx : St → Hp → Prop
 rt : St → VK
abbrev TSM := jE → St → Hp → Prop
def SPM (X : Cx) (pins : List (Addr × Obj)) (D : jE) (f : Flow) (s' : Shared) : Prop :=
 match f with
 | .next => ∃ σ' H', Inv X pins σ' H' s' ∧ D.nx σ' H'
 | .ret u => ∃ v σ' H', Inv X pins σ' H' s' ∧ aJ v u ∧ D.rt σ' v H'
 | _ => False
structure QM (X : Cx) (st : Stmt) (t : TSM) : Prop where
 out : ∀ (pins : List (Addr × Obj)) (s : Shared) (σ : St) (H : Hp) (D : jE), Inv X pins σ H s → t D σ H → wpAny (model X.prog X.w) X.A (exec st X.env) (SPM X pins D) X.xe s
structure QMs (X : Cx) (st : List Stmt) (t : TSM) : Prop where
 out : ∀ (pins : List (Addr × Obj)) (s : Shared) (σ : St) (H : Hp) (D : jE), Inv X pins σ H s → t D σ H → wpAny (model X.prog X.w) X.A (execs st X.env) (SPM X pins D) X.xe s
def qJ (t u : TSM) : TSM := fun D σ H => t { D with nx := fun σ' H' => u D σ' H' } σ H
def mr (t : TS) : TSM := fun D σ H => t { nx := D.nx, rt := fun _ _ => False } σ H
def mQ (te : TE) : TSM := fun D σ H => te σ H (D.rt σ)
section
variable {X : Cx} {st : Stmt} {sts l m : List Stmt} {t u : TSM} {tS : TS} {e c : Expr} {te : TE} {tc : TT} {pos : Pos}
theorem nC (h : QS X st tS) : QM X st (mr tS) := ⟨fun pins s σ H D I hq => thn (h.out pins s σ H _ I hq) fun f s1 q => by
 cases f with
 | next => exact q
 | ret v => obtain ⟨_, _, _, _, _, z⟩ := q; exact z.elim
 | brk => obtain ⟨_, _, _, z⟩ := q; exact z.elim
 | cont => obtain ⟨_, _, _, z⟩ := q; exact z.elim⟩
theorem ml (h : QE X e te) : QM X (.Return (some e) pos) (mQ te) := ⟨fun pins s σ H D I hq =>
 wpAny_Return_some (thn (h.out pins s σ H _ I hq) fun v s1 ⟨x, H1, I1, r1, q1⟩ => ⟨x, σ, H1, I1, r1, q1⟩)⟩
theorem nv (h1 : QM X st t) (h2 : QMs X sts u) : QMs X (st :: sts) (qJ t u) := ⟨fun pins s σ H D I h => by
  refine wpAny_execs_cons (thn (h1.out pins s σ H _ I h) fun f s1 q => ?_)
  cases f with
  | next =>
    obtain ⟨σ', H', I', q⟩ := q
    exact h2.out pins s1 σ' H' D I' q
  | ret v => exact q
  | brk => exact q
  | cont => exact q⟩
theorem my (h1 : QM X st t) : QMs X [st] t := ⟨fun pins s σ H D I h => by
 refine wpAny_execs_cons (thn (h1.out pins s σ H D I h) fun f s1 q => ?_)
 cases f with
 | next => exact wpAny_execs_nil q
 | ret v => exact q
 | brk => exact q
 | cont => exact q⟩
end
def cA : List (Nat × Addr) → St → Hp → Hp
  | [], _, H => H
  | (i, c) :: r, σ, H => match σ[i]? with
    | some (some v) => cA r σ (upd H c (bF c v))
    | _ => cA r σ H
theorem jn {P : Program} {w : World} {fs : List Addr} {H : Hp} {h h' : Heap} {σ : St} : ∀ (cs : List (Nat × Addr)) (H' : Hp), (cs.map (·.2)).Nodup → (∀ p ∈ cs, H' p.2 = none ∧ h.objs.size ≤ p.2 ∧ ∀ v, σ[p.1]? = some (some v) → ∃ u o, aJ v u ∧ h'.get? p.2 = some o ∧ o.data = .cell (some u)) →
    Un fs [] H H' h h' → HOk P w H' h' → Un fs [] H (cA cs σ H') h h' ∧ HOk P w (cA cs σ H') h'
  | [], H', _, _, u, ok => ⟨u, ok⟩
  | (i, c) :: r, H', nd, hc, u, ok => by
    unfold cA
    have ndr := (List.nodup_cons.mp nd).2
    have hcr : ∀ p ∈ r, H' p.2 = none ∧ h.objs.size ≤ p.2 ∧ ∀ v, σ[p.1]? = some (some v) → ∃ u o, aJ v u ∧ h'.get? p.2 = some o ∧ o.data = .cell (some u) := fun p hp => hc p (List.mem_cons_of_mem _ hp)
    split
    · rename_i v hv
      obtain ⟨hn, hge, hcell⟩ := hc (i, c) List.mem_cons_self
      have hn : H' c = none := hn
      have hge : h.objs.size ≤ c := hge
      obtain ⟨uv, o, ru, eo, hd⟩ := hcell v hv
      have eo : h'.get? c = some o := eo
      refine jn r (upd H' c (bF c v)) ndr (fun p hp => ⟨?_, (hcr p hp).2⟩) ⟨u.keep, u.slot, fun b ob e n hx => ?_, u.there, fun b xs e => ?_, fun b ob z e => ?_, fun b ps e => ?_⟩ fun b ob e => ?_
      · have : p.2 ≠ c := fun z => (List.nodup_cons.mp nd).1 (by rw [← z]; exact List.mem_map.mpr ⟨p, hp, rfl⟩)
        rw [ak this]; exact (hcr p hp).1
      · rw [ak (Nat.ne_of_lt (Nat.lt_of_lt_of_le (Heap.lt_size e) hge))]; exact u.free b ob e n hx
      · have z := u.tups b xs e; rw [ak (ar z hn)]; exact z
      · have z := u.frzs b ob _ e; rw [ak (ar z hn)]; exact z
      · obtain ⟨more, z⟩ := u.tbls b ps e; exact ⟨more, by rw [ak (ar z hn)]; exact z⟩
      · by_cases hb : b = c
        · subst hb
          rw [ag] at e; cases e
          refine ⟨⟨uv, o, ru, eo, hd⟩, ⟨o, eo⟩, ?_⟩
          rintro h1 h2 ⟨u', o', r', e', d'⟩ k
          exact ⟨u', o', r', k _ e', d'⟩
        · rw [ak hb] at e
          exact (ok b ob e).stay (fun a q _ z => z) (fun a q => by rw [ak (ar q hn)]; exact q) fun a xs q => by rw [ak (ar q hn)]; exact q
    · exact jn r H' ndr hcr u ok
theorem Fun.okM {P : Program} {w : World} {K : W.Frag} {mg : Str → Option Value} {base : Heap} {x qual : Str} {st : Stmt} {f c0 : Addr} {fd : FuncData} {N ps : List Str} {k : Nat} {sp : Sp} {caps : Nat → List (Nat × Addr)} (F : Fun K x qual st f fd) (hcd : fd.code = .ref c0) (S : aF N ps (am st)) (len : ∀ vs H Q E, sp vs H Q E → vs.length = ps.length)
    (hcaps : ∀ (L : Nat) (p : Nat × Addr), p ∈ caps L → ∃ y, N[p.1]? = some y ∧ (am st).names.lookup y = some .cell ∧ (cellsFrom (L + 1) (am st).names []).lookup y = some p.2) (hnd : ∀ L, ((caps L).map (·.2)).Nodup)
    (hbody : ∀ (A : Around) (outer : List Env) (s : Shared) (H : Hp) (vs : List V) (Q : VK) (E : XK), bc k (A.deeper (envOfC qual (am st) s.heap.objs.size f (.ref c0))) → sp vs H Q E →
      ∃ t, QMs (de (CX1 P w) P w K mg base N qual (am st) f (.ref c0) A outer s H E) (aQ st) t ∧ t { nx := fun σ H' => (∀ p ∈ caps s.heap.objs.size, H' p.2 = none) → Q .non (cA (caps s.heap.objs.size) σ H'), rt := fun σ v H' => (∀ p ∈ caps s.heap.objs.size, H' p.2 = none) → Q v (cA (caps s.heap.objs.size) σ H') } (start N vs) H) : aV P w K mg base (CX1 P w) (k + 1) f fd ps sp := by
  obtain ⟨oc, od, kV, doc, pm, an, cdv, ct, osl, rfl, lk, hcd'⟩ := F.ex
  obtain rfl : cdv = .ref c0 := hcd
  refine ⟨len, fun A outer s H args us vs Q E hr e0 hb r hsp => ?_⟩
  have hl := len _ _ _ _ hsp
  have KX : K.In s.heap := e0.mod.kin.keeps fun b o e => (e0.bs b o e).1
  have lim : s.heap.NoLimit := e0.mod.nolimit.keeps fun b o e => (e0.bs b o e).1
  have hkind : ∀ y ∈ ps.zip us, (am st).names.lookup y.1 = some .local ∨ ((am st).names.lookup y.1 = some .cell ∧ ((cellsFrom (s.heap.objs.size + 1) (am st).names []).lookup y.1).isSome = true) := fun ⟨n, v⟩ hy => by
    rcases S.par n (List.of_mem_zip hy).1 with q | q
    · exact .inl q
    · exact .inr ⟨q, W.cellsFrom_some _ _ _ (.inl q)⟩
  refine codeAny_call_function hr.depth (KX _ _ lk) rfl S.co S.gen rfl (W.codeRec_of KX hcd') (hb _ _ _ _ ?_)
  refine wpAny_newFunctionEnv_cells S.kind hkind fun env he s1 x => ?_
  subst he
  refine ⟨lim.keeps x.toInCall.keep, codeAny_func ?_⟩
  obtain ⟨t, ht, hq⟩ := hbody A outer s H vs Q E (hr.deeper _) hsp
  have I : Inv (de (CX1 P w) P w K mg base N qual (am st) f (.ref c0) A outer s H E) [] (start N vs) H s1 := kU S hr.hd e0 hl r x
  refine wpAny_mono (ht.out [] s1 (start N vs) H _ I hq) (fun fl s' hs => ?_) fun e s' hs => hs
  have fin : ∀ {σ' : St} {H' : Hp} {v : V} {u : Value}, Inv (de (CX1 P w) P w K mg base N qual (am st) f (.ref c0) A outer s H E) [] σ' H' s' → aJ v u → ((∀ p ∈ caps s.heap.objs.size, H' p.2 = none) → Q v (cA (caps s.heap.objs.size) σ' H')) → CE outer P w H s Q u s' :=
    fun {σ' H' v u} J rv q => by
      have free : ∀ p ∈ caps s.heap.objs.size, H' p.2 = none := fun p hp => by
        obtain ⟨y, _, _, hc⟩ := hcaps _ p hp
        exact J.freeC y p.2 hc
      have hcond : ∀ p ∈ caps s.heap.objs.size, H' p.2 = none ∧ s.heap.objs.size ≤ p.2 ∧ ∀ v, σ'[p.1]? = some (some v) → ∃ u o, aJ v u ∧ s'.heap.get? p.2 = some o ∧ o.data = .cell (some u) := fun p hp => by
        obtain ⟨y, hy, hk, hc⟩ := hcaps _ p hp
        refine ⟨free p hp, J.ok.cab y p.2 rfl hc, fun v hv => ?_⟩
        obtain ⟨m, _, hloc⟩ := J.loc
        obtain ⟨u', r', lk'⟩ := hloc p.1 y v hy hv (.inr (.inl hk))
        rcases lk' with ⟨z, _⟩ | ⟨_, c, ec, o, eo, hd⟩
        · have z : (am st).names.lookup y = some .local := z
          rw [hk] at z; cases z
        · have ec : (cellsFrom (s.heap.objs.size + 1) (am st).names []).lookup y = some c := ec
          rw [hc] at ec; cases ec
          exact ⟨u', o, r', eo, hd⟩
      obtain ⟨un, ok⟩ := jn (P := P) (w := w) (σ := σ') (caps s.heap.objs.size) H' (hnd _) hcond J.base J.hok
      exact ⟨v, _, J.os, J.bare, un, ok, rv, q free⟩
  cases fl with
  | ret u =>
    obtain ⟨v, σ', H', J, rv, q⟩ := hs
    exact fin J rv q
  | next =>
    obtain ⟨σ', H', J, q⟩ := hs
    exact fin (v := V.non) (u := Value.none) J rfl q
  | brk => exact False.elim hs
  | cont => exact False.elim hs
end L2
namespace L2
open PySem PySem.Spec PyProof.Rows
theorem sZ {P : Program} {w : World} {K : W.Frag} {mg mb : Str → Option Value} {CX : CXT} {k : Nat} {fa a : Addr} {fd : FuncData} {x : Str} {sp : Sp} {s₁ : Shared} {vs : List Value} {ns : List Int} {tabs : List (Addr × Addr)}
    (KX : K.In s₁.heap) (hns : s₁.heap.Ns mainGlobals mg) (hb : s₁.heap.Ns builtinsNs mb) (hbb : ∀ x : Str, x ≠ "__name__" → mb x = bootBuiltins x) (hlim : s₁.heap.NoLimit) (hg : s₁.gens = #[]) (hB : BM mg s₁.heap)
    (hT : ∀ q ∈ tabs, W.CodeHd s₁.heap q.1 q.2 ∧ s₁.heap.get? q.2 = some (W.tabObj #[])) (hKT : W.noTabs K = true)
    (ha : s₁.heap.get? a = some { cls := .type "list", data := .seq vs.toArray }) (hi : IntsAre vs ns) (hl : ns.length ≤ sizeLine) (hr : bc k callerA)
    (F : ∀ base : Heap, K.In base → base.Ns mainGlobals mg → BM mg base → (∀ q ∈ tabs, W.CodeHd base q.1 q.2) → aV P w K mg base CX k fa fd [x] sp) (hbind : ∀ (s : Shared) (u : Value), BindsTo s fd ⟨[u], []⟩ [(x, u)])
    (hsp : ∀ H : Hp, (∀ q ∈ tabs, H q.2 = some (.tbl #[])) → SqL K H a (ns.map V.int) → sp [.ref a] H (fun v _ => v = .bl true) fun _ _ _ => False)
    (hCX : ∀ H e s', CX [] H s₁ (fun _ _ _ => False) e s' → False) :
    codeAny (model P w) callerA (.call (.ref fa) ⟨[.ref a], []⟩) (fun r s' => r = .ok (.ret (.bool true)) ∧ OldK s₁.heap s'.heap ∧ s'.os = s₁.os ∧ AllBare s'.gens) s₁ := by
  have rv := lD hi
  have lenV := hi.length
  have tabK : ∀ q ∈ tabs, K.lookup q.2 = none := fun q hq => by
    cases e : K.lookup q.2 with
    | none => rfl
    | some o =>
      have e2 := KX _ _ e
      rw [(hT q hq).2] at e2; cases e2
      have := List.all_eq_true.mp hKT _ (W.mem_of_lookupK e)
      exact absurd (show false = true from this) Bool.false_ne_true
  have tabA : ∀ q ∈ tabs, q.2 ≠ a := fun q hq e => by
    have e2 := (hT q hq).2
    rw [e, ha] at e2; cases e2
  have core : ∀ H : Hp, (∀ q ∈ tabs, H q.2 = some (.tbl #[])) → SqL K H a (ns.map V.int) → HOk P w H s₁.heap → (∀ b, H b ≠ none → (b = a ∧ ∃ o xs, H b = some (.frz o (.lst xs))) ∨ ∃ q ∈ tabs, q.2 = b) → (∀ b, H b ≠ none → K.lookup b = none) →
      codeAny (model P w) callerA (.call (.ref fa) ⟨[.ref a], []⟩) (fun r s' => r = .ok (.ret (.bool true)) ∧ OldK s₁.heap s'.heap ∧ s'.os = s₁.os ∧ AllBare s'.gens) s₁ := by
    intro H hO hS hok hA hK
    have base_of : ∀ {b : Addr} {o : Obj}, s₁.heap.get? b = some o → H b = none → (fE s₁.heap H).get? b = some o := fun e n => ul e n
    have noA : ∀ {b : Addr} {o : Obj}, s₁.heap.get? b = some o → o.cls ≠ .none → o.cls ≠ .type "list" → H b = none := fun {b o} e c1 c2 => by
      cases q : H b with
      | none => rfl
      | some u =>
        rcases hA b (by rw [q]; simp) with ⟨rfl, _⟩ | ⟨p, hp, rfl⟩
        · rw [ha] at e; cases e; exact absurd rfl c2
        · rw [(hT p hp).2] at e; cases e; exact absurd rfl c1
    have noD : ∀ {b : Addr} {o : Obj} {es : Array DictEntry} {ep : Nat}, s₁.heap.get? b = some o → o.data = .dict es ep → H b = none := fun {b o es ep} e d => by
      cases q : H b with
      | none => rfl
      | some u =>
        rcases hA b (by rw [q]; simp) with ⟨rfl, _⟩ | ⟨p, hp, rfl⟩
        · rw [ha] at e; cases e; cases d
        · rw [(hT p hp).2] at e; cases e; cases d
    have nsK : ∀ {b : Addr} {m : Str → Option Value}, s₁.heap.Ns b m → (fE s₁.heap H).Ns b m := fun {b m} ⟨o, es, ep, e, d, r⟩ => ⟨o, es, ep, base_of e (noD e d), d, r⟩
    have hKb : K.In (fE s₁.heap H) := fun b o e => base_of (KX b o e) (by
      cases q : H b with
      | none => rfl
      | some u => rw [hK b (by rw [q]; simp)] at e; cases e)
    have hBb : BM mg (fE s₁.heap H) := by
      obtain ⟨bm, ob, b1, b2, b3, b4, b5, b6⟩ := hB
      exact ⟨bm, ob, b1, b2, base_of b3 (noA b3 (by rw [b4]; intro z; cases z) (by rw [b4]; intro z; exact absurd (Value.type.inj z) (by decide))), b4, b5, b6⟩
    have hCb : ∀ q ∈ tabs, W.CodeHd (fE s₁.heap H) q.1 q.2 := fun q hq => by
      obtain ⟨o, vs, file, tf, flags, tg, inF, text, tt, e1, e2, r⟩ := (hT q hq).1
      exact ⟨o, vs, file, tf, flags, tg, inF, text, tt, base_of e1 (noA e1 (by rw [e2]; intro z; cases z) (by rw [e2]; intro z; exact absurd (Value.type.inj z) (by decide))), e2, r⟩
    have hM : Mod K mg (fE s₁.heap H) := ⟨hKb, nsK hns, ⟨mb, nsK hb, hbb⟩, let ⟨mc, h1, h2⟩ := hlim; ⟨mc, nsK h1, h2⟩⟩
    have e0 : gU P w K mg (fE s₁.heap H) callerA [] s₁ H := ⟨rfl, hM, fun b o e => xr e, Nat.le_of_eq (rF _ _), trivial, fun b hb => absurd (show b ∈ ([] : List Addr) from hb) (by simp), hok, .of_eq hg⟩
    refine codeAny_mono ((F _ hKb (nsK hns) hBb hCb).run callerA [] s₁ H ⟨[.ref a], []⟩ [.ref a] [.ref a] _ _ hr e0 (hbind s₁ (.ref a)) (.cons rfl .nil) (hsp H hO hS)) fun r s' h => ?_
    cases r with
    | error e => exact (hCX H e s' h).elim
    | ok fl =>
      cases fl with
      | next => exact False.elim h
      | brk => exact False.elim h
      | cont => exact False.elim h
      | ret u =>
        obtain ⟨v, H', os, bare, un, hok', r', q⟩ := h
        have q' : v = .bl true := q
        subst q'
        obtain rfl : u = Value.bool true := r'
        have all : ∀ b o, s₁.heap.get? b = some o → s'.heap.get? b = some o ∨ ∃ q ∈ tabs, q.2 = b ∧ ∃ more, s'.heap.get? b = some (W.tabObj more) := fun b o e => by
          cases q : H b with
          | none => exact .inl (un.keep b o e q (by intro z; exact absurd (show b ∈ ([] : List Addr) from z) (by simp)) (by simp))
          | some u =>
            rcases hA b (by rw [q]; simp) with ⟨rfl, ob, xs, z⟩ | ⟨p, hp, rfl⟩
            · have z2 := un.frzs b ob _ z
              obtain ⟨e1, _⟩ := hok b _ z
              obtain ⟨e2, _⟩ := hok' b _ z2
              rw [e] at e1; cases e1
              exact .inl e2
            · obtain ⟨more, z2⟩ := un.tbls p.2 _ (hO p hp)
              exact .inr ⟨p, hp, rfl, _, hok' p.2 _ z2⟩
        refine ⟨rfl, ⟨fun b o e => ?_, fun b o e => ?_⟩, os, bare⟩
        · rcases all b o e with z | ⟨p, hp, rfl, more, z⟩
          · exact .inl z
          · have e2 := (hT p hp).2
            rw [e] at e2; cases e2
            exact .inr (.inl ⟨((hT p hp).1.tab (hT p hp).2).isCodeTable, rfl, #[], more, rfl, by rw [Array.empty_append]; exact z⟩)
        · rcases all b o e with z | ⟨p, hp, rfl, more, z⟩
          · exact ⟨_, z⟩
          · exact ⟨_, z⟩
  cases hk : K.lookup a with
  | some o =>
    have e := KX a o hk
    rw [ha] at e
    cases e
    refine core (fun b => if b ∈ tabs.map (·.2) then some (.tbl #[]) else none) (fun q hq => if_pos (List.mem_map.mpr ⟨q, hq, rfl⟩)) (.inr ⟨_, vs.toArray, _, hk, rfl, rfl, rfl, by rw [List.size_toArray, lenV]; exact hl, by simpa using rv⟩) (fun b u z => ?_) (fun b z => ?_) fun b z => ?_
    · by_cases hb : b ∈ tabs.map (·.2)
      · have z' := (if_pos hb).symm.trans z
        cases z'
        obtain ⟨q, hq, rfl⟩ := List.mem_map.mp hb
        exact (hT q hq).2
      · have z' := (if_neg hb).symm.trans z
        cases z'
    · by_cases hb : b ∈ tabs.map (·.2)
      · obtain ⟨q, hq, e⟩ := List.mem_map.mp hb
        exact .inr ⟨q, hq, e⟩
      · exact absurd (if_neg hb) z
    · by_cases hb : b ∈ tabs.map (·.2)
      · obtain ⟨q, hq, rfl⟩ := List.mem_map.mp hb
        exact tabK q hq
      · exact absurd (if_neg hb) z
  | none =>
    refine core (fun b => if b = a then some (.frz { cls := .type "list", data := .seq vs.toArray } (.lst (ns.map V.int))) else if b ∈ tabs.map (·.2) then some (.tbl #[]) else none)
      (fun q hq => by show (if q.2 = a then _ else _) = _; rw [if_neg (tabA q hq), if_pos (List.mem_map.mpr ⟨q, hq, rfl⟩)]) (.inl (.inr ⟨{ cls := .type "list", data := .seq vs.toArray }, if_pos rfl⟩)) (fun b u z => ?_) (fun b z => ?_) fun b z => ?_
    · by_cases hb : b = a
      · have z' := (if_pos hb).symm.trans z
        cases z'
        subst hb
        exact ⟨ha, by rw [List.length_map]; exact hl, vs, _, rv, ha⟩
      · have z' : (if b ∈ tabs.map (·.2) then some (HO.tbl #[]) else none) = some u := (if_neg hb).symm.trans z
        by_cases hb2 : b ∈ tabs.map (·.2)
        · rw [if_pos hb2] at z'; cases z'
          obtain ⟨q, hq, rfl⟩ := List.mem_map.mp hb2
          exact (hT q hq).2
        · rw [if_neg hb2] at z'; cases z'
    · by_cases hb : b = a
      · exact .inl ⟨hb, _, _, if_pos hb⟩
      · by_cases hb2 : b ∈ tabs.map (·.2)
        · obtain ⟨q, hq, e⟩ := List.mem_map.mp hb2
          exact .inr ⟨q, hq, e⟩
        · exact absurd ((if_neg hb).trans (if_neg hb2)) z
    · by_cases hb : b = a
      · rw [hb]; exact hk
      · by_cases hb2 : b ∈ tabs.map (·.2)
        · obtain ⟨q, hq, rfl⟩ := List.mem_map.mp hb2
          exact tabK q hq
        · exact absurd ((if_neg hb).trans (if_neg hb2)) z
theorem vD {l : W.OpenLaw} {n k : Nat} {q : Program} {loose : List Str} {XP : (Str → Option Value) → Heap → Prop} {YP : World → Heap → Prop} {d : DefRec} {K : Params → W.Frag} {CX : World → CXT} {x : Str} {names : List Str}
  (hn : l.most = some n) (hn2 : n ≤ sizeLine) (hdf : d.params.defaults = []) (hr : bc k callerA)
  (hY : ∀ (w : World) (h : Heap), YP w h → (K w.params).In h)
  (hq : ∀ y ∈ names, ((PyProof.Rows.recsOf q).find? fun e => e.name == y).isSome = true)
  (F : ∀ (w : World) (mg : Str → Option Value) (fa : Addr) (h : Heap), (K w.params).In h → h.Ns mainGlobals mg → mg d.name = some (.ref fa) →
   ∃ (fd : FuncData) (tabs : List (Addr × Addr)) (sp : Sp), (∀ (s : Shared) (u : Value), BindsTo s fd ⟨[u], []⟩ [(x, u)]) ∧ W.noTabs (K w.params) = true ∧ (∀ t ∈ tabs, ∃ y ∈ names, W.tabIn (K w.params) y = some t) ∧
    (∀ base : Heap, (K w.params).In base → base.Ns mainGlobals mg → BM mg base → (∀ t ∈ tabs, W.CodeHd base t.1 t.2) → aV l.prog w (K w.params) mg base (CX w) k fa fd [x] sp) ∧
    ∀ (H : Hp) (a : Addr) (ns : List Int), ns.length ≤ n → (∀ t ∈ tabs, H t.2 = some (.tbl #[])) → SqL (K w.params) H a (ns.map V.int) → sp [.ref a] H (fun v _ => v = .bl true) fun _ _ _ => False)
  (hCX : ∀ (w : World) (H : Hp) (s : Shared) (e : Value) (s' : Shared), CX w [] H s (fun _ _ _ => False) e s' → False) :
  W.WalkO q loose XP YP l.row.toRowW d [] (fun f vs => PySem.call f vs) := by
 refine Att.attach_call hn hdf fun w s₀ s₁ mg mb fa o pm cd doc a vs ns G Y ho hd hcd hmg hobj hints hlen hg => ?_
 have KX := hY w _ Y
 obtain ⟨fd, tabs, sp, hb, hKT, htabs, hF, hsp⟩ := F w mg fa _ KX G.T.g hmg
 refine sZ (tabs := tabs) KX G.T.g G.T.b G.T.builtins G.T.nolimit hg G.T.bmain (fun t ht => ?_) hKT hobj hints (Nat.le_trans hlen hn2) hr hF hb (fun H hO hS => hsp H a ns hlen hO hS) fun H e s' => hCX w H s₁ e s'
 obtain ⟨y, hy, e⟩ := htabs t ht
 obtain ⟨dd, hdd⟩ := Option.isSome_iff_exists.mp (hq y hy)
 exact W.tab_of G.T KX hdd e
end L2
namespace L2
open PySem PySem.Spec PyProof.Rows
section
variable {X : Cx}
theorem SPM.unwish {E : Value → Shared → Prop} {pins : List (Addr × Obj)} {D : jE} {f : Flow} {s' : Shared} (h : SPM (X.wish E) pins D f s') : SPM X pins D f s' := by
 cases f with
 | next => obtain ⟨σ', H', I, q⟩ := h; exact ⟨σ', H', I.unwish, q⟩
 | brk => exact h
 | cont => exact h
 | ret u => obtain ⟨v, σ', H', I, r, q⟩ := h; exact ⟨v, σ', H', I.unwish, r, q⟩
theorem QMs.nox {st : List Stmt} {t : TSM} (h : QMs X.nox st t) : QMs X st t := ⟨fun pins s σ H D I hw =>
 wpAny_mono (h.out pins s σ H D (I.wish _) hw) (fun _ _ q => SPM.unwish q) fun _ _ z => False.elim z⟩
theorem eP.mono {P : Program} {w : World} {K : W.Frag} {mg : Str → Option Value} {base : Heap} {j k : Nat} {t : cQ} {sp : Sp} (F : eP P w K mg base j t sp) (h : j ≤ k) : eP P w K mg base k t sp :=
 ⟨fun A outer s H f cs us vs cvs Q E hr => F.run A outer s H f cs us vs cvs Q E (hr.mono h)⟩
def kA : V → List V → Hp → VK → Prop := fun x vs H Q => ∃ a y d r H', x = .ref a ∧ vs = [y, d] ∧ zY H a y d r H' ∧ Q r H'
theorem la (hu : X.A.units + 1 < cLine) : MtR X "dict.setdefault" kA := by
 intro pins s σ H x xs v us Q I rx rs h
 obtain ⟨a, y, d, r, H', rfl, rfl, g, q⟩ := h
 obtain rfl : v = Value.ref a := rx
 obtain ⟨uy, ud, rfl, ry, rd⟩ := mh rs
 rcases g with ⟨g, rfl⟩ | ⟨g, p, rfl⟩
 · rcases g with ⟨kvs, k, e, rfl, l⟩ | ⟨kvs, k, b, e, rfl, eb, l⟩
   · obtain ⟨z, hd, vs, rel, dd⟩ := gK I.hok e
     obtain ⟨w', hw, rw'⟩ := bS.some_of (v := r) (o := valueAt vs k) (by rw [l]; exact rel.val k)
     exact call_meetsIn PySem.F.slot_dict_setdefault dd.typeIs PySem.F.entry_dict_setdefault (PySem.F.args_dict_setdefault_3 _ _ _) (kt_meets_setdefault (bI X.prog X.w) a (gR ry) hd ud)
       ⟨vs, dd, by rw [← rel.length]; exact z, (fun v' hv' => by rw [hw] at hv'; cases hv'; exact ⟨r, H', I.tok _, rw', q⟩), (fun hn => by rw [hw] at hn; cases hn)⟩
   · cases (show uy = Value.ref b from ry)
     obtain ⟨z, hd, xs, rel, dd⟩ := iI I.hok e
     obtain ⟨w', hw, rw'⟩ := bS.some_of (v := r) (o := (atKey xs k).map (·.2)) (by rw [l]; exact rel.val k)
     obtain ⟨pp, hp, hp2⟩ := Option.map_eq_some_iff.mp hw
     refine wpAny_call_entry PySem.F.slot_dict_setdefault dd.typeIs PySem.F.entry_dict_setdefault ?_ (PySem.F.args_dict_setdefault_3 _ _ _)
     unfold Builtin.«dict.setdefault»
     refine wpAny_bind ?_
     unfold Builtin.Dict.keyAndDefault
     refine wpAny_bind (wpAny_notOrdered_dict dd.typeIs ?_)
     show wpAny _ _ (pure (a, Value.ref b, some ud)) _ _ s
     refine wpAny_pure ?_
     show wpAny _ _ (if (a == sysModules) = true then _ else (dictSetDefault a (.ref b) ud >>= _)) _ _ s
     rw [if_neg (by rw [hd]; exact Bool.false_ne_true)]
     refine wpAny_bind (eD (tupleKind_room_in1 hu) (fz I.hok eb) dd (fun p' hp' => ?_) (fun hn => ?_) (by rw [← Paired.length rel]; exact z))
     · rw [hp] at hp'; cases hp'
       exact wpAny_pure ⟨_, rfl, ⟨r, H', I.tok _, by rw [hp2]; exact rw', q⟩⟩
     · rw [hp] at hn; cases hn
 · rcases g with ⟨kvs, k, e, rfl, l⟩ | ⟨kvs, k, b, e, rfl, eb, l⟩
   · rcases p with ⟨kvs', k', e', ey, lz, rfl⟩ | ⟨kvs', k', b', e', ey, _⟩
     · have ek : k = k' := by cases k <;> cases k' <;> first | (cases ey; rfl) | cases ey
       subst ek
       obtain ⟨z, hd, vs, rel, dd⟩ := wJ I.hok e'
       have ee : kvs = kvs' := by
         rcases e with e | ⟨o, e⟩
         · rw [e'] at e; cases e; rfl
         · rw [e'] at e; cases e
       subst ee
       have hn : valueAt vs k = none := bS.none_of (by rw [l]; exact rel.val k)
       refine call_meetsIn PySem.F.slot_dict_setdefault dd.typeIs PySem.F.entry_dict_setdefault (PySem.F.args_dict_setdefault_3 _ _ _) (kt_meets_setdefault (bI X.prog X.w) a (gR ry) hd ud)
         ⟨vs, dd, by rw [← rel.length]; exact z, (fun v' hv' => by rw [hn] at hv'; cases hv'), fun _ h' dd' hs => ?_⟩
       have he : ∃ q, h'.get? a = some q := let ⟨q, _, _, hq, _⟩ := dd'; ⟨q, hq⟩
       have hl : (bT kvs k r).length ≤ sizeLine := by have := dE kvs k r; omega
       exact ⟨r, _, iT I (by rw [e']; exact True.intro) hs he (rK hl hd (rel.put k rd) dd'), rd, q⟩
     · cases k <;> cases ey
   · rcases p with ⟨kvs', k', e', ey, _⟩ | ⟨kvs', k', b', e', ey, eb', lz, rfl⟩
     · cases k' <;> cases ey
     · cases ey
       have ek : k = k' := ge (HO.tup.inj (Option.some.inj (eb.symm.trans eb')))
       subst ek
       cases (show uy = Value.ref b from ry)
       obtain ⟨z, hd, xs, rel, dd⟩ := pQ I.hok e'
       have ee : kvs = kvs' := by
         rcases e with e | ⟨o, e⟩
         · rw [e'] at e; cases e; rfl
         · rw [e'] at e; cases e
       subst ee
       have hn : atKey xs k = none := by
         have := bS.none_of (o := (atKey xs k).map (·.2)) (by rw [l]; exact rel.val k)
         exact Option.map_eq_none_iff.mp this
       refine wpAny_call_entry PySem.F.slot_dict_setdefault dd.typeIs PySem.F.entry_dict_setdefault ?_ (PySem.F.args_dict_setdefault_3 _ _ _)
       unfold Builtin.«dict.setdefault»
       refine wpAny_bind ?_
       unfold Builtin.Dict.keyAndDefault
       refine wpAny_bind (wpAny_notOrdered_dict dd.typeIs ?_)
       show wpAny _ _ (pure (a, Value.ref b, some ud)) _ _ s
       refine wpAny_pure ?_
       show wpAny _ _ (if (a == sysModules) = true then _ else (dictSetDefault a (.ref b) ud >>= _)) _ _ s
       rw [if_neg (by rw [hd]; exact Bool.false_ne_true)]
       refine wpAny_bind (eD (tupleKind_room_in1 hu) (fz I.hok eb) dd (fun p' hp' => ?_) (fun _ h' dd' hs => ?_) (by rw [← Paired.length rel]; exact z))
       · rw [hn] at hp'; cases hp'
       · obtain ⟨q', es, ep, hq, h2, h3, h4, _, h5⟩ := dd'
         have hl : (bT kvs k r).length ≤ sizeLine := by have := dE kvs k r; omega
         refine wpAny_pure ⟨_, rfl, ⟨r, _, iT (ob := .dT (bT kvs k r)) I (by rw [e']; exact True.intro) hs ⟨q', hq⟩ ⟨hl, hd, _, (rel.put k eb rd).keeps fun c ys ec => ?_, q', es, ep, hq, h2, h3, h4, h5⟩, rd, q⟩⟩
         rw [ak (bE ec e' (fun z => nomatch z))]
         exact ec
def Its (z : Str) : It := ⟨fun i _ => i < z.length, fun i H x H' => H' = H ∧ ∃ c, z.cps[i]? = some c ∧ x = .str ⟨#[c]⟩, fun i _ => z.length ≤ i⟩
theorem uJ {P : Program} {w : World} {K : W.Frag} {tg : Expr} (z : Str) (t : Tok) (it : Addr) : ik P w K tg (Its z) [it] it (fun i h => h.IsStrIter it "str_ascii_iterator" z t i) where
 mem := by simp
 obj := fun i h st b hb => by
  have e : b = it := by simpa using hb
  subst e
  obtain ⟨o, e, c, d⟩ := st
  exact ⟨o, e, fun v z => by rw [d] at z; cases z⟩
 keep := fun i h h' st k => let ⟨o, ho, r⟩ := st; ⟨o, k it (by simp) o ho, r⟩
 item := by
  intro X hP hw hK hc i pins s σ H E I hf st hg
  subst hP hw hK
  obtain ⟨f0, f1, f2, f3, f4, f5⟩ := hf it (by simp)
  have hi : i < z.cps.size := hg
  refine wpAny_pyNext_ascii_item st (c := z.cps[i]) (Array.getElem?_eq_getElem hi) fun h' st' sb => ?_
  have I1 : Inv X pins σ H { s with heap := h', toks := s.toks + 1 } := I.turned (t' := s.toks + 1) (fun b o hb e => (sb.2 b hb).trans e) f0 f1 f3 f4 f5
  obtain ⟨o, e, c, d⟩ := id st'
  exact ⟨_, rfl, me (s := { s with heap := h', toks := s.toks + 1 }) e c d (by decide) ⟨.str ⟨#[z.cps[i]]⟩, H, I1, ⟨_, rfl⟩, ⟨rfl, _, Array.getElem?_eq_getElem hi, rfl⟩, st', fun b hb => (hf b hb).1⟩⟩
 done := by
  intro X hP hw hK hc i pins s σ H E I hf st hg
  subst hP hw hK
  obtain ⟨f0, f1, f2, f3, f4, f5⟩ := hf it (by simp)
  exact wpAny_pyNext_ascii_end (I.ok.hd hc) st (Array.getElem?_eq_none (show z.cps.size ≤ i from hg)) fun h' eb => ⟨rfl, I.turned (t' := s.toks) (fun b o hb e => eb b o hb e) f0 f1 f3 f4 f5⟩
 self := fun A i s Q E st h => by
  refine wpAny_pyIter_slot st.typeIs F.slot_str_ascii_iterator_iter (wpAny_call_entry F.slot_str_ascii_iterator_iter st.typeIs F.entry_str_ascii_iterator_iter ?_ (F.args_str_ascii_iterator_iter_1 _))
  show wpAny _ _ (ret (.ref it)) _ _ s
  exact wpAny_pure ⟨_, rfl, "str_ascii_iterator", _, st.typeIs, F.slot_str_ascii_iterator_next.lookup, h⟩
variable {a : Expr} {ta : TE} {tg : Expr}
def dG (K : W.Frag) (tl : TE) : TI := fun σ H R => tl σ H fun x H1 => match x with
 | .str z => z.cps.all (· < 128) = true ∧ R (Its z) H1
 | x => ∃ a, x = .ref a ∧ (((∃ xs, SqL K H1 a xs) ∧ R (Itl K a) H1) ∨ ((∃ xs, SqT K H1 a xs) ∧ R (Itt K a) H1))
theorem dD (h : QE X a ta) : QI X tg a (dG X.K ta) := ⟨fun pins s σ H R I hw => by
  refine thn (h.out pins s σ H _ I hw) fun v s1 ⟨x, H1, I1, r1, q1⟩ => ?_
  cases x with
  | str z =>
    obtain ⟨t, rfl⟩ := r1
    refine wpAny_pyIter_ascii q1.1 ?_
    refine ⟨s1.heap.objs.size, [s1.heap.objs.size], _, _, H1, rfl, I1.kept (t' := s1.toks) fun b o e => Heap.get?_push_of_some _ e, uJ z t _, ⟨_, Heap.get?_push_size _ rfl, rfl, rfl⟩, fun b hb => ?_, q1.2⟩
    have e : b = s1.heap.objs.size := by simpa using hb
    subst e
    exact I1.fpOk (Nat.le_refl _) (I1.hok.fresh (Nat.le_refl _))
  | ref c =>
    obtain ⟨a, e, q⟩ := q1
    cases e
    cases r1
    rcases q with ⟨⟨xs, hq⟩, q⟩ | ⟨⟨xs, hq⟩, q⟩
    · obtain ⟨its, rv, p, hz⟩ := I1.list hq
      refine wpAny_pyIter_list (df p) ?_
      refine ⟨s1.heap.objs.size, [s1.heap.objs.size], _, _, H1, rfl, I1.kept (t' := s1.toks) fun b o e => Heap.get?_push_of_some _ e, rS _ _, ⟨_, Heap.get?_push_size _ rfl, rfl, rfl⟩, fun b hb => ?_, q⟩
      have e : b = s1.heap.objs.size := by simpa using hb
      subst e
      exact I1.fpOk (Nat.le_refl _) (I1.hok.fresh (Nat.le_refl _))
    · obtain ⟨its, rv, p, hz⟩ := I1.tuple hq
      refine wpAny_pyIter_tuple (show s1.heap.IsTuple c its.toArray from p) ?_
      refine ⟨s1.heap.objs.size, [s1.heap.objs.size], _, _, H1, rfl, I1.kept (t' := s1.toks) fun b o e => Heap.get?_push_of_some _ e, qA _ _, ⟨_, Heap.get?_push_size _ rfl, rfl, rfl⟩, fun b hb => ?_, q⟩
      have e : b = s1.heap.objs.size := by simpa using hb
      subst e
      exact I1.fpOk (Nat.le_refl _) (I1.hok.fresh (Nat.le_refl _))
  | _ => obtain ⟨_, e, _⟩ := q1; cases e⟩
theorem xQ : OpR X (binaryOp .Mult) (fun x y H Q => ∃ z n, x = .str z ∧ y = .int n ∧ (-1000 ≤ n ∧ n ≤ 1000 ∧ z.length ≤ 1000) ∧ Q (.str (Txt.mul z n)) H) := by
 intro pins s σ H x y v u Q I rx ry h
 obtain ⟨z, n, rfl, rfl, ⟨h1, h2, h3⟩, q⟩ := h
 obtain ⟨t, rfl⟩ := rx
 obtain ⟨t', rfl⟩ := ry
 refine SB.mul ⟨?_, fun hn _ => ?_, fun hn _ => ?_⟩ fun t' k => ⟨.str _, H, I.tok k, ⟨_, rfl⟩, q⟩
 · rw [decide_eq_false (by omega), decide_eq_false (by omega)]; rfl
 · intro hgt
   have h5 : (1000 : Int) ≤ (2 ^ 63 - 1) / n := Int.le_ediv_of_mul_le (by omega) (by omega)
   omega
 · have h6 : z.length * n.toNat ≤ 1000 * 1000 := Nat.mul_le_mul h3 (by omega)
   exact decide_eq_false (by rw [sizeLine_eq]; omega)
end
end L2
namespace L2
open PySem PySem.Spec PyProof.Rows
theorem qM {α β : Type} (f : β → α → β) (b : β) (l : List α) (i : Nat) (x : α) (h : l[i]? = some x) : (l.take (i + 1)).foldl f b = f ((l.take i).foldl f b) x := by
 rw [List.take_succ, h]; simp
theorem dS {α β : Type} {f : α → β} {l : List α} {i : Nat} {x : β} (h : (l.map f)[i]? = some x) : ∃ a, l[i]? = some a ∧ x = f a := by
 rw [List.getElem?_map] at h
 cases e : l[i]? with
 | none => rw [e] at h; cases h
 | some a => rw [e] at h; cases h; exact ⟨a, rfl, rfl⟩
theorem du.keep {H H' : Hp} {f : Addr} {t : cQ} {cs : List Addr} {cvs : List V} (k : ∀ b φ, H b = some (.ext φ) → H' b = some (.ext φ)) (c : du H f t cs cvs) : du H' f t cs cvs := by
 obtain ⟨⟨a, h1, h2⟩, h3⟩ := c
 refine ⟨⟨a, k _ _ h1, k _ _ h2⟩, ?_⟩
 clear h1 h2
 induction h3 with
 | nil => exact .nil
 | cons r t ih => exact .cons (k _ _ r) ih
theorem lE (k : List Key) : (k.map kV).all ia = true := by
 rw [List.all_map, List.all_eq_true]
 intro x _
 cases x <;> rfl
def bA : Key → PyData
 | .inl i => .int i
 | .inr z => .str z
theorem gz {K : W.Frag} {H : Hp} : ∀ k : List Key, DatVs K H (k.map kV) (k.map bA)
 | [] => .nil
 | .inl i :: r => .cons (.int i) (gz r)
 | .inr z :: r => .cons (.str z) (gz r)
theorem cx {K : W.Frag} {H : Hp} {a : Addr} {k : List Key} (h : H a = some (.tup (k.map kV))) : dB K H (.ref a) (.tuple (k.map bA)) := .tup (SqT.of h) (gz k)
theorem eT : ∀ k l : List Key, PyData.eqvAll (k.map bA) (l.map bA) = decide (k = l)
  | [], [] => by rfl
  | [], _ :: _ => by rw [decide_eq_false (by simp)]; rfl
  | _ :: _, [] => by rw [decide_eq_false (by simp)]; rfl
  | a :: r, b :: s => by
    show ((bA a).eqv (bA b) && PyData.eqvAll (r.map bA) (s.map bA)) = _
    rw [eT r s]
    have e : (bA a).eqv (bA b) = decide (a = b) := by
      cases a <;> cases b
      · rename_i i j
        show decide (i = j) = decide (Sum.inl i = Sum.inl j)
        simp
      · show false = _; simp
      · show false = _; simp
      · rename_i i j
        show (i == j) = decide ((Sum.inr i : Key) = Sum.inr j)
        by_cases h : i = j <;> simp [h]
    rw [e]
    by_cases h1 : a = b <;> by_cases h2 : r = s <;> simp [h1, h2]
def gj : Key → Bool
 | .inl _ => true
 | .inr z => PyData.strOk z
theorem bi : ∀ {k : List Key}, k.all gj = true → PyData.canLayAll0 (k.map bA) = true
  | [], _ => rfl
  | .inl i :: r, h => bi (k := r) (by rw [List.all_cons] at h; exact h)
  | .inr z :: r, h => by
    rw [List.all_cons, Bool.and_eq_true] at h
    show (PyData.strOk z && PyData.canLayAll0 (r.map bA)) = true
    rw [show PyData.strOk z = true from h.1, bi h.2]; rfl
theorem ef : ∀ k : List Key, PyData.depthAll (k.map bA) = 0
 | [] => rfl
 | .inl i :: r => by show max 0 (PyData.depthAll (r.map bA)) = 0; rw [ef r]; rfl
 | .inr i :: r => by show max 0 (PyData.depthAll (r.map bA)) = 0; rw [ef r]; rfl
theorem tc1 {i : Nat} {σ : St} {x : V} {H : Hp} {R : List V → Hp → Prop} (e : σ[i]? = some (some x)) (h : R [x] H) : ad (ac i) af σ H R := by
 unfold ad af ac
 rw [e]; exact h
theorem nR (k : List Key) : (PyData.tuple (k.map bA)).depth ≤ 150 := by show PyData.depthAll (k.map bA) + 1 ≤ 150; rw [ef]; decide
theorem iz {k l : List Key} (h : (!(PyData.tuple (k.map bA)).eqv (.tuple (l.map bA))) = true) : k ≠ l := fun e => by
 have h : (!PyData.eqvAll (k.map bA) (l.map bA)) = true := h
 rw [eT, decide_eq_true e] at h; cases h
theorem yR {k l : List Key} (h : (!(PyData.tuple (k.map bA)).eqv (.tuple (l.map bA))) = false) : k = l := by
 have h : (!PyData.eqvAll (k.map bA) (l.map bA)) = false := h
 rw [eT] at h
 simpa using h
def ln (K : W.Frag) (ns : List Str) : Bool := decide ((ns.map fun n => (W.tabIn K n).map (·.2)).Nodup)
theorem tM {l : List Addr} (h : (l.map some).Nodup) : l.Nodup := List.Pairwise.of_map some (fun a b h e => h (congrArg some e)) h
end L2
namespace HT
open PySem PyProof.Rows
theorem fH : fillsNumberSlot (.type "tuple") "mul" = pure false :=
 PySem.fillsNumberSlot_seq (id := "tuple.__mul__") (r := some (.builtin "tuple.__rmul__")) F.slot_tuple_mul.lookup (by decide +kernel) F.slot_tuple_rmul.lookup (by decide +kernel)
theorem ie : seqRepeat? (.type "tuple") = pure (some (.builtin "tuple.__mul__")) := by
 unfold seqRepeat?
 rw [PySem.seqSlot_of (T := "tuple") (name := "__mul__") (id := "tuple.__mul__") F.slot_tuple_mul.lookup (by decide +kernel), PySem.seqSlot_of (T := "tuple") (name := "__rmul__") (id := "tuple.__rmul__") F.slot_tuple_rmul.lookup (by decide +kernel)]
 rfl
theorem gq (a : Int) (t : Tok) (l : Addr) (items : Array Value) (n : Nat) (dd : Option Addr) (sl : Array (Option Value)) :
  Meets (Builtin.«int.__rmul__» ⟨[.int a t, .ref l], []⟩) (fun _ R s => s.heap.get? l = some { cls := .type "tuple", dict := dd, data := .seq items n, slots := sl } ∧ R (.ok (.ret Value.notImplemented)) s) :=
 .of_wp fun prog w A R s h => by obtain ⟨hp, g, d, tk, os⟩ := s; obtain ⟨hl, h⟩ := h; wp_walk; exact ⟨_, rfl, h⟩
theorem qT (l : Addr) (items : Array Value) (n : Nat) (x : Int) (u : Tok) (dd : Option Addr) (sl : Array (Option Value)) (h0 : (decide (x < -(2 ^ 63)) || decide (x ≥ 2 ^ 63)) = false) (h1 : (items.isEmpty || x == 1) = true) :
  Meets (Builtin.«tuple.__mul__» ⟨[.ref l, .int x u], []⟩) (fun _ R s => s.heap.get? l = some { cls := .type "tuple", dict := dd, data := .seq items n, slots := sl } ∧ R (.ok (.ret (.ref l))) s) :=
 .of_wp fun prog w A R s h => by obtain ⟨hp, g, d, tk, os⟩ := s; obtain ⟨hl, h⟩ := h; have f1 := AutoSeq1.idx_int; have f2 := AutoSeq1.sub_tuple_tuple; wp_walk using wpAny_loadPart' hl; refine wpAny_ite_false (decide_eq_false (by rw [h0]; decide)) ?_; wp_walk using wpAny_loadPart' hl; exact ⟨_, rfl, h⟩
theorem ql (l : Addr) (items : Array Value) (n : Nat) (x : Int) (u : Tok) (dd : Option Addr) (sl : Array (Option Value)) (h0 : (decide (x < -(2 ^ 63)) || decide (x ≥ 2 ^ 63)) = false) (h1 : (items.isEmpty || x == 1) = false)
  (h2 : (decide (x ≤ 0) || items.isEmpty) = false) (h3 : ¬ ((items.size : Int) * x > (2 ^ 63 - 1) / 8)) (h4 : ¬ Builtin.Tuple.tupleTooMany (items.size * x) = true) (h5 : (List.foldl (fun x1 x2 => x1 ++ x2) #[] (List.replicate x.toNat items)).size ≤ sizeLine) :
  Meets (Builtin.«tuple.__mul__» ⟨[.ref l, .int x u], []⟩) (fun _ R s => s.heap.get? l = some { cls := .type "tuple", dict := dd, data := .seq items n, slots := sl } ∧ R (.ok (.ret (Value.ref s.heap.objs.size))) { s with heap := s.heap.push { cls := Value.type "tuple", data := Data.seq (List.foldl (fun x1 x2 => x1 ++ x2) #[] (List.replicate x.toNat items)) }, toks := s.toks }) :=
 .of_wp fun prog w A R s h => by obtain ⟨hp, g, d, tk, os⟩ := s; obtain ⟨hl, h⟩ := h; have f1 := AutoSeq1.idx_int; have f2 := AutoSeq1.sub_tuple_tuple; wp_walk using wpAny_loadPart' hl; refine wpAny_ite_false (decide_eq_false (by rw [h0]; decide)) ?_; wp_walk using wpAny_loadPart' hl; refine wpAny_ite_false (decide_eq_false h3) ?_; wp_walk using wpAny_loadPart' hl; exact ⟨_, rfl, h⟩
end HT
namespace L2
open PySem PySem.Spec PyProof.Rows
section
variable {X : Cx}
def wk : R2 := fun x y H Q => ∃ a k xs, x = .ref a ∧ y = .int k ∧ H a = some (.tup xs) ∧ xs ≠ [] ∧ 1 ≤ k ∧ k ≤ 1000 ∧ xs.length ≤ 1000 ∧ ∀ p H', ao H H' → H' p = some (.tup (List.replicate k.toNat xs).flatten) → Q (.ref p) H'
theorem xR : OpR X (binaryOp .Mult) wk := by
 intro pins s σ H x y v u Q I rx ry h
 obtain ⟨a, k, xs, rfl, rfl, ha, hne, k1, k2, hl, q⟩ := h
 cases rx
 obtain ⟨t, rfl⟩ := ry
 obtain ⟨its, r, p1, hz⟩ := I.tuple (.inl (.inl ha))
 have hlen : its.length = xs.length := r.length.symm
 have hits : its ≠ [] := fun z => hne (r.nil_iff.mp z)
 obtain ⟨⟨cls, dd, data, sl⟩, ho, hc, n, hd⟩ := id p1
 simp only at hc hd
 subst hc hd
 have h0 : (decide (k < -(2 ^ 63)) || decide (k ≥ 2 ^ 63)) = false := by rw [decide_eq_false (by omega), decide_eq_false (by omega)]; rfl
 have hemp : its.toArray.isEmpty = false := by cases its with | nil => exact (hits rfl).elim | cons _ _ => rfl
 by_cases e : k = 1
 · subst e
   refine PySem.wpAny_binaryOp_repeat_ref (T := "tuple") (U := "int") (by decide) ⟨_, ho, rfl⟩ (fun s' => typeIs_int s' 1 t) HT.fH F.fills_int_mul F.slot_int_rmul HT.ie F.slot_int_index.lookup
     (call_meets F.slot_int_rmul (typeIs_int s 1 t) F.entry_int_rmul (F.args_int_rmul_2 _ _) (HT.gq 1 t a its.toArray n dd sl)
      ⟨ho, rfl, ⟨_, ho, rfl⟩, call_meets F.slot_tuple_mul ⟨_, ho, rfl⟩ F.entry_tuple_mul (F.args_tuple_mul_2 _ _) (HT.qT a its.toArray n 1 t dd sl h0 (by rw [hemp]; rfl)) ⟨ho, ?_⟩⟩)
   exact ⟨.ref a, H, I, rfl, q a H ao.rfl' (by rw [ha]; simp)⟩
 · have hsz : its.length * k.toNat ≤ 1000000 := Nat.le_trans (Nat.mul_le_mul (by omega : its.length ≤ 1000) (by omega : k.toNat ≤ 1000)) (by decide)
   have hszI : ((its.toArray.size : Nat) : Int) * k ≤ 1000000 := by
     have e1 : ((its.length * k.toNat : Nat) : Int) = (its.length : Int) * k := by rw [Int.natCast_mul, Int.toNat_of_nonneg (by omega)]
     rw [List.size_toArray, ← e1]; omega
   have hnew : List.foldl (fun x1 x2 => x1 ++ x2) #[] (List.replicate k.toNat its.toArray) = (List.replicate k.toNat its).flatten.toArray := by
     have := lq its k.toNat []
     rw [List.nil_append] at this
     exact this
   refine PySem.wpAny_binaryOp_repeat_ref (T := "tuple") (U := "int") (by decide) ⟨_, ho, rfl⟩ (fun s' => typeIs_int s' k t) HT.fH F.fills_int_mul F.slot_int_rmul HT.ie F.slot_int_index.lookup
     (call_meets F.slot_int_rmul (typeIs_int s k t) F.entry_int_rmul (F.args_int_rmul_2 _ _) (HT.gq k t a its.toArray n dd sl)
      ⟨ho, rfl, ⟨_, ho, rfl⟩, call_meets F.slot_tuple_mul ⟨_, ho, rfl⟩ F.entry_tuple_mul (F.args_tuple_mul_2 _ _) (HT.ql a its.toArray n k t dd sl h0 (by rw [hemp]; simp [e]) (by rw [hemp, decide_eq_false (by omega)]; rfl) (by omega) ?_ ?_) ⟨ho, ?_⟩⟩)
   · unfold Builtin.Tuple.tupleTooMany
     rw [sizeLine_eq]
     simp only [gt_iff_lt, decide_eq_true_eq]
     omega
   · rw [hnew, List.size_toArray, pE, Nat.mul_comm]
     exact ax hsz
   · rw [hnew]
     refine ⟨.ref s.heap.objs.size, _, I.laid (t' := s.toks) (o := .tup (List.replicate k.toNat xs).flatten) (fun b ob q => Heap.get?_push_of_some _ q) (Nat.le_refl _) ?_, rfl, q _ _ (ao.upd (I.hok.fresh (Nat.le_refl _))) ag⟩
     exact ⟨by rw [pE, ← hlen, Nat.mul_comm]; exact ax hsz, _, r.rep k.toNat, IsTup.new _ _⟩
def eS : R2 := fun x y H Q => match x, y with
 | .str z, .int n => (-1000 ≤ n ∧ n ≤ 1000 ∧ z.length ≤ 1000) ∧ Q (.str (Txt.mul z n)) H
 | .ref a, .int n => wk (.ref a) (.int n) H Q
 | x, y => vy x y H Q
theorem iR : OpR X (binaryOp .Mult) eS := (xQ.or (xR.or En)).imp fun x y H Q q => by
 unfold eS at q
 split at q
 · exact .inl ⟨_, _, rfl, rfl, q.1, q.2⟩
 · exact .inr (.inl q)
 · exact .inr (.inr q)
end
end L2
namespace L2
open PySem PySem.Spec PyProof.Rows
end L2
namespace L2
open PySem PySem.Spec PyProof.Rows
section
variable {X : Cx}
theorem yH : OpR X (compareOp .Is) (fun x y H Q => ∃ b c, x = .bl b ∧ y = .bl c ∧ Q (.bl (decide (b = c))) H) := by
 intro pins s σ H x y v u Q I rx ry h
 obtain ⟨b, c, rfl, rfl, q⟩ := h
 cases rx
 cases ry
 refine wpAny_is_plain (by rfl) (aW I q ?_)
 cases b <;> cases c <;> rfl
theorem rR : OpR X (compareOp .IsNot) (fun x y H Q => ∃ b c, x = .bl b ∧ y = .bl c ∧ Q (.bl (!decide (b = c))) H) := by
 intro pins s σ H x y v u Q I rx ry h
 obtain ⟨b, c, rfl, rfl, q⟩ := h
 cases rx
 cases ry
 refine wpAny_isNot_plain (by rfl) (aW I q ?_)
 cases b <;> cases c <;> rfl
def uF : R2 := fun x y H Q => match x, y with
 | .bl b, .bl c => Q (.bl (decide (b = c))) H
 | x, y => tX x y H Q
theorem DZ : OpR X (compareOp .Is) uF := (yH.or oIs).imp fun x y H Q q => by
 unfold uF at q
 split at q
 · exact .inl ⟨_, _, rfl, rfl, q⟩
 · exact .inr q
def mB : R2 := fun x y H Q => match x, y with
 | .bl b, .bl c => Q (.bl (!decide (b = c))) H
 | x, y => qb x y H Q
theorem wT : OpR X (compareOp .IsNot) mB := (rR.or yM).imp fun x y H Q q => by
 unfold mB at q
 split at q
 · exact .inl ⟨_, _, rfl, rfl, q⟩
 · exact .inr q
end
end L2
namespace HT
open PySem PyProof.Rows
theorem sub_tuple_dict : isSubtype (.type "tuple") (.type "dict") = pure false := by rw [isSubtype_type]; kernel_rfl
theorem kB : isSubtype (.type "dict") (.type "tuple") = pure false := by rw [isSubtype_type]; kernel_rfl
theorem qE (l b : Addr) (o : Obj) (hc : o.cls = .type "dict") (o2 : Obj) (hc2 : o2.cls = .type "tuple") :
  Meets (Builtin.«dict.__eq__» ⟨[.ref l, .ref b], []⟩) (fun _ R s => s.heap.get? l = some o ∧ s.heap.get? b = some o2 ∧ R (.ok (.ret .notImplemented)) s) :=
 .of_wp fun prog w A R s h => by
  obtain ⟨hp, g, d, tk, os⟩ := s; obtain ⟨hl, hb, h⟩ := h; obtain ⟨cls, dd, data, sl⟩ := o; obtain ⟨cls2, dd2, data2, sl2⟩ := o2
  simp only at hc hc2; subst hc hc2
  have f1 := sub_tuple_dict; wp_walk using wpAny_loadPart' hl, wpAny_loadPart' hb; exact ⟨_, rfl, h⟩
theorem oy (l b : Addr) (o : Obj) (hc : o.cls = .type "tuple") (o2 : Obj) (hc2 : o2.cls = .type "dict") :
  Meets (Builtin.«tuple.__eq__» ⟨[.ref l, .ref b], []⟩) (fun _ R s => s.heap.get? l = some o ∧ s.heap.get? b = some o2 ∧ R (.ok (.ret .notImplemented)) s) :=
 .of_wp fun prog w A R s h => by
  obtain ⟨hp, g, d, tk, os⟩ := s; obtain ⟨hl, hb, h⟩ := h; obtain ⟨cls, dd, data, sl⟩ := o; obtain ⟨cls2, dd2, data2, sl2⟩ := o2
  simp only at hc hc2; subst hc hc2
  have f1 := kB; wp_walk using wpAny_loadPart' hl, wpAny_loadPart' hb; exact ⟨_, rfl, h⟩
end HT
namespace L2
open PySem PySem.Spec PyProof.Rows
section
variable {X : Cx}
def wa (K : W.Frag) : R2 := fun x y H Q => ∃ a b ys, x = .ref a ∧ y = .ref b ∧ ((∃ kvs, H a = some (.dK kvs)) ∨ ∃ kvs, H a = some (.dT kvs)) ∧ SqT K H b ys ∧ Q (.bl false) H
theorem xf (hu : X.A.units < cLine) : OpR X (compareOp .Eq) (wa X.K) := by
 intro pins s σ H x y v u Q I rx ry h
 obtain ⟨a, b, ys, rfl, rfl, ha, hb, q⟩ := h
 cases rx
 cases ry
 obtain ⟨its, _, p1, _⟩ := I.tuple hb
 obtain ⟨o2, ho2, hc2, _⟩ := id p1
 obtain ⟨o, ho, hc⟩ : ∃ o, s.heap.get? a = some o ∧ o.cls = .type "dict" := by
  rcases ha with ⟨kvs, e⟩ | ⟨kvs, e⟩
  · obtain ⟨_, _, _, _, o, _, _, h1, h2, _⟩ := (show aR X.prog X.w H s.heap a (.dK kvs) from I.hok a _ e)
    exact ⟨o, h1, h2.1⟩
  · obtain ⟨_, _, _, _, o, _, _, h1, h2, _⟩ := (show aR X.prog X.w H s.heap a (.dT kvs) from I.hok a _ e)
    exact ⟨o, h1, h2.1⟩
 have hne : a ≠ b := fun e => by
  subst e
  rw [ho] at ho2; cases ho2
  rw [hc] at hc2; exact absurd hc2 (by simp)
 show wpAny _ _ (richCompare .Eq (.ref a) (.ref b)) _ _ s
 exact SeqAt.rc_eq_decline_or (k := false) ⟨_, ho, hc⟩ ⟨_, ho2, hc2⟩ (by decide) F.sub_tuple_dict F.slot_dict_eq F.slot_tuple_eq_refl
  (fun _ hq => call_meets F.slot_dict_eq ⟨_, ho, hc⟩ F.entry_dict_eq (F.args_dict_eq_2 _ _) (HT.qE a b o hc o2 hc2) ⟨ho, ho2, hq⟩)
  (fun _ hq => call_meets F.slot_tuple_eq_refl ⟨_, ho2, hc2⟩ F.entry_tuple_eq (F.args_tuple_eq_2 _ _) (HT.oy b a o2 hc2 o hc) ⟨ho2, ho, hq⟩)
  (fun _ hq => wpAny_isSame_ref_other hne ho ho2 (by rw [hc]; simp) hq) (.inr hu) ⟨.bl false, H, I, rfl, q⟩
def bh (K : W.Frag) : R2 := fun x y H Q => match x, y with
 | .ref a, .ref b => AT K (.ref a) (.ref b) H Q ∨ qe K (.ref a) (.ref b) H Q ∨ wa K (.ref a) (.ref b) H Q
 | .ref a, y => qe K (.ref a) y H Q
 | x, .ref b => qe K x (.ref b) H Q
 | x, y => mEq x y H Q
theorem bH (hu : X.A.units + 150 < cLine) : OpR X (compareOp .Eq) (bh X.K) := ((zW (by omega)).or ((zA hu).or ((xf (by omega)).or oEq))).imp fun x y H Q q => by
 unfold bh at q
 split at q
 · exact q.elim .inl fun z => z.elim (fun z => .inr (.inl z)) fun z => .inr (.inr (.inl z))
 · exact .inr (.inl q)
 · exact .inr (.inl q)
 · exact .inr (.inr (.inr q))
end
end L2
namespace HT
open PySem PyProof.Rows
theorem jj : typeLookup (.type "tuple") "__reversed__" = pure none := by rw [typeLookup_type, builtinLookup_eq_fast]; kernel_rfl
theorem iq : Manifest.owners.lookup (String.ofList ['d', 'e', 's', 'r', 'e', 'v', 'e', 'r'].reverse) = some Manifest.sig_reversed := by kernel_rfl
theorem dj : Slot "reversed" "__next__" "reversed.__next__" :=
 .of (owner := "reversed") (n := "__next__") (by rw [typeLookup_type, builtinLookup_eq_fast]; kernel_rfl) (by decide +kernel) (by decide +kernel) (by decide +kernel)
  (by first | exact .inl (by decide +kernel) | exact .inr (by decide +kernel)) (by rw [isSubtype_type]; kernel_rfl)
theorem fZ : entryFor table "reversed.__next__" = some Builtin.«reversed.__next__» := entryFor_of_tree (by kernel_rfl)
theorem gY (a : Value) : argsOk "reversed.__next__" ⟨[a], []⟩ := by
 unfold argsOk; rw [signature?_of (id := "reversed.__next__") (n := ['_', '_', 't', 'x', 'e', 'n', '_', '_']) (o := ['d', 'e', 's', 'r', 'e', 'v', 'e', 'r']) (by kernel_rfl) iq]; kernel_rfl
theorem gX : Slot "reversed" "__iter__" "reversed.__iter__" :=
 .of (owner := "reversed") (n := "__iter__") (by rw [typeLookup_type, builtinLookup_eq_fast]; kernel_rfl) (by decide +kernel) (by decide +kernel) (by decide +kernel)
  (by first | exact .inl (by decide +kernel) | exact .inr (by decide +kernel)) (by rw [isSubtype_type]; kernel_rfl)
theorem lN (a : Value) : argsOk "reversed.__iter__" ⟨[a], []⟩ := by
 unfold argsOk; rw [signature?_of (id := "reversed.__iter__") (n := ['_', '_', 'r', 'e', 't', 'i', '_', '_']) (o := ['d', 'e', 's', 'r', 'e', 'v', 'e', 'r']) (by kernel_rfl) iq]; kernel_rfl
theorem kF : entryFor table "reversed.__iter__" = some Builtin.«dict_keyiterator.__iter__» :=
 entryFor_alias (id' := "dict_keyiterator.__iter__") (by kernel_rfl) (by first | rfl | decide +kernel | (unfold String.splitOn; simp +decide [String.splitOnAux])) (by decide +kernel) (by kernel_rfl)
theorem lO : Slot "reversed" "__init__" "object.__init__" :=
 .of (owner := "object") (n := "__init__") (by rw [typeLookup_type, builtinLookup_eq_fast]; kernel_rfl) (by decide +kernel) (by decide +kernel) (by decide +kernel)
  (by first | exact .inl (by decide +kernel) | exact .inr (by decide +kernel)) (by rw [isSubtype_type]; kernel_rfl)
theorem qw : TypeCalled "reversed" "reversed.__new__" "object.__init__" :=
 ⟨by decide +kernel, PySem.F.create_reversed, ⟨_, _, PySem.F.mro_reversed⟩, PySem.F.made_reversed, by decide +kernel, PySem.F.sub_reversed_self, lO⟩
theorem ni : isSubtype (.type "tuple") (.type "dict") = pure false := by rw [isSubtype_type]; kernel_rfl
def nW (t : Addr) (i : Int) : Obj := { cls := .type "reversed", data := .fields #[.ref t, rawInt i] }
theorem lQ (t : Addr) (items : Array Value) : Meets (Builtin.«reversed.__new__» ⟨[.type "reversed", .ref t], []⟩) (fun _ R s => IsTup s.heap t items ∧ (items.size : Int) < 2 ^ 63 ∧
  R (.ok (.ret (.ref s.heap.objs.size))) { s with heap := s.heap.push (nW t ((items.size : Int) - 1)), toks := s.toks + 1 + 1 }) :=
 .of_wp fun prog w A R s h => by
  obtain ⟨ht, hz, h⟩ := h
  unfold Builtin.«reversed.__new__»
  refine wpAny_bind (wpAny_of_eq (newClass_reversed _) ?_)
  try dsimp only
  refine wpAny_bind (wpAny_of_eq (a := ()) (by first | rfl | kernel_rfl) ?_)
  refine wpAny_bind (wpAny_of_eq (a := ()) (by first | rfl | kernel_rfl) ?_)
  try dsimp only
  refine wpAny_bind (wpAny_specialOf ht.typeIs jj ?_)
  try dsimp only
  refine wpAny_bind (wpAny_bind (wpAny_isInstance (T := "tuple") (b := false) ht.typeIs ni ?_))
  rw [if_neg (by simp)]
  refine wpAny_bind (wpAny_specialOf (r := some (.builtin "tuple.__getitem__")) ht.typeIs slot_tuple_getitem.lookup ?_)
  show wpAny _ _ (if (["tuple.__getitem__", "str.__getitem__", "bytes.__getitem__", "bytearray.__getitem__", "memoryview.__getitem__", "numpy.ndarray.__getitem__", "sqlite3.Row.__getitem__"].contains "tuple.__getitem__") = true then _ else _) _ _ s
  rw [if_pos (by decide)]
  refine wpAny_pure ?_
  rw [if_neg (by simp)]
  refine wpAny_bind (len_tuple ht hz ?_)
  refine wpAny_bind (wpAny_of_eq (a := some ((items.size : Nat) : Int)) rfl ?_)
  show wpAny _ _ (newObj (.type "reversed") (.fields #[.ref t, rawInt ((items.size : Int) - 1)]) >>= _) _ _ _
  exact wpAny_bind (wpAny_newObj_type (wpAny_pure ⟨_, rfl, h⟩))
section
variable {prog : Program} {w : World} {A : Around} {E : Value → Shared → Prop} {s : Shared}
theorem gZ {t : Addr} {items : Array Value} {Q : Value → Shared → Prop} (ht : IsTup s.heap t items) (hz : (items.size : Int) < 2 ^ 63)
  (h : Q (.ref s.heap.objs.size) { s with heap := s.heap.push (nW t ((items.size : Int) - 1)), toks := s.toks + 1 + 1 }) : wpAny (model prog w) A (call (.type "reversed") [.ref t]) Q E s :=
 callType_new qw (by decide) (PySem.F.typeCall_reversed_1 _) (PySem.F.newCall_reversed_1 _) (fun obj => PySem.F.args_object_init_2 obj _) PySem.F.entry_reversed_new (lQ t items) ⟨ht, hz, ⟨_, Heap.get?_push_size _ rfl, rfl⟩, h⟩
def fo (h : Heap) (a t : Addr) (i : Int) : Prop := h.get? a = some (nW t i)
theorem fo.typeIs {a t : Addr} {i : Int} (x : fo s.heap a t i) : s.TypeIs (.ref a) "reversed" := ⟨_, x, rfl⟩
theorem lT {it t : Addr} {i : Nat} {items : Array Value} {x : Value} {Q : Option Value → Shared → Prop} (hit : fo s.heap it t (i : Int)) (ht : IsTup s.heap t items) (hz : (items.size : Int) < 2 ^ 63) (hx : items[i]? = some x)
   (hQ : ∀ h', fo h' it t ((i : Int) - 1) → Heap.SameBut it s.heap h' → Q (some x) { s with heap := h', toks := s.toks + 1 }) : wpAny (model prog w) A (pyNext (.ref it)) Q E s := by
 have hi : i < items.size := by
   rcases Nat.lt_or_ge i items.size with h | h
   · exact h
   · rw [Array.getElem?_eq_none h] at hx; cases hx
 unfold pyNext
 refine wpAny_bind (wpAny_attempt (wpAny_callSpecial?_slot (name := Str.ofString "__next__") hit.typeIs dj
   (wpAny_call_entry dj hit.typeIs fZ ?_ (gY _))))
 unfold Builtin.«reversed.__next__»
 refine wpAny_bind (wpAny_of_eq (a := (Value.ref it, [])) rfl ?_)
 try dsimp only
 refine wpAny_bind (wpAny_field hit rfl (x := .ref t) rfl ?_)
 refine wpAny_bind (wpAny_field hit rfl (x := rawInt (i : Int)) rfl ?_)
 show wpAny _ _ (if (i : Int) < 0 then _ else _) _ _ s
 rw [if_neg (by omega)]
 refine wpAny_bind (wpAny_specialOf (r := some (.builtin "tuple.__getitem__")) ht.typeIs slot_tuple_getitem.lookup ?_)
 rw [if_neg (by simp)]
 refine wpAny_bind (wpAny_mkInt ?_)
 refine wpAny_bind (wpAny_attempt (getItem_tuple (j := i) (x := x) ht (by omega) (by omega) ?_ hx ?_))
 · unfold seqIndex?
   simp
   omega
 · refine wpAny_bind (wpAny_field (s := { s with toks := s.toks + 1 }) hit rfl (x := rawInt (i : Int)) rfl ?_)
   refine wpAny_bind (wpAny_setField_rec hit (by simp) fun h' y sb => ?_)
   exact wpAny_pure ⟨x, rfl, wpAny_pure (hQ h' y sb)⟩
theorem mT {it t : Addr} {Q : Option Value → Shared → Prop} (hh : A.handled = none) (hit : fo s.heap it t (-1))
  (hQ : ∀ h', Heap.ExtBut it s.heap h' → Q none { s with heap := h' }) : wpAny (model prog w) A (pyNext (.ref it)) Q E s := by
 unfold pyNext
 refine wpAny_bind (wpAny_attempt (wpAny_callSpecial?_slot (name := Str.ofString "__next__") hit.typeIs dj
  (wpAny_call_entry dj hit.typeIs fZ ?_ (gY _))))
 unfold Builtin.«reversed.__next__»
 refine wpAny_bind (wpAny_of_eq (a := (Value.ref it, [])) rfl ?_)
 try dsimp only
 refine wpAny_bind (wpAny_field hit rfl (x := .ref t) rfl ?_)
 refine wpAny_bind (wpAny_field hit rfl (x := rawInt (-1)) rfl ?_)
 show wpAny _ _ (if (-1 : Int) < 0 then _ else _) _ _ s
 rw [if_pos (by decide)]
 refine wpAny_bind (wpAny_rule ?_)
 refine wpAny_bind (wpAny_bind (wpAny_setField_rec hit (by simp) fun h1 y1 s1 => ?_))
 refine wpAny_setField_rec y1 (by simp) fun h2 y2 s2 => ?_
 first
 | show wpAny _ _ (newExc (.type "StopIteration") [] >>= _) _ _ _
 | (refine wpAny_bind ?_; show wpAny _ _ (newExc (.type "StopIteration") [] >>= _) _ _ _)
 refine wpAny_bind ?_
 simp only [newExc, newTuple]
 refine wpAny_bind (wpAny_newObj_type ?_ (by size_fits))
 refine wpAny_bind (m := firstArgMember _ _) (wpAny_of_eq (a := Value.none) (by first | rfl | (simp only [firstArgMember]; rfl)) ?_)
 refine wpAny_newObj_type ?_ (by size_fits)
 simp only [raiseNew]
 refine wpAny_bind (wpAny_handled ?_)
 first | rw [show A.in1.handled = none from hh] | rw [hh]
 refine wpAny_bind (wpAny_pure (wpAny_throw ?_))
 refine wpAny_bind (wpAny_isInstance (T := "StopIteration") (b := true) ⟨_, Heap.get?_push_size _ rfl, rfl⟩ isSubtype_stop ?_)
 have eb : Heap.ExtBut it s.heap h2 := fun c o hc e => s2.extBut _ _ hc (s1.extBut _ _ hc e)
 exact wpAny_pure (hQ _ ((eb.push _).push _))
theorem tE {it t : Addr} {i : Int} {Q : Value → Shared → Prop} (hit : fo s.heap it t i) (h : Q (.ref it) s) : wpAny (model prog w) A (pyIter (.ref it)) Q E s := by
 refine wpAny_pyIter_slot hit.typeIs gX (wpAny_call_entry gX hit.typeIs kF ?_ (lN _))
 show wpAny _ _ (ret (.ref it)) _ _ s
 exact wpAny_pure ⟨_, rfl, "reversed", _, hit.typeIs, dj.lookup, h⟩
end
end HT
namespace L2
open PySem PySem.Spec PyProof.Rows
theorem je : bootBuiltins "reversed" = some (.type "reversed") := by decide +kernel
section
variable {X : Cx} {a : Expr} {t : TA} {p pos : Pos} {tg : Expr}
theorem vw : OpR X (binaryOp .FloorDiv) (rI (fun _ j => 0 < j ∧ j < 1267650600228229401496703205376) fun i j => .int (i / j)) := opI fun i j _ _ _ _ _ hc q => by
 have h1 : (0 : Int) < j := hc.1
 have h2 : j < 1267650600228229401496703205376 := hc.2
 have h3 : j.natAbs.log2 < 100 := (Nat.log2_lt (by omega)).mpr (Nat.lt_of_lt_of_eq (m := 1267650600228229401496703205376) (by omega) (by decide))
 exact floordiv_int (by omega) (by rw [Int.fdiv_eq_ediv_of_nonneg i (by omega)]; exact q) (.inl (PyProof.noPylong_of_log2 (by omega)))
def bK : R2 := fun x y H Q => match x, y with | .int i, .int j => (0 < j ∧ j < 1267650600228229401496703205376) ∧ Q (.int (i / j)) H | _, _ => False
theorem cK : OpR X (binaryOp .FloorDiv) bK := vw.imp fun x y H Q q => by
 unfold bK at q
 split at q
 · exact ⟨_, _, rfl, rfl, q.1, q.2⟩
 · exact q.elim
end
end L2
namespace L2
open PySem PySem.Spec PyProof.Rows
section
variable {X : Cx}
end
section
variable {α : Type} {l : List α}
theorem qP (h : l.length = 0) : l = [] := List.length_eq_zero_iff.mp h
theorem dH (h : l.length = 1) : ∃ a0, l = [a0] := by
  cases l with
  | nil => simp at h
  | cons a l =>
    obtain rfl := qP (l := l) (by simpa using h)
    exact ⟨a, rfl⟩
theorem wl (h : l.length = 2) : ∃ a0 a1, l = [a0, a1] := by
  cases l with
  | nil => simp at h
  | cons a l =>
    obtain ⟨b0, rfl⟩ := dH (l := l) (by simpa using h)
    exact ⟨a, b0, rfl⟩
theorem qf (h : l.length = 3) : ∃ a0 a1 a2, l = [a0, a1, a2] := by
  cases l with
  | nil => simp at h
  | cons a l =>
    obtain ⟨b0, b1, rfl⟩ := wl (l := l) (by simpa using h)
    exact ⟨a, b0, b1, rfl⟩
theorem wL (h : l.length = 4) : ∃ a0 a1 a2 a3, l = [a0, a1, a2, a3] := by
  cases l with
  | nil => simp at h
  | cons a l =>
    obtain ⟨b0, b1, b2, rfl⟩ := qf (l := l) (by simpa using h)
    exact ⟨a, b0, b1, b2, rfl⟩
theorem wu (h : l.length = 5) : ∃ a0 a1 a2 a3 a4, l = [a0, a1, a2, a3, a4] := by
  cases l with
  | nil => simp at h
  | cons a l =>
    obtain ⟨b0, b1, b2, b3, rfl⟩ := wL (l := l) (by simpa using h)
    exact ⟨a, b0, b1, b2, b3, rfl⟩
theorem Cv (h : l.length = 6) : ∃ a0 a1 a2 a3 a4 a5, l = [a0, a1, a2, a3, a4, a5] := by
  cases l with
  | nil => simp at h
  | cons a l =>
    obtain ⟨b0, b1, b2, b3, b4, rfl⟩ := wu (l := l) (by simpa using h)
    exact ⟨a, b0, b1, b2, b3, b4, rfl⟩
end
end L2
namespace L2
open PySem PySem.Spec PyProof.Rows
section
variable {X : Cx}
def wt : V → List V → Hp → VK → Prop := fun x vs H Q => ∃ a y d o, x = .ref a ∧ vs = [y, d] ∧ cO H a y o ∧ Q (o.getD d) H
theorem xW (hu : X.A.units + 1 < cLine) : MtR X "dict.get" wt := by
 intro pins s σ H x vs v us Q I rx rv h
 obtain ⟨a, y, d, o, rfl, rfl, g, q⟩ := h
 obtain rfl : v = Value.ref a := rx
 obtain ⟨uy, ud, rfl, ry, rd⟩ := rv.two
 exact ye hu I g ry rd fun w' s' I' r' => ⟨_, H, I', r', q⟩
end
end L2
namespace L2
open PySem PySem.Spec PyProof.Rows
end L2
namespace L2
open PySem PySem.Spec PyProof.Rows
section
variable {X : Cx} {pos ep px py pz : Pos} {ek : Nat} {x y z : Str} {iter : Expr} {wi : TI} {tS : TS}
end
end L2
namespace L2
open PySem PySem.Spec PyProof.Rows
theorem bc.le {A : Around} {m n : Nat} (h : bc m A) (d : n ≤ m := by first | decide | omega) : bc n A := h.mono d
theorem scF {N P : List Str} {sc : Scope} (h1 : sc.kind = .function := by rfl) (h2 : sc.isCoroutine = false := by rfl) (h3 : sc.isGenerator = false := by rfl) (h4 : N.Nodup := by decide +kernel) (h5 : N.take P.length = P := by rfl)
 (h6 : ∀ x ∈ P, sc.names.lookup x = some .local ∨ sc.names.lookup x = some .cell := by decide +kernel) (h7 : ∀ y ∈ sc.names, y.2 ≠ .free := by decide +kernel) : aF N P sc := ⟨h1, h2, h3, h4, h5, h6, h7⟩
structure Fm (K : W.Frag) (mg : Str → Option Value) (x qual : Str) (st : Stmt) (a : Addr) (d : FuncData) (ps : List Str) : Prop where
 f : Fun K x qual st a d
 m : mg x = some (.ref a)
 b : bY K d ps []
structure Fa (K : W.Frag) (x qual : Str) (st : Stmt) (a : Addr) (d : FuncData) : Prop where
 m : W.nsIn K mainGlobals x = some (some (.ref a))
 f : Fun K x qual st a d
section
variable {P : Program} {w : World} {K : W.Frag} {mg : Str → Option Value} {base h : Heap} {x qual : Str} {st : Stmt} {a : Addr} {d : FuncData} {ps : List Str}
theorem aY {oc : Value} {od an : Option Addr} {osl : Array (Option Value)} {kV doc pm cdv ct : Value} (m : W.nsIn K mainGlobals x = some (some (.ref a))) (l : K.lookup a = some ⟨oc, od, .func (W.fnOf x qual (br st) (aQ st) (am st) .none kV doc pm an cdv ct), osl⟩)
 (c : W.codeIn K cdv qual = true) (k : W.keepIn K (.ref a) = true) : Fa K x qual st a (W.fnOf x qual (br st) (aQ st) (am st) .none kV doc pm an cdv ct) := ⟨m, jJ l c k⟩
theorem Fa.code (F : Fa K x qual st a d) (X : K.In h) (G : h.Ns mainGlobals mg) {z t : Addr} (ht : W.tabIn K x = some (z, t)) : d.code = .ref z := by
 obtain ⟨oc, od, kV, doc, pm, an, cdv, ct, osl, e, lk, hcd⟩ := F.f.ex
 exact W.law_code X G ht (W.mg_of X G F.m) (X _ _ lk) rfl
theorem Fun.bt {p : Str} (F : Fun K x qual st a d) (hb : ∀ (kV doc pm : Value) (an : Option Addr) (cdv ct v : Value), bindArgs (W.fnOf x qual (br st) (aQ st) (am st) .none kV doc pm an cdv ct) ⟨[v], []⟩ = pure [(p, v)] := by intros; rfl) (s : Shared) (v : Value) : BindsTo s d ⟨[v], []⟩ [(p, v)] := by
 obtain ⟨oc, od, kV, doc, pm, an, cdv, ct, osl, rfl, lk, hcd⟩ := F.ex
 exact .of_eq (hb kV doc pm an cdv ct v)
theorem Fun.b0 (F : Fun K x qual st a d) (hb : ∀ (kV doc pm : Value) (an : Option Addr) (cdv ct : Value), bindArgs (W.fnOf x qual (br st) (aQ st) (am st) .none kV doc pm an cdv ct) ⟨[], []⟩ = pure (List.zip [] []) := by intros; rfl) : bY K d [] [] := F.binds fun kV doc pm an cdv ct us hl => by
 obtain rfl := L2.qP hl
 exact hb kV doc pm an cdv ct
theorem Fa.fm0 (F : Fa K x qual st a d) (X : K.In h) (G : h.Ns mainGlobals mg) (hb : ∀ (kV doc pm : Value) (an : Option Addr) (cdv ct : Value), bindArgs (W.fnOf x qual (br st) (aQ st) (am st) .none kV doc pm an cdv ct) ⟨[], []⟩ = pure (List.zip [] []) := by intros; rfl) : Fm K mg x qual st a d [] := ⟨F.f, W.mg_of X G F.m, F.f.b0 hb⟩
theorem Fun.b1 {p0 : Str} (F : Fun K x qual st a d) (hb : ∀ (kV doc pm : Value) (an : Option Addr) (cdv ct u0 : Value), bindArgs (W.fnOf x qual (br st) (aQ st) (am st) .none kV doc pm an cdv ct) ⟨[u0], []⟩ = pure (List.zip [p0] [u0]) := by intros; rfl) : bY K d [p0] [] := F.binds fun kV doc pm an cdv ct us hl => by
 obtain ⟨u0, rfl⟩ := L2.dH hl
 exact hb kV doc pm an cdv ct u0
theorem Fa.fm1 {p0 : Str} (F : Fa K x qual st a d) (X : K.In h) (G : h.Ns mainGlobals mg) (hb : ∀ (kV doc pm : Value) (an : Option Addr) (cdv ct u0 : Value), bindArgs (W.fnOf x qual (br st) (aQ st) (am st) .none kV doc pm an cdv ct) ⟨[u0], []⟩ = pure (List.zip [p0] [u0]) := by intros; rfl) : Fm K mg x qual st a d [p0] := ⟨F.f, W.mg_of X G F.m, F.f.b1 hb⟩
theorem Fun.b2 {p0 p1 : Str} (F : Fun K x qual st a d) (hb : ∀ (kV doc pm : Value) (an : Option Addr) (cdv ct u0 u1 : Value), bindArgs (W.fnOf x qual (br st) (aQ st) (am st) .none kV doc pm an cdv ct) ⟨[u0, u1], []⟩ = pure (List.zip [p0, p1] [u0, u1]) := by intros; rfl) : bY K d [p0, p1] [] := F.binds fun kV doc pm an cdv ct us hl => by
 obtain ⟨u0, u1, rfl⟩ := L2.wl hl
 exact hb kV doc pm an cdv ct u0 u1
theorem Fa.fm2 {p0 p1 : Str} (F : Fa K x qual st a d) (X : K.In h) (G : h.Ns mainGlobals mg) (hb : ∀ (kV doc pm : Value) (an : Option Addr) (cdv ct u0 u1 : Value), bindArgs (W.fnOf x qual (br st) (aQ st) (am st) .none kV doc pm an cdv ct) ⟨[u0, u1], []⟩ = pure (List.zip [p0, p1] [u0, u1]) := by intros; rfl) : Fm K mg x qual st a d [p0, p1] := ⟨F.f, W.mg_of X G F.m, F.f.b2 hb⟩
theorem Fun.b3 {p0 p1 p2 : Str} (F : Fun K x qual st a d) (hb : ∀ (kV doc pm : Value) (an : Option Addr) (cdv ct u0 u1 u2 : Value), bindArgs (W.fnOf x qual (br st) (aQ st) (am st) .none kV doc pm an cdv ct) ⟨[u0, u1, u2], []⟩ = pure (List.zip [p0, p1, p2] [u0, u1, u2]) := by intros; rfl) : bY K d [p0, p1, p2] [] := F.binds fun kV doc pm an cdv ct us hl => by
 obtain ⟨u0, u1, u2, rfl⟩ := L2.qf hl
 exact hb kV doc pm an cdv ct u0 u1 u2
theorem Fa.fm3 {p0 p1 p2 : Str} (F : Fa K x qual st a d) (X : K.In h) (G : h.Ns mainGlobals mg) (hb : ∀ (kV doc pm : Value) (an : Option Addr) (cdv ct u0 u1 u2 : Value), bindArgs (W.fnOf x qual (br st) (aQ st) (am st) .none kV doc pm an cdv ct) ⟨[u0, u1, u2], []⟩ = pure (List.zip [p0, p1, p2] [u0, u1, u2]) := by intros; rfl) : Fm K mg x qual st a d [p0, p1, p2] := ⟨F.f, W.mg_of X G F.m, F.f.b3 hb⟩
theorem Fun.b4 {p0 p1 p2 p3 : Str} (F : Fun K x qual st a d) (hb : ∀ (kV doc pm : Value) (an : Option Addr) (cdv ct u0 u1 u2 u3 : Value), bindArgs (W.fnOf x qual (br st) (aQ st) (am st) .none kV doc pm an cdv ct) ⟨[u0, u1, u2, u3], []⟩ = pure (List.zip [p0, p1, p2, p3] [u0, u1, u2, u3]) := by intros; rfl) : bY K d [p0, p1, p2, p3] [] := F.binds fun kV doc pm an cdv ct us hl => by
 obtain ⟨u0, u1, u2, u3, rfl⟩ := L2.wL hl
 exact hb kV doc pm an cdv ct u0 u1 u2 u3
theorem Fa.fm4 {p0 p1 p2 p3 : Str} (F : Fa K x qual st a d) (X : K.In h) (G : h.Ns mainGlobals mg) (hb : ∀ (kV doc pm : Value) (an : Option Addr) (cdv ct u0 u1 u2 u3 : Value), bindArgs (W.fnOf x qual (br st) (aQ st) (am st) .none kV doc pm an cdv ct) ⟨[u0, u1, u2, u3], []⟩ = pure (List.zip [p0, p1, p2, p3] [u0, u1, u2, u3]) := by intros; rfl) : Fm K mg x qual st a d [p0, p1, p2, p3] := ⟨F.f, W.mg_of X G F.m, F.f.b4 hb⟩
theorem Fun.b5 {p0 p1 p2 p3 p4 : Str} (F : Fun K x qual st a d) (hb : ∀ (kV doc pm : Value) (an : Option Addr) (cdv ct u0 u1 u2 u3 u4 : Value), bindArgs (W.fnOf x qual (br st) (aQ st) (am st) .none kV doc pm an cdv ct) ⟨[u0, u1, u2, u3, u4], []⟩ = pure (List.zip [p0, p1, p2, p3, p4] [u0, u1, u2, u3, u4]) := by intros; rfl) : bY K d [p0, p1, p2, p3, p4] [] := F.binds fun kV doc pm an cdv ct us hl => by
 obtain ⟨u0, u1, u2, u3, u4, rfl⟩ := L2.wu hl
 exact hb kV doc pm an cdv ct u0 u1 u2 u3 u4
theorem Fa.fm5 {p0 p1 p2 p3 p4 : Str} (F : Fa K x qual st a d) (X : K.In h) (G : h.Ns mainGlobals mg) (hb : ∀ (kV doc pm : Value) (an : Option Addr) (cdv ct u0 u1 u2 u3 u4 : Value), bindArgs (W.fnOf x qual (br st) (aQ st) (am st) .none kV doc pm an cdv ct) ⟨[u0, u1, u2, u3, u4], []⟩ = pure (List.zip [p0, p1, p2, p3, p4] [u0, u1, u2, u3, u4]) := by intros; rfl) : Fm K mg x qual st a d [p0, p1, p2, p3, p4] := ⟨F.f, W.mg_of X G F.m, F.f.b5 hb⟩
theorem Fun.b6 {p0 p1 p2 p3 p4 p5 : Str} (F : Fun K x qual st a d) (hb : ∀ (kV doc pm : Value) (an : Option Addr) (cdv ct u0 u1 u2 u3 u4 u5 : Value), bindArgs (W.fnOf x qual (br st) (aQ st) (am st) .none kV doc pm an cdv ct) ⟨[u0, u1, u2, u3, u4, u5], []⟩ = pure (List.zip [p0, p1, p2, p3, p4, p5] [u0, u1, u2, u3, u4, u5]) := by intros; rfl) : bY K d [p0, p1, p2, p3, p4, p5] [] := F.binds fun kV doc pm an cdv ct us hl => by
 obtain ⟨u0, u1, u2, u3, u4, u5, rfl⟩ := L2.Cv hl
 exact hb kV doc pm an cdv ct u0 u1 u2 u3 u4 u5
theorem Fa.fm6 {p0 p1 p2 p3 p4 p5 : Str} (F : Fa K x qual st a d) (X : K.In h) (G : h.Ns mainGlobals mg) (hb : ∀ (kV doc pm : Value) (an : Option Addr) (cdv ct u0 u1 u2 u3 u4 u5 : Value), bindArgs (W.fnOf x qual (br st) (aQ st) (am st) .none kV doc pm an cdv ct) ⟨[u0, u1, u2, u3, u4, u5], []⟩ = pure (List.zip [p0, p1, p2, p3, p4, p5] [u0, u1, u2, u3, u4, u5]) := by intros; rfl) : Fm K mg x qual st a d [p0, p1, p2, p3, p4, p5] := ⟨F.f, W.mg_of X G F.m, F.f.b6 hb⟩
theorem Fun.okS {CX : CXT} {N : List Str} {k : Nat} {sp : Sp} {t : TS} (F : Fun K x qual st a d) (S : aF N ps (am st)) (len : ∀ vs H Q E, sp vs H Q E → vs.length = ps.length)
  (hrd : ∀ (vs : List V) (H : Hp) (Q : VK) (E : XK), sp vs H Q E → t { nx := fun _ H' => Q .non H', rt := Q } (start N vs) H)
  (hq : ∀ (cdv : Value) (A : Around) (outer : List Env) (s : Shared) (H : Hp) (E : XK), bc k (A.deeper (envOfC qual (am st) s.heap.objs.size a cdv)) → QSs (de CX P w K mg base N qual (am st) a cdv A outer s H E).nox (aQ st) t) : aV P w K mg base CX (k + 1) a d ps sp :=
 F.okN S len fun cdv A outer s H vs Q E hr h => ⟨t, (hq cdv A outer s H E hr).out, hrd vs H Q E h⟩
end
section
variable {X : Cx} {x q : Str} {e : Expr} {es : List Expr} {t : TA} {p pos : Pos} {st : Stmt} {f : Addr} {fd : FuncData} {ps : List Str} {k : Nat} {sp : Sp}
theorem aT {P : Program} {w : World} (F : aV X.prog X.w X.K X.mg X.base (CX1 P w) k f fd ps sp) (hr : bc k X.A) (M : Fm X.K X.mg x q st f fd ps)
 (ha : QA X (e :: es) t) (hg : Gl X x := by rfl) (hdb : (x == ("__debug__" : Str)) = false := by decide) (hs : aZ (e :: es) = true := by rfl) : QE X (.Call (.Name x p) (e :: es) [] pos) (aw sp (fun _ => E0) t) := pq F hr M.m M.f.kp M.b cq ha hg hdb hs
end
end L2
namespace L2
open PySem PySem.Spec PyProof.Rows
section
variable {X : Cx}
end
end L2
namespace L2
open PySem PySem.Spec PyProof.Rows
section
variable {K : W.Frag} {mg : Str → Option Value} {h : Heap} {x qual : Str} {st : Stmt} {a : Addr} {d : FuncData}
end
end L2
namespace L2
open PySem PySem.Spec PyProof.Rows
section
variable {X : Cx} {pins : List (Addr × Obj)} {σ : St} {H : Hp} {s : Shared} {A : Around} {E : Value → Shared → Prop} {a C dx : Addr} {fs : List (Str × V)} {v : V}
end
section
variable {X : Cx} {k : Nat} {C : Addr} {E : St → XK} {m : Str} {pos apos : Pos} {e o : Expr} {es : List Expr} {ta : TE} {t : TA}
end
end L2
namespace HT
open PySem PyProof.Rows
theorem rG : typeLookup (.type "list_reverseiterator") "__len__" = pure none := by rw [typeLookup_type, builtinLookup_eq_fast]; kernel_rfl
theorem vJ : typeLookup (.type "list_reverseiterator") "__length_hint__" = pure (some (.builtin "list_reverseiterator.__length_hint__")) := by rw [typeLookup_type, builtinLookup_eq_fast]; kernel_rfl
section
variable {prog : Program} {w : World} {A : Around} {s : Shared} {R : Result → Shared → Prop}
variable {I : Addr} {fp wr : List Addr} {G : Array GenState → Array GenState → Prop} {n : Nat} {P : Nat → Value → Prop} {St : Nat → Shared → Prop}
theorem pT (W : WalksS prog w A.in1 I fp wr G n P St) (hT : ∀ i s, St i s → s.TypeIs (.ref I) "list_reverseiterator") (S : Addr) (res : Value) (c₀ : Nat) (hst : St 0 s) (hSf : S ∉ fp) (hI : I ∈ fp)
  (hS : s.heap.get? S = some { cls := .type "list", data := .seq #[] c₀ })
  (hR : ∀ s' acc' c', Moved (S :: wr) G s s' → s'.heap.get? S = some { cls := .type "list", dict := none, data := .seq acc' c', slots := #[] } → ItemsOf P acc' n → R (.ok (.ret res)) s') (hn : n ≤ sizeLine) :
  wpAny (model prog w) A.in1 (Builtin.List.listExtendWith (.ref S) (.ref I) res)
   (fun fin s' => match fin with | .done f => R (.ok f) s' | .again c' => c'.quiet = true ∧ codeAny (model prog w) A c' R s') (fun e s' => R (.error e) s') s := by
 have hSI : S ≠ I := fun e => hSf (e ▸ hI)
 have h1 : Builtin.List.listSameRef (.ref S) (.ref I) = false := by simp [Builtin.List.listSameRef, hSI]
 unfold Builtin.List.listExtendWith
 refine wpAny_bind (wpAny_typeOf (hT 0 _ hst) ?_)
 rw [if_neg (by rw [h1]; decide)]
 refine wpAny_bind (W.self 0 _ _ _ hst ?_)
 refine wpAny_bind (wpAny_holding ?_)
 unfold Builtin.List.listLengthHint
 refine wpAny_bind (wpAny_specialOf (hT 0 _ hst) rG ?_)
 show wpAny _ A.in1 (specialOf (Value.ref I) (Str.ofString "__length_hint__") >>= _) _ _ _
 refine wpAny_bind (wpAny_specialOf (hT 0 _ hst) vJ ?_)
 generalize hid : ("list_reverseiterator.__length_hint__" : String) = id0
 wp_delta
 rw [show splitId id0 = some ("list_reverseiterator", "__length_hint__") from by subst hid; decide +kernel]
 subst hid
 refine wpAny_bind (wpAny_isInstance (b := true) (hT 0 _ hst) (by rw [isSubtype_type]; kernel_rfl) ?_)
 refine wpAny_pure ?_
 rw [if_neg (by decide)]
 exact wpAny_pure ⟨plainId_quiet F.plain_extend_loop _, codeAny_extend_loopS W hn _ hSf _ n 0 _ _ _ rfl (Nat.zero_le _) hst hS (ItemsOf.nil P) fun s' acc' c' hm hS' hacc => hR s' acc' c' hm hS' hacc⟩
theorem lP (W : WalksS prog w A.in1 I fp wr G n P St) (hT : ∀ i s, St i s → s.TypeIs (.ref I) "list_reverseiterator") (S : Addr) (hst : St 0 s) (hSf : S ∉ fp) (hI : I ∈ fp)
  (hS : s.heap.get? S = some { cls := .type "list", data := .seq #[] })
  (hR : ∀ s' acc' c', Moved (S :: wr) G s s' → s'.heap.get? S = some { cls := .type "list", dict := none, data := .seq acc' c', slots := #[] } → ItemsOf P acc' n → R (.ok (.ret .none)) s') (hn : n ≤ sizeLine) :
  wpAny (model prog w) A.in1 (Builtin.«list.__init__» ⟨[.ref S, .ref I], []⟩)
   (fun fin s' => match fin with | .done f => R (.ok f) s' | .again c' => c'.quiet = true ∧ codeAny (model prog w) A c' R s') (fun e s' => R (.error e) s') s := by
 show wpAny _ A.in1 (do let old ← Builtin.List.listItems (.ref S); Builtin.List.listUpdate (.ref S) (fun _ => #[]); letGo old.toList.reverse; Builtin.List.listExtendWith (.ref S) (.ref I) .none) _ _ s
 refine wpAny_bind ?_
 unfold Builtin.List.listItems
 refine wpAny_bind (wpAny_seqItems hS rfl (wpAny_pure ?_))
 show wpAny _ A.in1 (updateSeq S (fun _ => #[]) >>= fun _ => letGo (#[] : Array Value).toList.reverse >>= fun _ => Builtin.List.listExtendWith (.ref S) (.ref I) .none) _ _ s
 refine wpAny_bind (wpAny_updateSeq hS rfl ?_)
 have hS₂ := Heap.get?_update_self (Obj.mapSeq (fun _ => (#[] : Array Value))) hS rfl
 have oth : ∀ b o, b ≠ S → s.heap.get? b = some o → (s.heap.update S (Obj.mapSeq (fun _ => (#[] : Array Value)))).get? b = some o :=
  fun b o hb e => (Heap.get?_update_other _ _ (Ne.symm hb)).trans e
 refine wpAny_bind (wpAny_letGo ?_)
 refine pT (hn := hn) W hT S .none _ (W.frame 0 s _ s.toks hst (Nat.le_refl _) fun b hb o e => oth b o (fun h => hSf (h ▸ hb)) e) hSf hI hS₂ fun s' acc' c' hm hS' hacc => ?_
 exact hR s' acc' c' (Moved.trans W.gtrans ((Moved.refl W.grefl).then_heap (Nat.le_refl _) fun b o hb e => oth b o (fun h => hb (h ▸ List.mem_cons_self)) e) hm) hS' hacc
end
section
variable {prog : Program} {w : World} {A : Around} {E : Value → Shared → Prop} {s : Shared}
variable {I : Addr} {fp wr : List Addr} {G : Array GenState → Array GenState → Prop} {n : Nat} {P : Nat → Value → Prop} {St : Nat → Shared → Prop}
theorem lS {Q : Value → Shared → Prop} (W : WalksS prog w A.in1.in1 I fp wr G n P St) (hT : ∀ i s, St i s → s.TypeIs (.ref I) "list_reverseiterator") (hst : St 0 s) (hfp : ∀ b ∈ fp, b < s.heap.objs.size) (hI : I ∈ fp)
  (hQ : ∀ s' acc' c', Moved (s.heap.objs.size :: wr) G { s with heap := s.heap.push { cls := .type "list", data := .seq #[] } } s' →
   s'.heap.get? s.heap.objs.size = some { cls := .type "list", dict := none, data := .seq acc' c', slots := #[] } → ItemsOf P acc' n → Q (.ref s.heap.objs.size) s') (hn : n ≤ sizeLine) :
  wpAny (model prog w) A (call (.type "list") [.ref I]) Q E s := by
 have hSf : s.heap.objs.size ∉ fp := fun hm => Nat.lt_irrefl _ (hfp _ hm)
 refine callType_codes (Q₁ := fun obj s₁ => obj = .ref s.heap.objs.size ∧ s₁ = { s with heap := s.heap.push { cls := .type "list", data := .seq #[] } }) F.called_list (F.typeCall_list_1 _) F.entry_list_init
  (code_list_new _ ⟨rfl, rfl⟩) fun obj s₁ h₁ => ?_
 obtain ⟨rfl, rfl⟩ := h₁
 have hS : (s.heap.push { cls := .type "list", data := .seq #[] }).get? s.heap.objs.size = some { cls := .type "list", data := .seq #[] } := Heap.get?_push_size _ rfl
 refine ⟨⟨_, hS, rfl⟩, F.args_list_init_2 _ _, lP (hn := hn) W hT _ (W.frame 0 s _ s.toks hst (Nat.le_refl _) fun b _ o e => Heap.get?_push_of_some _ e) hSf hI hS fun s' acc' c' hm hS' hacc => ?_⟩
 exact ⟨rfl, hQ s' acc' c' hm hS' hacc⟩
end
end HT
namespace L2
open PySem PySem.Spec PyProof.Rows
def ng (K : W.Frag) : List V → Hp → VK → Prop := fun xs H Q => ∃ c ys, xs = [.ref c] ∧ SqL K H c ys ∧ ∀ l, H l = none → Q (.ref l) (upd H l (.lst ys.reverse))
section
variable {X : Cx} {pins : List (Addr × Obj)} {σ : St} {H : Hp} {s : Shared}
theorem uY {Q : VK} {c : Addr} {ys : List V} (hc : X.calm = true) (I : Inv X pins σ H s) (hq : SqL X.K H c ys) (q : ∀ l, H l = none → Q (.ref l) (upd H l (.lst ys.reverse))) :
   wpAny (model X.prog X.w) X.A (call (.type "reversed") [.ref c]) (fun u s2 => wpAny (model X.prog X.w) X.A (call (.type "list") [u]) (EP X pins σ Q) X.xe s2) X.xe s := by
 obtain ⟨its, r', pl, hz⟩ := I.list hq
 have hlen := r'.length
 have hl := pl.isList
 refine call_reversed_list hl ?_
 have hcs : c < s.heap.objs.size := by obtain ⟨o, ho, _⟩ := hl; exact Heap.lt_size ho
 have hne : c ≠ s.heap.objs.size := Nat.ne_of_lt hcs
 have W := (Walks.listRev (prog := X.prog) (w := X.w) (A := X.A.in1.in1) (I.ok.hd hc) s.heap.objs.size c hne its.toArray).toS
 have hl2 : (s.heap.push (revObj c ((its.toArray.size : Int) - 1))).IsList c its.toArray := hl.at fun o e => Heap.get?_push_of_some _ e
 have hz' : its.toArray.size ≤ sizeLine := by rw [List.size_toArray]; omega
 have hsz : (s.heap.push (revObj c ((its.toArray.size : Int) - 1))).objs.size = s.heap.objs.size + 1 := Heap.size_push _ _
 refine HT.lS (s := { s with heap := s.heap.push (revObj c ((its.toArray.size : Int) - 1)) }) W (fun i s3 st => st.2.1.typeIs) ⟨Nat.zero_le _, ⟨_, Heap.get?_push_size _ rfl, rfl, by show Data.fields _ = Data.fields _; simp⟩, hl2⟩ (fun b hb => ?_) (by simp) (fun s' acc' c' hm hS' hacc => ?_) hz'
 · show b < (s.heap.push _).objs.size
   rw [hsz]
   rcases List.mem_cons.mp hb with z | z
   · rw [z]; exact Nat.lt_succ_self _
   · rw [List.mem_singleton.mp z]; exact Nat.lt_succ_of_lt hcs
 · have e1 : acc'.toList = its.reverse := by
     refine List.ext_getElem? fun j => ?_
     by_cases hj : j < its.length
     · have hj2 : j < acc'.size := by rw [hacc.1, List.size_toArray]; exact hj
       have ea : acc'[j]? = some acc'[j] := Array.getElem?_eq_getElem hj2
       have hp : its.toArray[its.toArray.size - 1 - j]? = some acc'[j] := hacc.2 j _ ea
       rw [Array.getElem?_toList, ea, List.getElem?_reverse hj, ← hp]
       simp
     · rw [List.getElem?_eq_none (by rw [Array.length_toList, hacc.1, List.size_toArray]; omega), List.getElem?_eq_none (by simp; omega)]
   have hw : ∀ b o, s.heap.get? b = some o → s'.heap.get? b = some o := fun b o e => by
     have hb := Heap.lt_size e
     refine hm.heap b o (fun z => ?_) (Heap.get?_push_of_some _ (Heap.get?_push_of_some _ e))
     rcases List.mem_cons.mp z with z | z
     · have z : b = (s.heap.push (revObj c ((its.toArray.size : Int) - 1))).objs.size := z
       rw [hsz] at z
       rw [z] at hb
       exact Nat.lt_irrefl _ (Nat.lt_trans (Nat.lt_succ_self _) hb)
     · rw [List.mem_singleton.mp z] at hb
       exact Nat.lt_irrefl _ hb
   have es : s' = { s with heap := s'.heap, toks := s'.toks } := by
     have h1 := hm.gens
     have h2 := hm.drawn
     have h3 := hm.os
     cases s'
     cases h1; cases h2; cases h3
     rfl
   have hS2 : s'.heap.get? (s.heap.objs.size + 1) = some { cls := .type "list", dict := none, data := .seq its.reverse.toArray c', slots := #[] } := by
     rw [← hsz, hS', ← e1]
   have new : aR X.prog X.w (upd H (s.heap.objs.size + 1) (.lst ys.reverse)) s'.heap (s.heap.objs.size + 1) (.lst ys.reverse) := ⟨by rw [List.length_reverse]; exact hz, its.reverse, c', r'.reverse, hS2⟩
   refine ⟨.ref (s.heap.objs.size + 1), upd H (s.heap.objs.size + 1) (.lst ys.reverse), ?_, ?_, q _ (I.hok.fresh (Nat.le_succ _))⟩
   · rw [es]; exact I.laid hw (Nat.le_succ _) new
   · show Value.ref _ = Value.ref _
     rw [hsz]
end
section
variable {X : Cx} {a : Expr} {t : TA} {p1 p2 pos1 pos2 : Pos}
theorem xv : bootBuiltins "list" = some (.type "list") := by decide +kernel
theorem sR (hm1 : X.mg "list" = none) (hm2 : X.mg "reversed" = none) (hc : X.calm = true) (ha : QA X [a] t) (hg1 : Gl X "list" := by rfl) (hg2 : Gl X "reversed" := by rfl) (hs : aZ [a] = true := by rfl) :
  QE X (.Call (.Name "list" p1) [.Call (.Name "reversed" p2) [a] [] pos2] [] pos1) (tCB (ng X.K) t) := ⟨fun pins s σ H Q I h => by
 have h' : (bL a && aZ []) = true := hs
 refine wpAny_Call_Name_kw (eA I hg1 hm1 xv ?_ (by decide) (by decide))
 refine PyProof.Rows.callWith_type1 ?_ rfl rfl
 show wpAny _ _ (spliced ((false, eval (.Call (.Name "reversed" p2) [a] [] pos2) X.env) :: backTo pos1 (starEach [] X.env))) _ _ s
 refine Calls.spliced_cons ?_
 refine wpAny_Call_Name_kw (eA I hg2 hm2 je ?_ (by decide) (by decide))
 refine PyProof.Rows.callWith_type1 (thn (ha.out pos2 pins s σ H _ I h) fun us s1 ⟨vs, H1, I1, r1, q1⟩ => ?_)
  (aX (Bool.and_eq_true_iff.mp h').1 [] X.env) (bJ (Bool.and_eq_true_iff.mp h').2)
 obtain ⟨c, ys, rfl, hq, q⟩ := q1
 obtain ⟨u, rfl, ru⟩ := fh r1
 cases ru
 refine wpAny_mono (uY hc I1 hq q) (fun u s2 z => ?_) fun _ _ z => z
 exact Calls.spliced_nil z⟩
end
end L2
namespace L2
open PySem PySem.Spec PyProof.Rows
section
variable {X : Cx} {tg : Expr}
end
section
variable {X : Cx} {a b : Expr} {t : TA} {p pos ep : Pos} {elts : List Expr} {ek : Nat}
def wy (K : W.Frag) (t : TA) : TI := fun σ H R => t σ H fun vs H1 => (∃ c d xs ys, vs = [.ref c, .ref d] ∧ SqT K H1 c xs ∧ SqT K H1 d ys ∧ R (Itz K c d) H1) ∨ (∃ c d xs ys, vs = [.ref c, .ref d] ∧ SqL K H1 c xs ∧ SqL K H1 d ys ∧ R (jw K c d) H1)
theorem zp (hm : X.mg "zip" = none) (ha : QA X [a, b] t) (hg : Gl X "zip" := by rfl) (hs : aZ [a, b] = true := by rfl) : QI X (.Tuple elts ek ep) (.Call (.Name "zip" p) [a, b] [] pos) (wy X.K t) := ⟨fun pins s σ H R I h => by
 have h' : (bL a && aZ [b]) = true := hs
 refine wpAny_Call_Name_kw (eA I hg hm yZ ?_ (by decide) (by decide))
 exact PyProof.Rows.callWith_type1 (thn (ha.out pos pins s σ H _ I h) fun us s1 ⟨vs, H1, I1, r1, q1⟩ => q1.elim (vz pins s1 σ H1 us vs R I1 r1) (sA pins s1 σ H1 us vs R I1 r1))
  (aX (Bool.and_eq_true_iff.mp h').1 [b] X.env) (bJ (Bool.and_eq_true_iff.mp h').2)⟩
end
end L2
namespace HT
open PySem PyProof.Rows
section
variable {prog : Program} {w : World} {A : Around} {E : Value → Shared → Prop} {s : Shared}
end
section
variable {prog : Program} {w : World} {A : Around} {s : Shared} {R : Result → Shared → Prop} {xs ys : Array Value}
end
end HT
namespace HT
open PySem PyProof.Rows
section
variable {prog : Program} {w : World} {A : Around} {s : Shared} {R : Result → Shared → Prop} {xs ys : Array Value} {z TI TO i1 i2 l t S : Addr}
end
section
variable {prog : Program} {w : World} {A : Around} {E : Value → Shared → Prop} {s : Shared} {xs ys : Array Value} {z TI TO i1 i2 l t : Addr}
end
end HT
namespace L2
open PySem PySem.Spec PyProof.Rows
section
variable {X : Cx} {pins : List (Addr × Obj)} {σ : St} {H : Hp} {s : Shared} {h' : Heap}
end
section
variable {X : Cx} {a b : Expr} {t : TA} {p1 p2 pos1 pos2 : Pos}
end
section
variable {X : Cx} {a : Expr} {t : TA} {p pos : Pos} {tg : Expr}
end
end L2
namespace HT
open PySem PySem.W PyProof.Rows
abbrev jx (C t : Addr) (d : Option Addr) : Obj := { cls := .ref C, dict := d, data := .fields #[.ref t, .none, .none, .none, .bool false, .none] }
abbrev fS (h : Heap) (C : Addr) (us : List Value) : Heap := (h.push { cls := .type "tuple", data := .seq us.toArray }).push (jx C h.objs.size none)
section
variable {prog : Program} {w : World} {A : Around} {K : Frag} {C f : Addr} {R : Result → Shared → Prop} {h : Heap} {g : Array GenState} {d : Drawn} {t : Nat} {os : OsState}
theorem tB {us : List Value} (X : K.In h) (hC : L2.dg K C) (hi : findIn K (.ref C) "__init__" = some (some (.ref f))) (hf : typeIn K (.ref f) = some (.type "function")) (hus : us.length ≤ sizeLine)
  (hq : codeAny (model prog w) (A.under (.builtin "type.__call__" ⟨.ref C :: us, []⟩)) (.call (.ref f) ⟨.ref (h.objs.size + 1) :: us, []⟩) (InitBack (h.objs.size + 1) R) ⟨fS h C us, g, d, t, os⟩) :
  codeAny (model prog w) A (.call (.ref C) ⟨us, []⟩) R ⟨h, g, d, t, os⟩ := by
 obtain ⟨bm, N, nm, qn, bs, hdct, sn, sub, ab, col, dd, k0, k1, k2, k3, k5, mN, oC, hN, _, T, _⟩ := L2.gm X hC
 have f1 := tc_lookup
 have f2 := tc_bind (.ref C)
 have hT : (⟨h, g, d, t, os⟩ : Shared).TypeIs (.ref C) "type" := ⟨_, oC, rfl⟩
 have FB := F.excBase_ValueError
 have hBn : (L2.veM).contains (.type "ValueError") = true := by decide +kernel
 refine codeAny_of_tree ?_
 show wpAny _ _ (callAny (.ref C) _) _ _ _
 repeat (any_goals (first | assumption | with_reducible refine wpAny_loadPart_at oC ?_ | wp_step))
 refine ⟨rfl, ?_⟩
 refine codeAny_call_builtin_at (Code.quiet_builtin _ (by decide +kernel)) entry_typeCall (wpAny_check_type_call_sub oC ?_)
 repeat (first | with_reducible refine wpAny_loadPart_at oC ?_ | with_reducible refine wpAny_madeBy_exc oC ?_ | wp_step)
 refine codeAny_call_builtin_code (Code.quiet_builtin _ FB.quiet) (wpAny_check_new_subU FB hBn T oC ?_)
 refine codeAny_exc_new_subU FB hBn FB T oC ?_ hus
 show wpAny _ _ _ _ _ _
 have k : ∀ b o, h.get? b = some o → (fS h C us).get? b = some o := fun b o e => Heap.get?_push_of_some _ (Heap.get?_push_of_some _ e)
 have hx : (fS h C us).get? (h.objs.size + 1) = some (jx C h.objs.size none) := by heap_get
 have oC1 := k _ _ oC
 have hcC : (Value.ref C :: bm).contains (.ref C) = true := by simp
 have t1 : Looks (model prog w) (fS h C us) (typeOf (.ref (h.objs.size + 1))) (.ref C) := (Looks.ld hx).andThen .now
 have i1 := (looks_findIn (M := model prog w) X hi).keeps k
 have b1 := (bind_fn (M := model prog w) X (.ref (h.objs.size + 1)) hf).keeps k
 unfold isInstance
 repeat (first | with_reducible refine wpAny_loadPart_at hx ?_ | (with_reducible refine wpAny_isSubtype_exc oC1 ?_; rw [hcC]) | wp_step)
 show wpAny _ _ (isSubtype (.ref C) (.ref C)) _ _ ⟨fS h C us, g, d, t, os⟩
 refine wpAny_isSubtype_exc oC1 ?_
 rw [hcC, if_neg (by decide)]
 unfold callSpecial? specialOf
 repeat (first | with_reducible refine wpAny_call ?_ | lk)
 refine codeAny_mono hq fun r s' z => ?_
 rcases r with e | (v | _ | _ | _) <;> first | exact z | exact z.elim | skip
 obtain ⟨rfl, z⟩ := z
 exact wpAny_pure (wpAny_pure z)
end
end HT
namespace HT
open PySem PySem.W PyProof.Rows
open Builtin Builtin.ObjectAttr
theorem oj (self : Value) {h : Heap} {bm : List Value} (T : OwnTail h L2.veM bm) : refuseLoop self "__setattr__" bm = pure () := by
 induction T with
 | base => exact PySem.F.store_ValueError.passes self
 | own _ _ _ _ ih => rw [refuseLoop_ref]; exact ih
structure eU (K : Frag) (C : Addr) (name : Str) : Prop where
 ok : L2.dg K C
 sa : findIn K (.ref C) "__setattr__" = some (some (.builtin "object.__setattr__"))
 eg : L2.iF K C
 no : findIn K (.ref C) name = some none
 hd : hasDictIn K C = true
section
variable {prog : Program} {w : World} {A : Around} {E : Value → Shared → Prop} {s : Shared} {K : Frag} {x C : Addr} {name : Str} {v : Value}
theorem oU {ox : Obj} {od : Option Obj} {tk : Tok} {R : Result → Shared → Prop} (X : K.In s.heap) (I : InstAt s.heap x ox C od) (G : eU K C name)
  (h : wpAny (model prog w) A.in1 (storeInOwnDict (.ref x) (.ref C) (.str name tk) name v false)
   (fun fin s' => match fin with | .done f => R (.ok f) s' | .again c' => c'.quiet = true ∧ codeAny (model prog w) A c' R s') (fun e s' => R (.error e) s') s) :
  codeAny (model prog w) A (.call (.builtin "object.__setattr__") ⟨[.ref x, .str name tk, v], []⟩) R s := by
 have SF := PySem.F.store_object
 obtain ⟨bm, N, nm, qn, bs, hdct, sn, sub, ab, col, dd, k0, k1, k2, k3, k5, mN, oC, hN, _, T, _⟩ := L2.gm X G.ok
 have hm : Looks (model prog w) s.heap (mroOf (.ref C)) (.ref C :: bm) := ((Looks.ld (part := none) oC).andThen .now).andThen .now
 have hsub : Looks (model prog w) s.heap (isSubtype (.ref C) (.type "object")) true := fun A' Q' E' s' k q => by
  obtain ⟨hh, g, d, t, os⟩ := s'
  refine wpAny_isSubtype_exc (k _ _ oC) ?_
  rw [List.contains_cons, T.hasType (X := "object") (b := true) (by decide +kernel), Bool.or_true]; exact q
 have hsub' : Looks (model prog w) s.heap (isInstance (.ref x) (.type "object")) true := I.type.andThen hsub
 refine codeAny_call_builtin SF.slot.plain SF.entry (@check_slot (model prog w) _ _ s "object.__setattr__" "object" "__setattr__" (.ref x) [.str name tk, v] [] _ SF.kind SF.split hsub' (SF.args (.ref x) (.str name tk) v) ?_)
 rw [osa_eq, refuse_eq]
 refine wpAny_bind (wpAny_bind (I.type.here (wpAny_bind (hm.here ?_))))
 rw [refuseLoop_ref, oj _ T]
 exact wpAny_pure (wpAny_bind (I.type.here (wpAny_bind ((looks_findIn X G.no).here (wpAny_bind (wpAny_pure h))))))
theorem yc {ox : Obj} {dx : Addr} {mA : Str → Option Value} {ns : List Str} {Q : Unit → Shared → Prop} (X : K.In s.heap) (hx : s.heap.get? x = some ox) (hc : ox.cls = .ref C) (hdx : ox.dict = some dx) (hf : ∃ vs, ox.data = .fields vs) (hn : s.heap.Ns1 dx mA) (ne : dx ≠ x) (G : eU K C name)
  (hw : Within mA ns) (hsz : ns.length ≤ sizeLine) (h : ∀ h' t', h'.Ns1 dx (fun y => if y = name then some v else mA y) → Heap.SameBut dx s.heap h' → Q () { s with heap := h', toks := t' }) : wpAny (model prog w) A (setAttr (.ref x) name v) Q E s := by
 obtain ⟨vs, hvs⟩ := hf
 obtain ⟨oc, od, odt, osl⟩ := ox
 dsimp only at hc hdx hvs
 subst hc hdx hvs
 obtain ⟨oD0, esD0, epD0, hoD0, _⟩ := id hn
 have J : InstAt s.heap x _ C (some oD0) := ⟨hx, rfl, rfl, hoD0⟩
 refine set_plain X J G.sa (oU (s := { s with toks := s.toks + 1 }) X J G ?_)
 obtain ⟨cd, hcc, hd'⟩ := any_some G.hd
 refine wpAny_bind (wpAny_pure (wpAny_bind (wpAny_bind (wpAny_loadPart hx (wpAny_bind (Looks.here (s := { s with toks := s.toks + 1 }) (looks_clsIn X hcc) ?_))))))
 rw [hd']
 refine wpAny_pure (a := some dx) (wpAny_bind (wpAny_pure (wpAny_bind ?_)))
 refine wpAny_nsSet1 (s := { s with toks := s.toks + 1 }) hn fun h' hn2 hs2 => ?_
 obtain ⟨oD, esD, epD, hoD, hdD, hcD⟩ := hn2.count (Within.cons name v hw)
 refine wpAny_bind (wpAny_lookBehind hoD (by rw [hdD]; exact pastItsLine_dict (Nat.le_trans hcD (by rw [List.length_cons]; omega))) ?_)
 exact wpAny_pure (h _ _ hn2 hs2)
theorem uo {ox : Obj} {Q : Unit → Shared → Prop} (X : K.In s.heap) (hx : s.heap.get? x = some ox) (hc : ox.cls = .ref C) (hdx : ox.dict = none) (hf : ∃ vs, ox.data = .fields vs) (G : eU K C name)
  (h : ∀ h' t', h'.get? x = some { ox with dict := some s.heap.objs.size } → h'.Ns1 s.heap.objs.size (fun y => if y = name then some v else none) → (∀ b o, b ≠ x → s.heap.get? b = some o → h'.get? b = some o) → Q () { s with heap := h', toks := t' }) :
  wpAny (model prog w) A (setAttr (.ref x) name v) Q E s := by
 obtain ⟨vs, hvs⟩ := hf
 obtain ⟨oc, od, odt, osl⟩ := ox
 dsimp only at hc hdx hvs
 subst hc hdx hvs
 have J : InstAt s.heap x _ C none := ⟨hx, rfl, rfl, trivial⟩
 refine set_plain X J G.sa (oU (s := { s with toks := s.toks + 1 }) X J G ?_)
 obtain ⟨cd, hcc, hd'⟩ := any_some G.hd
 refine wpAny_bind (wpAny_pure (wpAny_bind (wpAny_bind (wpAny_loadPart hx (wpAny_bind (Looks.here (s := { s with toks := s.toks + 1 }) (looks_clsIn X hcc) ?_))))))
 rw [hd']
 show wpAny _ _ (alloc { cls := .type "dict", data := .dict #[] } >>= fun d => update x (fun o => { o with dict := some d }) >>= fun _ => pure (some d)) _ _ _
 have xs : x ≠ s.heap.objs.size := Nat.ne_of_lt (Heap.lt_size hx)
 have hx1 : (s.heap.push { cls := .type "dict", data := .dict #[] }).get? x = some _ := Heap.get?_push_of_some _ hx
 refine wpAny_bind (wpAny_alloc' (wpAny_bind (wpAny_update' hx1 (wpAny_pure ?_))))
 generalize hh2 : ((s.heap.push { cls := .type "dict", data := .dict #[] }).update x fun o => { o with dict := some s.heap.objs.size }) = h2
 have hx2 : h2.get? x = some ⟨.ref C, some s.heap.objs.size, .fields vs, osl⟩ := by rw [← hh2]; exact Heap.get?_update_self _ hx1 rfl
 have hd2 : h2.get? s.heap.objs.size = some { cls := .type "dict", data := .dict #[] } := by rw [← hh2]; exact (Heap.get?_update_ne _ _ _ _ xs.symm).trans (Heap.get?_push_at rfl rfl)
 have k2 : ∀ b o, b ≠ x → s.heap.get? b = some o → h2.get? b = some o := fun b o nb e => by rw [← hh2]; exact (Heap.get?_update_ne _ _ _ _ nb).trans (Heap.get?_push_of_some _ e)
 have n2 : h2.Ns s.heap.objs.size (fun _ => none) := ⟨_, #[], _, hd2, rfl, fun e he => absurd he (by simp), fun _ => rfl⟩
 show wpAny _ _ (storeInDict s.heap.objs.size (.str name s.toks) name v) _ _ { s with heap := h2, toks := s.toks + 1 }
 unfold storeInDict newKeyGuard
 refine wpAny_bind (wpAny_pure (wpAny_bind (wpAny_nsSet1 (s := { s with heap := h2, toks := s.toks + 1 }) (Heap.Ns1.of_empty n2) fun h' hn' hs => ?_)))
 obtain ⟨oD, esD, epD, hoD, hdD, hcD⟩ := hn'.count (Within.cons name v Within.nil)
 refine wpAny_bind (wpAny_lookBehind hoD (by rw [hdD]; exact pastItsLine_dict (Nat.le_trans hcD (by rw [List.length_cons, List.length_nil, sizeLine_eq]; omega))) ?_)
 exact wpAny_pure (h _ _ ((hs.2 x xs).trans hx2) hn' fun b o nb e => (hs.2 b (Nat.ne_of_lt (Heap.lt_size e))).trans (k2 b o nb e))
end
end HT
namespace HT
open PySem PySem.W PyProof.Rows
open Builtin Builtin.ObjectAttr
section
variable {prog : Program} {w : World} {A : Around} {E : Value → Shared → Prop} {h : Heap} {g : Array GenState} {d : Drawn} {t : Nat} {os : OsState} {K : Frag} {a C : Addr} {o : Obj} {od : Option Obj} {name : Str} {v : Value}
theorem tV {tk : Tok} {Q : Fin → Shared → Prop} (X : K.In h) (I : InstAt h a o C od) (hf : findObj K C od name = some (.value v)) (hq : Q (.done (.ret v)) ⟨h, g, d, t, os⟩) :
  wpAny (model prog w) A (Builtin.«object.__getattribute__» ⟨[.ref a, .str name tk], []⟩) Q E ⟨h, g, d, t, os⟩ := by
 have L0 := I.type (M := model prog w)
 have L1 := looks_find (M := model prog w) X I hf
 unfold Builtin.«object.__getattribute__»
 refine wpAny_bind (wpAny_pure (wpAny_bind (wpAny_pure (wpAny_bind (L0.at (wpAny_bind (L1.at ?_)))))))
 exact wpAny_pure hq
theorem xz {tk : Tok} {R : Result → Shared → Prop} (X : K.In h) (G : L2.iF K C) (I : InstAt h a o C od) (hf : findObj K C od name = some (.value v)) (hq : R (.ok (.ret v)) ⟨h, g, d, t, os⟩) :
  codeAny (model prog w) A (.call (.builtin "BaseException.__getattribute__") ⟨[.ref a, .str name tk], []⟩) R ⟨h, g, d, t, os⟩ :=
 codeAny_call_builtin F.excAttr_ValueError.ga.plain F.entry_bexc_ga (L2.ur X G I.at_ I.cls (tV X I hf hq))
theorem CS {tk : Tok} {fill expr : Bool} {Q : Value → Shared → Prop} (X : K.In h) (G : L2.iF K C) (I : InstAt h a o C od) (hf : findObj K C od name = some (.value v)) (hh : handedIn v = true) (hq : Q v ⟨h, g, d, t, os⟩) :
  wpAny (model prog w) A (getAttrBy (.ref a) (.str name tk) fill expr) Q E ⟨h, g, d, t, os⟩ := by
 have f3 := F.excAttr_ValueError.ga.bind (.ref a)
 have L0 := I.type (M := model prog w)
 have L1 := looks_findIn (M := model prog w) X G.ga
 have L2' := looks_findIn (M := model prog w) X G.na
 have hx2 : (Value.builtin "BaseException.__getattribute__" == Value.builtin "object.__getattribute__") = false := by decide +kernel
 have hx0 : (expr && onTheHeap (Value.builtin "BaseException.__getattribute__")) = false := by cases expr <;> rfl
 unfold getAttrBy
 refine wpAny_holding (wpAny_bind (L0.at (wpAny_bind (L1.at ?_))))
 show wpAny _ _ (if (onTheHeap (Value.ref C) && Value.builtin "BaseException.__getattribute__" == Value.builtin "object.__getattribute__") = true then _ else _) _ _ _
 rw [hx2, Bool.and_false, if_neg Bool.false_ne_true]
 unfold getAttrByItsOwn
 refine wpAny_bind ?_
 show wpAny _ _ (typeLookup (.ref C) "__getattr__") _ _ _
 refine L2'.at (wpAny_bind (wpAny_attempt (wpAny_holding ?_)))
 unfold callGetattribute
 rw [hx0, if_neg Bool.false_ne_true]
 unfold boundAndCalled
 rw [f3]
 refine wpAny_bind (wpAny_pure (wpAny_call (xz X G I hf ?_)))
 show wpAny _ _ (handedOut v) _ _ _
 rw [handedOut_of hh]; exact wpAny_pure hq
theorem xl {dx : Addr} {mA : Str → Option Value} {expr : Bool} {Q : Value → Shared → Prop} (X : K.In h) (hx : h.get? a = some o) (hc : o.cls = .ref C) (hdx : o.dict = some dx) (hfl : ∃ vs, o.data = .fields vs) (hn : h.Ns1 dx mA) (G : eU K C name)
  (hv : mA name = some v) (hh : handedIn v = true) (hq : Q v ⟨h, g, d, t + 1, os⟩) : wpAny (model prog w) A (getAttr (.ref a) name expr) Q E ⟨h, g, d, t, os⟩ := by
 obtain ⟨vs, hvs⟩ := hfl
 obtain ⟨oc, odd, odt, osl⟩ := o
 dsimp only at hc hdx hvs
 subst hc hdx hvs
 obtain ⟨od, ho, hl⟩ := L2.kW hn
 have J : InstAt h a _ C (some od) := ⟨hx, rfl, rfl, ho⟩
 unfold getAttr
 exact wpAny_bind (wpAny_mkText (CS X G.eg J (findObj_own G.hd G.no rfl (by rw [hl, hv])) hh hq))
end
end HT
namespace L2
open PySem PySem.Spec PyProof.Rows
def eI (C a : Addr) (d : Option Addr) : HO := .ext fun h => ∃ t, h.get? a = some (HT.jx C t d)
theorem pw {P : Program} {w : World} {H : Hp} {h : Heap} {C a t : Addr} {d : Option Addr} (e : h.get? a = some (HT.jx C t d)) : aR P w H h a (eI C a d) := ⟨⟨t, e⟩, ⟨_, e⟩, fun h1 h2 ⟨t1, e1⟩ k => ⟨t1, k _ e1⟩⟩
theorem kJ {P : Program} {w : World} {H : Hp} {h : Heap} {C a : Addr} {d : Option Addr} (x : aR P w H h a (eI C a d)) : ∃ t, h.get? a = some (HT.jx C t d) := x.1
def fV (fs : List (Str × V)) (dx : Addr) : HO := .ext fun h => ∃ mA, h.Ns1 dx mA ∧ ∀ f, bS (fs.lookup f) (mA f)
theorem oZ {P : Program} {w : World} {H : Hp} {h : Heap} {dx : Addr} {fs : List (Str × V)} {mA : Str → Option Value} (n : h.Ns1 dx mA) (r : ∀ f, bS (fs.lookup f) (mA f)) : aR P w H h dx (fV fs dx) := by
 refine ⟨⟨mA, n, r⟩, ?_, fun h1 h2 ⟨m1, n1, r1⟩ k => ⟨m1, ?_, r1⟩⟩
 · obtain ⟨o, es, ep, e, _⟩ := n
   exact ⟨o, e⟩
 · obtain ⟨o, es, ep, e, c⟩ := n1
   exact ⟨o, es, ep, k _ e, c⟩
theorem pi {P : Program} {w : World} {H : Hp} {h : Heap} {dx : Addr} {fs : List (Str × V)} (x : aR P w H h dx (fV fs dx)) : ∃ mA, h.Ns1 dx mA ∧ ∀ f, bS (fs.lookup f) (mA f) := x.1
theorem oA {fs : List (Str × V)} {mA : Str → Option Value} (r : ∀ f, bS (fs.lookup f) (mA f)) : PySem.Within mA (fs.map (·.1)) := fun y h => by
  have ry := r y
  cases e : fs.lookup y with
  | none =>
    rw [e] at ry
    cases q : mA y with
    | none => exact absurd q h
    | some u => rw [q] at ry; exact ry.elim
  | some v =>
    have : ∀ (l : List (Str × V)), l.lookup y = some v → y ∈ l.map (·.1) := by
      intro l
      induction l with
      | nil => intro z; cases z
      | cons p l ih =>
        intro z
        obtain ⟨k, x⟩ := p
        rw [List.lookup_cons] at z
        by_cases hk : (y == k) = true
        · rw [List.map_cons]; exact List.mem_cons.mpr (.inl (beq_iff_eq.mp hk))
        · rw [Bool.not_eq_true] at hk
          rw [hk] at z
          exact List.mem_cons_of_mem _ (ih z)
    exact this fs e
def qY (K : W.Frag) (C : Addr) (ta tv : TE) (f : Str) : TS := fun D σ H => tv σ H fun y H1 => ta σ H1 fun x H2 => ∃ a, x = .ref a ∧ HT.eU K C f ∧
  ((H2 a = some (eI C a none) ∧ ∀ dx, H2 dx = none → dx ≠ a → D.nx σ (upd (upd H2 a (eI C a (some dx))) dx (fV [(f, y)] dx))) ∨
   (∃ dx fs, H2 a = some (eI C a (some dx)) ∧ H2 dx = some (fV fs dx) ∧ dx ≠ a ∧ fs.length < 1000 ∧ D.nx σ (upd H2 dx (fV (da f y fs) dx))))
def qd (K : W.Frag) (ta : TE) (f : Str) : TE := fun σ H Q => ta σ H fun x H1 => ∃ a C dx fs v, x = .ref a ∧ H1 a = some (ki C (some dx) a) ∧ H1 dx = some (fV fs dx) ∧ HT.eU K C f ∧ fs.lookup f = some v ∧ Q v H1
section
variable {X : Cx} {o value : Expr} {ta tv : TE} {f : Str} {pos pos' : Pos} {C : Addr}
theorem sJ (ho : QE X o ta) (hv : QE X value tv) (hs : swapsWith value (some (.Attribute o f pos')) pos.line X.env = pure false := by rfl) : QS X (.Assign [.Attribute o f pos'] value pos) (qY X.K C ta tv f) := by
 refine ⟨fun pins s σ H D I h => ?_⟩
 refine plainObj_wpAny_Assign_Attribute (thn (hv.out pins s σ H _ I h) fun u s1 ⟨y, H1, I1, ry, q⟩ => thn (ho.out pins s1 σ H1 _ I1 q) fun ov s2 ⟨x, H2, I2, rx, a, ex, G, q2⟩ => ?_) hs
 subst ex
 obtain rfl : ov = Value.ref a := rx
 rcases q2 with ⟨ea, q2⟩ | ⟨dx, fs, ea, ed, ne, hl, q2⟩
 · obtain ⟨t, et⟩ := kJ (P := X.prog) (w := X.w) (I2.hok a _ ea)
   refine HT.uo I2.kIn et rfl rfl ⟨_, rfl⟩ G fun h' t' e1 e2 k => ?_
   have I3 : Inv X pins σ (upd H2 a (eI C a (some s2.heap.objs.size))) { s2 with heap := h', toks := t' } := I2.write (x := a) (e := a) (by rw [ea]; exact True.intro) (.inl rfl) (fun b u nb e => k b u nb e) ⟨_, e1⟩ (pw e1)
   have na : s2.heap.objs.size ≠ a := Nat.ne_of_gt (Heap.lt_size et)
   have hn : upd H2 a (eI C a (some s2.heap.objs.size)) s2.heap.objs.size = none := by rw [ak na]; exact I2.hok.fresh (Nat.le_refl _)
   exact ⟨σ, _, Inv.track2 I2 I3 (Nat.le_refl _) hn (oZ e2 fun g => by
    show bS (List.lookup g [(f, y)]) (if g = f then some u else none)
    by_cases hg : g = f
    · rw [if_pos hg, hg]
      simp only [List.lookup, beq_self_eq_true]; exact ry
    · have hb : (g == f) = false := beq_eq_false_iff_ne.mpr hg
      rw [if_neg hg]
      simp only [List.lookup, hb]; exact True.intro), q2 _ (I2.hok.fresh (Nat.le_refl _)) na⟩
 · obtain ⟨t, et⟩ := kJ (P := X.prog) (w := X.w) (I2.hok a _ ea)
   obtain ⟨mA, n1, r1⟩ := pi (P := X.prog) (w := X.w) (I2.hok dx _ ed)
   refine HT.yc (ns := fs.map (·.1)) I2.kIn et rfl rfl ⟨_, rfl⟩ n1 ne G (oA r1) (by rw [List.length_map, sizeLine_eq]; omega) fun h' t' e2 sb => ?_
   have hd : ∃ u, h'.get? dx = some u := let ⟨o, _, _, e', _⟩ := e2; ⟨o, e'⟩
   exact ⟨σ, _, I2.write (x := dx) (e := dx) (by rw [ed]; exact True.intro) (.inl rfl) (fun b u nb e => (sb.2 b nb).trans e) hd (oZ e2 fun g => by
    rw [fR]
    by_cases hg : g = f
    · rw [if_pos hg, if_pos hg]; exact ry
    · rw [if_neg hg, if_neg hg]; exact r1 g), q2⟩
theorem sf (he : QE X o ta) (hb : attributeBase o f X.env (eval o X.env) = eval o X.env := by rfl) : QE X (.Attribute o f pos) (qd X.K ta f) := by
 refine ⟨fun pins s σ H Q I h => ?_⟩
 refine oV hb (thn (he.out pins s σ H _ I h) fun u s1 ⟨x, H1, I1, rx, a, C, dx, fs, v, ex, ea, ed, G, l, q⟩ => ?_)
 subst ex
 obtain rfl : u = Value.ref a := rx
 obtain ⟨oe, vs, e1, e2, e3, e4⟩ := xS (P := X.prog) (w := X.w) (I1.hok a _ ea)
 obtain ⟨mA, n1, r1⟩ := pi (P := X.prog) (w := X.w) (I1.hok dx _ ed)
 obtain ⟨u, hu, ru⟩ := bS.some_of (v := v) (o := mA f) (by rw [← l]; exact r1 f)
 obtain ⟨hp, g, d, tk, os⟩ := s1
 exact HT.xl I1.kIn e1 e2 e3 ⟨_, e4⟩ n1 G hu (lh ru) ⟨v, H1, I1.tok _, ru, q⟩
end
def ib (a : Addr) (H : Hp) : Hp := fun b => if b = a then none else H b
theorem ip {a : Addr} {H : Hp} : ib a H a = none := by unfold ib; rw [if_pos rfl]
theorem dA {a b : Addr} {H : Hp} (h : b ≠ a) : ib a H b = H b := by unfold ib; rw [if_neg h]
theorem HOk.off {P : Program} {w : World} {H : Hp} {h : Heap} {a : Addr} {φ : Heap → Prop} (k : HOk P w H h) (ha : H a = some (.ext φ)) : HOk P w (ib a H) h := fun b o e => by
 by_cases hb : b = a
 · subst hb; rw [ip] at e; cases e
 · rw [dA hb] at e
   exact (k b o e).stay (fun c u _ q => q) (fun c q => by rw [dA (fun z => by rw [z, ha] at q; cases q)]; exact q) fun c xs q => by rw [dA (fun z => by rw [z, ha] at q; cases q)]; exact q
theorem Un.off {fs : List Addr} {H H' : Hp} {h h' : Heap} {a : Addr} (u : Un fs [] H H' h h') (ha : H a = none) : Un fs [] H (ib a H') h h' where
 keep := u.keep
 slot := u.slot
 free := fun b o e n hx => by
  by_cases hb : b = a
  · rw [hb]; exact ip
  · rw [dA hb]; exact u.free b o e n hx
 there := u.there
 tups := fun b xs e => by rw [dA (ar e ha)]; exact u.tups b xs e
 frzs := fun b o v e => by rw [dA (ar e ha)]; exact u.frzs b o v e
 tbls := fun b ps e => by rw [dA (ar e ha)]; exact u.tbls b ps e
end L2
namespace HT
open PySem PyProof.Rows
section
variable {M : Model} {A : Around} {E : Value → Shared → Prop} {env : Env} {K : W.Frag} {C : Addr}
theorem rn {s : Shared} {x : Sem Value} {Q : Flow → Shared → Prop} (hC : L2.dg K C) (hh : A.handled = none)
  (h : wpAny M A x (fun v s₁ => ∃ e t d, v = .ref e ∧ K.In s₁.heap ∧ s₁.heap.get? e = some (jx C t d) ∧ E (.ref e) s₁) E s) : wpAny M A (raiseStmt env (some x) none) Q E s := by
 unfold raiseStmt
 refine wpAny_bind (wpAny_mono h (fun v s₁ h₁ => ?_) fun _ _ x => x)
 obtain ⟨e, t, d, rfl, X, he, hE⟩ := h₁
 obtain ⟨bm, N, nm, qn, bs, hdct, sn, sub, ab, col, dd, k0, k1, k2, k3, k5, mN, oC, hN, _, T, _⟩ := L2.gm X hC
 have hcB : (Value.ref C :: bm).contains (.type "BaseException") = true := by rw [List.contains_cons, T.hasType (X := "BaseException") (b := true) (by decide +kernel), Bool.or_true]
 obtain ⟨hp, g, dr, tk, os⟩ := s₁
 repeat (first | with_reducible refine wpAny_loadPart_at he ?_ | with_reducible refine wpAny_loadPart_at oC ?_ | (with_reducible refine wpAny_isSubtype_exc oC ?_; rw [hcB]) | wp_step)
 exact wpAny_raiseNew_none hh hE
theorem sH {prog : Program} {w : World} {A : Around} {K : W.Frag} {C f : Addr} {R : Result → Shared → Prop} {s : Shared} {us : List Value} (X : K.In s.heap) (hC : L2.dg K C) (hi : W.findIn K (.ref C) "__init__" = some (some (.ref f))) (hf : W.typeIn K (.ref f) = some (.type "function")) (hus : us.length ≤ sizeLine)
  (hq : codeAny (model prog w) (A.under (.builtin "type.__call__" ⟨.ref C :: us, []⟩)) (.call (.ref f) ⟨.ref (s.heap.objs.size + 1) :: us, []⟩) (W.InitBack (s.heap.objs.size + 1) R) { s with heap := fS s.heap C us }) :
  codeAny (model prog w) A (.call (.ref C) ⟨us, []⟩) R s := by
 obtain ⟨h, g, d, t, os⟩ := s
 exact tB X hC hi hf hus hq
end
end HT
namespace L2
open PySem PySem.Spec PyProof.Rows
def ph (C : Addr) (sp : Sp) (E : St → XK) (t : TA) : TS := fun _ σ H => t σ H fun vs H1 => ∀ a, H1 a = none → sp (.ref a :: vs) (upd H1 a (eI C a none)) (fun v H2 => v = .non ∧ ∃ d, H2 a = some (eI C a d) ∧ E σ (.ref C) d (ib a H2)) E0
structure wD (K : W.Frag) (C f : Addr) : Prop where
 ok : dg K C
 init : W.findIn K (.ref C) "__init__" = some (some (.ref f))
 fn : W.isFn K (.ref f) = true
 kp : W.keepIn K (.ref C) = true
section
variable {X : Cx} {k : Nat} {f C : Addr} {fd : FuncData} {ps : List Str} {sp : Sp} {E : St → XK} {x : Str} {np cpos pos : Pos} {e : Expr} {es : List Expr} {t : TA}
theorem uc (Y : wD X.K C f) (F : aV X.prog X.w X.K X.mg X.base (CX1 X.prog X.w) k f fd ps sp) (hr : bc (k + 1) X.A) (hb : bY X.K fd ps []) (hm : X.mg x = some (.ref C)) (hR : si X E) (ha : QA X (e :: es) t)
    (hc : X.calm = true := by rfl) (hg : Gl X x := by rfl) (hdb : (x == ("__debug__" : Str)) = false := by decide) (hs : aZ (e :: es) = true := by rfl) (hps : ps.length ≤ 1000 := by decide) : QS X (.Raise (some (.Call (.Name x np) (e :: es) [] cpos)) none pos) (ph C sp E t) := by
  refine ⟨fun pins s σ H D I h => ?_⟩
  have h' : (bL e && aZ es) = true := hs
  rw [arm_exec_Raise]
  refine wpAny_bind (wpAny_standAt (HT.rn Y.ok (I.ok.hd hc) ?_))
  refine wpAny_bind (wpAny_mono ?_ (fun v s₃ h₃ => wpAny_bind (wpAny_standAt (wpAny_pure h₃))) fun _ _ x => x)
  refine wpAny_Call_Name_kw (gs I hg hm ?_ hdb)
  refine W.callWith_K (h₀ := X.base) I.ok.mod.kin Y.kp (thn (ha.out cpos pins s σ H _ I h) fun us s1 ⟨vs, H1, I1, r, q⟩ => ⟨I1.kIn, ?_⟩) (aX (Bool.and_eq_true_iff.mp h').1 es X.env) (bJ (Bool.and_eq_true_iff.mp h').2)
  have ka : ∀ b u, s1.heap.get? b = some u → (HT.fS s1.heap C us).get? b = some u := fun b u eb => Heap.get?_push_of_some _ (Heap.get?_push_of_some _ eb)
  have ex : (HT.fS s1.heap C us).get? (s1.heap.objs.size + 1) = some (HT.jx C s1.heap.objs.size none) := by heap_get
  have hfr : H1 (s1.heap.objs.size + 1) = none := I1.hok.fresh (Nat.le_succ _)
  have I2 : Inv X pins σ (upd H1 (s1.heap.objs.size + 1) (eI C (s1.heap.objs.size + 1) none)) { s1 with heap := HT.fS s1.heap C us, toks := s1.toks } := I1.laid ka (Nat.le_succ _) (pw ex)
  have hq := q (s1.heap.objs.size + 1) hfr
  have r2 : aK (V.ref (s1.heap.objs.size + 1) :: vs) (Value.ref (s1.heap.objs.size + 1) :: us) := .cons rfl r
  have hl : (Value.ref (s1.heap.objs.size + 1) :: us).length = ps.length := by rw [← r2.length]; exact F.len _ _ _ _ hq
  have hb' := hb { s1 with heap := HT.fS s1.heap C us } (Value.ref (s1.heap.objs.size + 1) :: us) I2.kIn (by rw [List.append_nil]; exact hl)
  rw [List.append_nil] at hb'
  have husz : us.length ≤ sizeLine := by
    rw [List.length_cons] at hl
    rw [sizeLine_eq]; omega
  refine wpAny_call (HT.sH I1.kIn Y.ok Y.init (beq_iff_eq.mp Y.fn) husz (codeAny_mono (F.run _ X.stack _ _ ⟨Value.ref (s1.heap.objs.size + 1) :: us, []⟩ (Value.ref (s1.heap.objs.size + 1) :: us) _ _ _ (hr.make C us []) (I2.env0.make C us []) hb' r2 hq) fun rr s' hq' => ?_))
  cases rr with
  | error e' =>
    obtain ⟨_, _, _, _, _, _, z⟩ := hq'
    exact z.elim
  | ok fl =>
    cases fl with
    | next => exact False.elim hq'
    | brk => exact False.elim hq'
    | cont => exact False.elim hq'
    | ret u =>
      obtain ⟨v, H', os, bare, un, hok, rv, rfl, d, hd, hE⟩ := hq'
      obtain ⟨t, et⟩ := kJ (P := X.prog) (w := X.w) (hok _ _ hd)
      have u1 : Un (frs X.stack) [] H1 H' s1.heap s'.heap := (Un.laid (o := eI C (s1.heap.objs.size + 1) none) ka (Nat.le_succ _) hfr).trans un
      have kin : X.K.In s'.heap := by
        have I3 : Inv X pins σ H' s' := I1.call' (ch := []) os u1 hok bare fun b z => absurd z (by simp)
        exact I3.kIn
      refine ⟨rv, s1.heap.objs.size + 1, t, d, rfl, kin, et, hR pins σ H1 s1 C (s1.heap.objs.size + 1) d (ib (s1.heap.objs.size + 1) H') s' I1 ⟨os, bare, u1.off hfr, hok.off hd, Heap.get?_none_of_le (Nat.le_succ _), ip, ⟨_, _, .ref t, et, rfl, rfl, rfl, rfl, rfl⟩⟩ hE⟩
end
end L2
namespace HT
open PySem PySem.Spec PyProof.Rows
theorem sh : typeLookup (.type "reversed") "__len__" = pure none := by rw [typeLookup_type, builtinLookup_eq_fast]; kernel_rfl
theorem uA : typeLookup (.type "reversed") "__length_hint__" = pure (some (.builtin "reversed.__length_hint__")) := by rw [typeLookup_type, builtinLookup_eq_fast]; kernel_rfl
theorem gW : Slot "reversed" "__length_hint__" "reversed.__length_hint__" :=
 .of (owner := "reversed") (n := "__length_hint__") (by rw [typeLookup_type, builtinLookup_eq_fast]; kernel_rfl) (by decide +kernel) (by decide +kernel) (by decide +kernel)
  (by first | exact .inl (by decide +kernel) | exact .inr (by decide +kernel)) (by rw [isSubtype_type]; kernel_rfl)
theorem kN : entryFor table "reversed.__length_hint__" = some Builtin.«reversed.__length_hint__» := entryFor_of_tree (by kernel_rfl)
theorem lJ (a : Value) : argsOk "reversed.__length_hint__" ⟨[a], []⟩ := by
 unfold argsOk; rw [signature?_of (id := "reversed.__length_hint__") (n := "__length_hint__".toList.reverse) (o := ['d', 'e', 's', 'r', 'e', 'v', 'e', 'r']) (by kernel_rfl) iq]; kernel_rfl
theorem lL {prog : Program} {w : World} {A : Around} {E : Value → Shared → Prop} {s : Shared} {it t : Addr} {items : Array Value} {Q : Value → Shared → Prop} (hit : fo s.heap it t ((items.size : Int) - 1)) (ht : IsTup s.heap t items) (hz : (items.size : Int) < 2 ^ 63)
  (h : ∀ tk tk', s.toks ≤ tk → Q (.int items.size tk') { s with toks := tk }) : wpAny (model prog w) A (call (.builtin "reversed.__length_hint__") [.ref it]) Q E s := by
 refine wpAny_call_entry gW hit.typeIs kN ?_ (lJ _)
 unfold Builtin.«reversed.__length_hint__»
 refine wpAny_bind (wpAny_of_eq (a := Value.ref it) rfl ?_)
 refine wpAny_bind (wpAny_field hit rfl (x := .ref t) rfl ?_)
 rw [if_neg (by simp)]
 refine wpAny_bind (len_tuple ht hz ?_)
 refine wpAny_bind (wpAny_of_eq (a := some ((items.size : Nat) : Int)) rfl ?_)
 try dsimp only
 refine wpAny_bind (wpAny_field (s := { s with toks := s.toks + 1 + 1 }) hit rfl (x := rawInt ((items.size : Int) - 1)) rfl ?_)
 show wpAny _ _ (if (items.size : Int) < (items.size : Int) - 1 + 1 then _ else _) _ _ _
 rw [if_neg (by omega), show (items.size : Int) - 1 + 1 = items.size from by omega]
 refine wpAny_bind (wpAny_mkInt ?_)
 exact wpAny_pure ⟨_, rfl, h _ _ (by show s.toks ≤ s.toks + 1 + 1 + 1; omega)⟩
theorem nH {prog : Program} {w : World} {A : Around} (hh : A.handled = none) (I t : Addr) (hne : t ≠ I) (items : Array Value) (hz : (items.size : Int) < 2 ^ 63) :
  Walks prog w A I [I, t] [I] items.size (fun i v => items[items.size - 1 - i]? = some v) (fun i h => i ≤ items.size ∧ fo h I t ((items.size : Int) - 1 - (i : Int)) ∧ IsTup h t items) where
 sub := fun b hb => by simp at hb; simp [hb]
 frame := fun _ _ _ x hk => ⟨x.1, hk I (by simp) _ x.2.1, let ⟨o, ho, r⟩ := x.2.2; ⟨o, hk t (by simp) _ ho, r⟩⟩
 item := fun i s Q E hi x hQ => by
  have e : (items.size : Int) - 1 - (i : Int) = ((items.size - 1 - i : Nat) : Int) := by omega
  have hit := x.2.1
  rw [e] at hit
  have hx : items[items.size - 1 - i]? = some (items[items.size - 1 - i]'(by omega)) := Array.getElem?_eq_getElem (by omega)
  refine lT hit x.2.2 hz hx fun h' hit' hs' => ?_
  have e2 : ((items.size - 1 - i : Nat) : Int) - 1 = (items.size : Int) - 1 - ((i + 1 : Nat) : Int) := by omega
  rw [e2] at hit'
  exact hQ _ h' _ hx ⟨hi, hit', x.2.2.extBut hs'.extBut hne⟩ fun b o hb eo => hs'.extBut b o (fun h => hb (by simp [h])) eo
 done := fun s Q E x hQ => by
  have e : (items.size : Int) - 1 - (items.size : Int) = -1 := by omega
  have hit := x.2.1
  rw [e] at hit
  exact mT hh hit fun h' he' => hQ h' s.toks fun b o hb eo => he' b o (fun h => hb (by simp [h])) eo
 self := fun _ _ _ _ x hQ => tE x.2.1 hQ
section
variable {prog : Program} {w : World} {A : Around} {E : Value → Shared → Prop} {s : Shared} {I : Addr} {fp wr : List Addr} {G : Array GenState → Array GenState → Prop} {n : Nat} {P : Nat → Value → Prop} {St : Nat → Shared → Prop}
theorem oi {Q : List Value → Shared → Prop} (hH : ∀ (A' : Around) (s : Shared) (Q : Value → Shared → Prop) (E : Value → Shared → Prop), St 0 s → (∀ tk tk', s.toks ≤ tk → Q (.int n tk') { s with toks := tk }) → wpAny (model prog w) A' (call (.builtin "reversed.__length_hint__") [.ref I]) Q E s) (W : WalksS prog w A.in1 I fp wr G n P St) (hT : ∀ i s, St i s → s.TypeIs (.ref I) "reversed") (hst : St 0 s) (hfp : ∀ b ∈ fp, b < s.heap.objs.size) (hI : I ∈ fp)
   (hQ : ∀ s' acc, Moved wr G s s' → ItemsOf P acc n → Q acc.toList s') (hn : n ≤ sizeLine) : wpAny (model prog w) A (collect (.ref I)) Q E s := by
 have hSf : s.heap.objs.size ∉ fp := fun hm => Nat.lt_irrefl _ (hfp _ hm)
 have hSI : s.heap.objs.size ≠ I := fun e => hSf (e ▸ hI)
 unfold collect
 refine wpAny_bind (wpAny_runValue (codeAny_builtin F.entry_proto_collect ?_))
 rw [Around.under_plainId F.plain_proto_collect _]
 show wpAny _ A.in1 (newList [] >>= fun l => again (.builtin "list.__iadd__" ⟨[l, .ref I], []⟩)) _ _ s
 refine wpAny_bind (wpAny_newObj_type ?_)
 refine wpAny_pure ⟨plainId_quiet F.plain_list_iadd _, codeAny_builtin F.entry_list_iadd ?_⟩
 rw [Around.under_plainId F.plain_list_iadd _]
 have hst₁ := W.frame 0 s (s.heap.push { cls := .type "list", data := .seq ([] : List Value).toArray }) s.toks hst (Nat.le_refl _) fun b _ o e => Heap.get?_push_of_some _ e
 show wpAny _ A.in1 (Builtin.List.listExtendWith (.ref s.heap.objs.size) (.ref I) (.ref s.heap.objs.size)) _ _ _
 unfold Builtin.List.listExtendWith
 refine wpAny_bind (wpAny_typeOf (hT 0 _ hst₁) ?_)
 have h1 : Builtin.List.listSameRef (.ref s.heap.objs.size) (.ref I) = false := by simp [Builtin.List.listSameRef, hSI]
 rw [if_neg (by rw [h1]; decide)]
 refine wpAny_bind (W.self 0 _ _ _ hst₁ ?_)
 refine wpAny_bind (wpAny_holding ?_)
 unfold Builtin.List.listLengthHint
 refine wpAny_bind (wpAny_specialOf (hT 0 _ hst₁) sh ?_)
 show wpAny _ A.in1 (specialOf (Value.ref I) (Str.ofString "__length_hint__") >>= _) _ _ _
 refine wpAny_bind (wpAny_specialOf (hT 0 _ hst₁) uA ?_)
 generalize hid : ("reversed.__length_hint__" : String) = id0
 wp_delta
 rw [show splitId id0 = some ("reversed", "__length_hint__") from by subst hid; decide +kernel]
 subst hid
 refine wpAny_bind (wpAny_isInstance (b := true) (hT 0 _ hst₁) (by rw [isSubtype_type]; kernel_rfl) ?_)
 rw [if_neg (by decide)]
 try dsimp only
 rw [if_neg (by decide +kernel)]
 refine wpAny_bind (wpAny_rule ?_)
 refine wpAny_bind (wpAny_of_eq (gW.bind _) ?_)
 try dsimp only
 refine wpAny_bind (wpAny_attempt (hH _ _ _ _ hst₁ fun tk tk' htk => ?_))
 show wpAny _ _ (asInt? (Value.int (n : Int) tk') >>= _) _ _ _
 rw [show asInt? (Value.int (n : Int) tk') = pure (some (n : Int)) from rfl]
 rw [pure_bind]
 try dsimp only
 rw [if_neg (by unfold Builtin.List.listFitsIndex; rw [sizeLine_eq] at hn; simp; omega)]
 try dsimp only
 rw [if_neg (by omega)]
 try dsimp only
 rw [if_neg (by unfold Builtin.List.listTooLong; simp; omega)]
 refine wpAny_pure ?_
 have hS₁ : (s.heap.push { cls := .type "list", data := .seq ([] : List Value).toArray }).get? s.heap.objs.size = some { cls := .type "list", data := .seq ([] : List Value).toArray } := Heap.get?_push_size _ rfl
 have key : ∀ (h : Heap) (c₁ : Nat), (∀ b o, b ≠ s.heap.objs.size → (s.heap.push { cls := .type "list", data := .seq ([] : List Value).toArray }).get? b = some o → h.get? b = some o) → h.get? s.heap.objs.size = some { cls := .type "list", data := .seq #[] c₁ } →
    codeAny (model prog w) A (.builtin "list.extend.loop" ⟨[.ref s.heap.objs.size, .ref I, .ref s.heap.objs.size], []⟩) (fun r s' => r = .ok (.ret (.ref s.heap.objs.size)) ∧ ∃ acc' c', Moved wr G s s' ∧ s'.heap.get? s.heap.objs.size = some { cls := .type "list", dict := none, data := .seq acc' c', slots := #[] } ∧ ItemsOf P acc' n) { s with heap := h, toks := tk } := by
   intro h c₁ hk hS
   refine codeAny_extend_loopS W hn _ hSf _ n 0 _ _ _ rfl (Nat.zero_le _) (W.frame 0 ({ s with heap := s.heap.push { cls := .type "list", data := .seq ([] : List Value).toArray } } : Shared) h tk hst₁ htk fun b hb o e => hk b o (fun z => hSf (z ▸ hb)) e) hS (ItemsOf.nil P) fun s' acc' c' hm hS' hacc => ?_
   refine ⟨rfl, acc', c', Moved.drop_new (o := { cls := .type "list", data := .seq ([] : List Value).toArray }) (tk := s.toks) (Moved.trans W.gtrans ((Moved.refl W.grefl).then_heap htk fun b o hb e => ?_) hm) (Nat.le_refl _), hS', hacc⟩
   exact hk b o (fun z => hb (by rw [z]; exact List.mem_cons_self)) e
 refine wpAny_ite_split (fun _ => ?_) (fun _ => wpAny_pure ⟨plainId_quiet F.plain_extend_loop _, codeAny_mono (key _ _ (fun b o _ e => e) hS₁) fun r s' hr => ?_⟩)
 · refine wpAny_bind (wpAny_rule ?_)
   refine wpAny_bind ?_
   show wpAny _ A.in1 (updateSeq s.heap.objs.size (·.push .none) >>= fun _ => updateSeq s.heap.objs.size (·.pop)) _ _ _
   refine wpAny_bind (wpAny_updateSeq hS₁ rfl ?_)
   have hS₂ := Heap.get?_update_self (Obj.mapSeq (·.push Value.none)) hS₁ rfl
   refine wpAny_updateSeq hS₂ rfl ?_
   have hS₃ := Heap.get?_update_self (Obj.mapSeq (·.pop)) hS₂ rfl
   refine wpAny_pure ⟨plainId_quiet F.plain_extend_loop _, codeAny_mono (key _ _ (fun b o hb e => (Heap.get?_update_other _ _ (Ne.symm hb)).trans ((Heap.get?_update_other _ _ (Ne.symm hb)).trans e)) hS₃) fun r s' hr => ?_⟩
   obtain ⟨rfl, acc', c', hm, hS', hacc⟩ := hr
   show wpAny _ A (load s.heap.objs.size >>= _) _ _ s'
   exact wpAny_bind (wpAny_load hS' (wpAny_pure (hQ s' acc' hm hacc)))
 · obtain ⟨rfl, acc', c', hm, hS', hacc⟩ := hr
   show wpAny _ A (load s.heap.objs.size >>= _) _ _ s'
   exact wpAny_bind (wpAny_load hS' (wpAny_pure (hQ s' acc' hm hacc)))
theorem kL {Q : Value → Shared → Prop} (hH : ∀ (A' : Around) (s : Shared) (Q : Value → Shared → Prop) (E : Value → Shared → Prop), St 0 s → (∀ tk tk', s.toks ≤ tk → Q (.int n tk') { s with toks := tk }) → wpAny (model prog w) A' (call (.builtin "reversed.__length_hint__") [.ref I]) Q E s) (W : WalksS prog w A.in1.in1.in1 I fp wr G n P St) (hT : ∀ i s, St i s → s.TypeIs (.ref I) "reversed") (hst : St 0 s) (hfp : ∀ b ∈ fp, b < s.heap.objs.size) (hI : I ∈ fp)
   (hQ : ∀ s' acc, Moved wr G s s' → ItemsOf P acc n → Q (.ref s'.heap.objs.size) { s' with heap := s'.heap.push { cls := .type "tuple", data := .seq acc } }) (hsz : n ≤ sizeLine) :
   wpAny (model prog w) A (call (.type "tuple") [.ref I]) Q E s := by
 refine callType_codes (Q₁ := fun obj s₁ => s₁.TypeIs obj "tuple" ∧ Q obj s₁) F.called_tuple (F.typeCall_tuple_1 _) F.entry_object_init ?_ fun obj s₁ h₁ => ?_
 · refine codeAny_of_tree ?_
   show wpAny _ A.in1.in1 (do checkBuiltinCall "tuple.__new__" ⟨[.type "tuple", .ref I], []⟩; again (.builtin "tuple.__new__" ⟨[.type "tuple", .ref I], []⟩)) _ _ s
   refine wpAny_bind (wpAny_of_eq (F.newCall_tuple_1 _) (wpAny_pure ⟨plainId_quiet F.plain_tuple_new _, codeAny_builtin F.entry_tuple_new ?_⟩))
   rw [Around.under_plainId F.plain_tuple_new _]
   have hsub := sub_tuple_self
   have hinit := init_tuple_lookup
   have hmh := madeHere_tuple
   have hTI := hT 0 s hst
   wp_walk using wpAny_typeOf hTI, oi (hn := hsz) hH W hT hst hfp hI
   intro s' acc hm hacc
   show wpAny _ _ (Builtin.Tuple.tupleExact acc.toList.toArray >>= fun v => ret v) _ _ _
   unfold Builtin.Tuple.tupleExact
   refine wpAny_bind (wpAny_newObj_type ?_ (by show acc.toList.toArray.size ≤ sizeLine; simp only [Array.toArray_toList]; rw [hacc.1]; exact hsz))
   refine wpAny_pure ?_
   have e : acc.toList.toArray = acc := by simp
   rw [e]
   exact ⟨⟨_, Heap.get?_push_size _ rfl, rfl⟩, hQ s' acc hm hacc⟩
 · exact ⟨h₁.1, F.args_object_init_2 obj _, object_init_meets F.called_tuple.init.lookup F.called_tuple.made (by decide) prog w A.in1 _ s₁ ⟨h₁.1, rfl, h₁.2⟩⟩
end
end HT
namespace L2
open PySem PySem.Spec PyProof.Rows
def pd (K : W.Frag) : List V → Hp → VK → Prop := fun xs H Q => ∃ c ys, xs = [.ref c] ∧ SqT K H c ys ∧ ∀ l, H l = none → Q (.ref l) (upd H l (.tup ys.reverse))
section
variable {X : Cx} {pins : List (Addr × Obj)} {σ : St} {H : Hp} {s : Shared}
theorem xK {Q : VK} {c : Addr} {ys : List V} (hc : X.calm = true) (I : Inv X pins σ H s) (hq : SqT X.K H c ys) (q : ∀ l, H l = none → Q (.ref l) (upd H l (.tup ys.reverse))) :
   wpAny (model X.prog X.w) X.A (call (.type "reversed") [.ref c]) (fun u s2 => wpAny (model X.prog X.w) X.A (call (.type "tuple") [u]) (EP X pins σ Q) X.xe s2) X.xe s := by
 obtain ⟨its, r', pl, hz⟩ := I.tuple hq
 have hlen := r'.length
 have hz63 : (its.toArray.size : Int) < 2 ^ 63 := by rw [List.size_toArray]; rw [sizeLine_eq] at hz; omega
 refine HT.gZ (show IsTup s.heap c its.toArray from pl) hz63 ?_
 have hcs : c < s.heap.objs.size := pl.lt
 have hne : c ≠ s.heap.objs.size := Nat.ne_of_lt hcs
 have W := (HT.nH (prog := X.prog) (w := X.w) (A := X.A.in1.in1.in1) (I.ok.hd hc) s.heap.objs.size c hne its.toArray hz63).toS
 have hz' : its.toArray.size ≤ sizeLine := by rw [List.size_toArray]; omega
 have hsz : (s.heap.push (HT.nW c ((its.toArray.size : Int) - 1))).objs.size = s.heap.objs.size + 1 := Heap.size_push _ _
 refine HT.kL (s := { s with heap := s.heap.push (HT.nW c ((its.toArray.size : Int) - 1)), toks := s.toks + 1 + 1 }) (fun A' s3 Q' E' st h => HT.lL (by have := st.2.1; rwa [show (its.toArray.size : Int) - 1 - ((0 : Nat) : Int) = (its.toArray.size : Int) - 1 from by omega] at this) st.2.2 hz63 h) W (fun i s3 st => HT.fo.typeIs st.2.1) ⟨Nat.zero_le _, ?_, pl.push _⟩ (fun b hb => ?_) (by simp) (fun s' acc' hm hacc => ?_) hz'
 · show (s.heap.push _).get? _ = _
   have e : (its.toArray.size : Int) - 1 - ((0 : Nat) : Int) = (its.toArray.size : Int) - 1 := by omega
   rw [e]
   exact Heap.get?_push_size _ rfl
 · show b < (s.heap.push _).objs.size
   rw [hsz]
   rcases List.mem_cons.mp hb with z | z
   · rw [z]; exact Nat.lt_succ_self _
   · rw [List.mem_singleton.mp z]; exact Nat.lt_succ_of_lt hcs
 · have e1 : acc'.toList = its.reverse := by
     refine List.ext_getElem? fun j => ?_
     by_cases hj : j < its.length
     · have hj2 : j < acc'.size := by rw [hacc.1, List.size_toArray]; exact hj
       have ea : acc'[j]? = some acc'[j] := Array.getElem?_eq_getElem hj2
       have hp : its.toArray[its.toArray.size - 1 - j]? = some acc'[j] := hacc.2 j _ ea
       rw [Array.getElem?_toList, ea, List.getElem?_reverse hj, ← hp]
       simp
     · rw [List.getElem?_eq_none (by rw [Array.length_toList, hacc.1, List.size_toArray]; omega), List.getElem?_eq_none (by simp; omega)]
   have e2 : acc' = its.reverse.toArray := by rw [← e1]
   have hw : ∀ b o, s.heap.get? b = some o → s'.heap.get? b = some o := fun b o e => by
     have hb := Heap.lt_size e
     refine hm.heap b o (fun z => ?_) (Heap.get?_push_of_some _ e)
     rw [List.mem_singleton.mp z] at hb
     exact Nat.lt_irrefl _ hb
   have es : s' = { s with heap := s'.heap, toks := s'.toks } := by
     have h1 := hm.gens
     have h2 := hm.drawn
     have h3 := hm.os
     cases s'
     cases h1; cases h2; cases h3
     rfl
   have I1 : Inv X pins σ H s' := by rw [es]; exact I.kept hw
   have new : aR X.prog X.w (upd H s'.heap.objs.size (.tup ys.reverse)) (s'.heap.push { cls := .type "tuple", data := .seq acc' }) s'.heap.objs.size (.tup ys.reverse) := ⟨by rw [List.length_reverse]; exact hz, its.reverse, r'.reverse, by rw [e2]; exact IsTup.new _ _⟩
   exact ⟨.ref s'.heap.objs.size, upd H s'.heap.objs.size (.tup ys.reverse), I1.laid (t' := s'.toks) (fun b o e => Heap.get?_push_of_some _ e) (Nat.le_refl _) new, rfl, q _ (I1.hok.fresh (Nat.le_refl _))⟩
end
section
variable {X : Cx} {a : Expr} {t : TA} {p1 p2 pos1 pos2 : Pos}
theorem rO : bootBuiltins "tuple" = some (.type "tuple") := by decide +kernel
theorem ue (hm1 : X.mg "tuple" = none) (hm2 : X.mg "reversed" = none) (hc : X.calm = true) (ha : QA X [a] t) (hg1 : Gl X "tuple" := by rfl) (hg2 : Gl X "reversed" := by rfl) (hs : aZ [a] = true := by rfl) :
  QE X (.Call (.Name "tuple" p1) [.Call (.Name "reversed" p2) [a] [] pos2] [] pos1) (tCB (pd X.K) t) := ⟨fun pins s σ H Q I h => by
 have h' : (bL a && aZ []) = true := hs
 refine wpAny_Call_Name_kw (eA I hg1 hm1 rO ?_ (by decide) (by decide))
 refine PyProof.Rows.callWith_type1 ?_ rfl rfl
 show wpAny _ _ (spliced ((false, eval (.Call (.Name "reversed" p2) [a] [] pos2) X.env) :: backTo pos1 (starEach [] X.env))) _ _ s
 refine Calls.spliced_cons ?_
 refine wpAny_Call_Name_kw (eA I hg2 hm2 je ?_ (by decide) (by decide))
 refine PyProof.Rows.callWith_type1 (thn (ha.out pos2 pins s σ H _ I h) fun us s1 ⟨vs, H1, I1, r1, q1⟩ => ?_)
  (aX (Bool.and_eq_true_iff.mp h').1 [] X.env) (bJ (Bool.and_eq_true_iff.mp h').2)
 obtain ⟨c, ys, rfl, hq, q⟩ := q1
 obtain ⟨u, rfl, ru⟩ := fh r1
 cases ru
 refine wpAny_mono (xK hc I1 hq q) (fun u s2 z => ?_) fun _ _ z => z
 exact Calls.spliced_nil z⟩
end
end L2
namespace Rs
open PySem PySem.Spec PyProof.Rows L2
def qI (s : Stmt) (j : Nat) : Stmt := match s with
 | .ClassDef _ _ _ b _ _ _ _ _ _ _ => b.getD j (.Pass ⟨0, 0, 0, 0⟩)
 | _ => .Pass ⟨0, 0, 0, 0⟩
def top (i : Nat) : Stmt := PySem.Challenge.pw_rootstamp_k49_whole_one_paper_of_growth.main.body.getD i (.Pass ⟨0, 0, 0, 0⟩)
abbrev tP : Stmt := top 9
abbrev vv : Stmt := top 10
abbrev vP : Stmt := top 11
abbrev vm : Stmt := top 13
abbrev vB : Stmt := top 12
abbrev s_2 : Stmt := qI (top 32) 1
abbrev s_4 : Stmt := top 37
abbrev jq : Stmt := top 41
abbrev jo : Stmt := top 33
abbrev s_1 : Stmt := qI (top 32) 0
abbrev jv : Stmt := top 34
abbrev ji : Stmt := top 42
abbrev vk : Stmt := top 43
abbrev s_7 : Stmt := top 45
abbrev s_9 : Stmt := top 46
abbrev tK : Stmt := top 47
abbrev vI : Stmt := top 39
abbrev vc : Stmt := top 40
abbrev s_8 : Stmt := top 48
abbrev tu : Stmt := top 49
abbrev s_6 : Stmt := top 50
abbrev vi : Stmt := top 51
abbrev s_5 : Stmt := top 52
abbrev tU : Stmt := top 44
abbrev tT : Stmt := top 53
abbrev s_3 : Stmt := top 54
abbrev ub : Stmt := top 16
abbrev vg : Stmt := top 17
abbrev vd : Stmt := top 15
abbrev ve : Stmt := top 26
abbrev va : Stmt := top 18
abbrev uk : Stmt := top 20
abbrev ua : Stmt := top 24
abbrev uR : Stmt := top 29
abbrev uE : Stmt := top 28
abbrev tY : Stmt := top 27
abbrev uH : Stmt := top 21
abbrev ug : Stmt := top 22
abbrev s_0 : Stmt := qI (top 6) 0
abbrev km : Stmt := top 30
abbrev tD : Stmt := top 56
abbrev tI : Stmt := top 35
abbrev uK : Stmt := top 55
abbrev uV : Stmt := top 57
def sAt (i : Nat) (l : List Stmt) : Stmt := l.getD i (.Pass ⟨0, 0, 0, 0⟩)
def zm : Stmt → Expr | .Return (some e) _ => e | .Assign _ e _ => e | .Expr e _ => e | _ => .Constant .none 0 ⟨0, 0, 0, 0⟩
def iN : Expr → Expr | .Lambda _ b _ _ => b | e => e
def mW : Expr → Scope | .Lambda _ _ sc _ => sc | _ => { kind := .function, names := [], isGenerator := false, isCoroutine := false }
abbrev uX : Expr := (zm (sAt 0 (aQ jo)))
def eR : cQ := ⟨(("writing" : Str) ++ ".<locals>.") ++ "<lambda>", .expr (iN uX), mW uX, ["term"], []⟩
abbrev uj : Expr := (zm (sAt 1 (aQ jv)))
def fj : cQ := ⟨(("counting" : Str) ++ ".<locals>.") ++ "<lambda>", .expr (iN uj), mW uj, ["term"], ["numbers"]⟩
abbrev tz : Stmt := (sAt 0 (aQ jq))
def fc : cQ := ⟨(("_law_weak" : Str) ++ ".<locals>.") ++ "_law_stamp", .stmts (aQ tz), am tz, ["_law_term"], ["_law_many"]⟩
abbrev tR : Stmt := (sAt 0 (aQ ji))
def fm : cQ := ⟨(("_law_planted" : Str) ++ ".<locals>.") ++ "_law_stamp", .stmts (aQ tR), am tR, ["_law_term"], ["_law_step", "_law_known", "_law_alias"]⟩
set_option genInjectivity false in
set_option genSizeOf false in
abbrev Rd (sp : Sp) (t : TS) (N : List Str) : Prop := ∀ (vs : List V) (H : Hp) (Q : VK) (E : XK), sp vs H Q E → t { nx := fun _ H' => Q .non H', rt := Q } (L2.start N vs) H
abbrev Ln (sp : Sp) (n : Nat) : Prop := ∀ vs H Q E, sp vs H Q E → vs.length = n
structure Adr where
 a_39 : Addr
 d_39 : FuncData
 a_37 : Addr
 d_37 : FuncData
 a_38 : Addr
 d_38 : FuncData
 a_42 : Addr
 d_42 : FuncData
 a_47 : Addr
 d_47 : FuncData
 a_2 : Addr
 d_2 : FuncData
 a_4 : Addr
 d_4 : FuncData
 a_22 : Addr
 d_22 : FuncData
 a_45 : Addr
 d_45 : FuncData
 a_1 : Addr
 d_1 : FuncData
 a_27 : Addr
 d_27 : FuncData
 a_15 : Addr
 d_15 : FuncData
 a_18 : Addr
 d_18 : FuncData
 a_7 : Addr
 d_7 : FuncData
 a_9 : Addr
 d_9 : FuncData
 a_19 : Addr
 d_19 : FuncData
 a_20 : Addr
 d_20 : FuncData
 a_17 : Addr
 d_17 : FuncData
 a_8 : Addr
 d_8 : FuncData
 a_13 : Addr
 d_13 : FuncData
 a_6 : Addr
 d_6 : FuncData
 a_12 : Addr
 d_12 : FuncData
 a_5 : Addr
 d_5 : FuncData
 a_14 : Addr
 d_14 : FuncData
 a_11 : Addr
 d_11 : FuncData
 a_3 : Addr
 d_3 : FuncData
 a_34 : Addr
 d_34 : FuncData
 a_35 : Addr
 d_35 : FuncData
 a_33 : Addr
 d_33 : FuncData
 a_32 : Addr
 d_32 : FuncData
 a_24 : Addr
 d_24 : FuncData
 a_44 : Addr
 d_44 : FuncData
 a_40 : Addr
 d_40 : FuncData
 a_29 : Addr
 d_29 : FuncData
 a_43 : Addr
 d_43 : FuncData
 a_31 : Addr
 d_31 : FuncData
 a_36 : Addr
 d_36 : FuncData
 a_25 : Addr
 d_25 : FuncData
 a_0 : Addr
 d_0 : FuncData
 a_30 : Addr
 d_30 : FuncData
 a_21 : Addr
 d_21 : FuncData
 a_26 : Addr
 d_26 : FuncData
 a_10 : Addr
 d_10 : FuncData
 a_41 : Addr
 d_41 : FuncData
 k_22 : Addr
 t_22 : Addr
 k_45 : Addr
 t_45 : Addr
 k_27 : Addr
 t_27 : Addr
 k_15 : Addr
 t_15 : Addr
 c_Broken : Addr
 c_Numbers : Addr
set_option genInjectivity false in
set_option genSizeOf false in
structure Txt (K : W.Frag) (mg : Str → Option Value) (A : Adr) : Prop where
 f_39 : Fm K mg "is_whole" "is_whole" tP A.a_39 A.d_39 ["thing"]
 f_37 : Fm K mg "is_stamp" "is_stamp" vv A.a_37 A.d_37 ["thing"]
 f_38 : Fm K mg "is_term" "is_term" vP A.a_38 A.d_38 ["thing"]
 f_42 : Fm K mg "part_form" "part_form" vm A.a_42 A.d_42 ["part"]
 f_47 : Fm K mg "written" "written" vB A.a_47 A.d_47 ["term"]
 f_2 : Fun K "number_of" "Numbers.number_of" s_2 A.a_2 A.d_2
 b_2 : bY K A.d_2 ["self", "term"] []
 f_4 : Fm K mg "_law_cell_at" "_law_cell_at" s_4 A.a_4 A.d_4 ["_law_script", "_law_k"]
 f_22 : Fm K mg "_law_weak" "_law_weak" jq A.a_22 A.d_22 ["_law_many"]
 f_45 : Fm K mg "writing" "writing" jo A.a_45 A.d_45 []
 f_1 : Fun K "__init__" "Numbers.__init__" s_1 A.a_1 A.d_1
 b_1 : bY K A.d_1 ["self"] []
 f_27 : Fm K mg "counting" "counting" jv A.a_27 A.d_27 []
 f_15 : Fm K mg "_law_planted" "_law_planted" ji A.a_15 A.d_15 ["_law_known", "_law_alias", "_law_step"]
 f_18 : Fm K mg "_law_stamper" "_law_stamper" vk A.a_18 A.d_18 ["_law_way", "_law_cell", "_law_known", "_law_alias"]
 f_7 : Fm K mg "_law_count_by" "_law_count_by" s_7 A.a_7 A.d_7 ["_law_cell"]
 f_9 : Fm K mg "_law_elder_by" "_law_elder_by" s_9 A.a_9 A.d_9 ["_law_cell", "_law_count"]
 f_19 : Fm K mg "_law_steps" "_law_steps" tK A.a_19 A.d_19 ["_law_count", "_law_elder"]
 f_20 : Fm K mg "_law_text_by" "_law_text_by" vI A.a_20 A.d_20 ["_law_cell"]
 f_17 : Fm K mg "_law_stamp_by" "_law_stamp_by" vc A.a_17 A.d_17 ["_law_cell"]
 f_8 : Fm K mg "_law_dealt" "_law_dealt" s_8 A.a_8 A.d_8 ["_law_steps_here", "_law_marks"]
 f_13 : Fm K mg "_law_next" "_law_next" tu A.a_13 A.d_13 ["_law_count", "_law_steps_here", "_law_dealt_here", "_law_height", "_law_top"]
 f_6 : Fm K mg "_law_climb" "_law_climb" s_6 A.a_6 A.d_6 ["_law_stamper_here", "_law_count", "_law_elder", "_law_steps_here", "_law_marks", "_law_height"]
 f_12 : Fm K mg "_law_near" "_law_near" vi A.a_12 A.d_12 ["_law_mark"]
 f_5 : Fm K mg "_law_changed" "_law_changed" s_5 A.a_5 A.d_5 ["_law_kind", "_law_cell", "_law_marks"]
 f_14 : Fm K mg "_law_plant" "_law_plant" tU A.a_14 A.d_14 ["_law_known", "_law_alias", "_law_new", "_law_old"]
 f_11 : Fm K mg "_law_is_list" "_law_is_list" tT A.a_11 A.d_11 ["_law_found", "_law_due"]
 f_3 : Fm K mg "_law_are_lists" "_law_are_lists" s_3 A.a_3 A.d_3 ["_law_found", "_law_due"]
 f_34 : Fm K mg "is_count" "is_count" ub A.a_34 A.d_34 ["thing"]
 f_35 : Fm K mg "is_elder" "is_elder" vg A.a_35 A.d_35 ["count", "elder"]
 f_33 : Fm K mg "half" "half" vd A.a_33 A.d_33 ["many"]
 f_32 : Fm K mg "growth_turns" "growth_turns" ve A.a_32 A.d_32 ["count", "elder"]
 f_24 : Fm K mg "are_marks" "are_marks" va A.a_24 A.d_24 ["many", "thing"]
 f_44 : Fm K mg "void_terms" "void_terms" uk A.a_44 A.d_44 ["stamper"]
 f_40 : Fm K mg "joint" "joint" ua A.a_40 A.d_40 ["turn", "own", "aside"]
 f_29 : Fm K mg "grown_terms" "grown_terms" uR A.a_29 A.d_29 ["stamper", "count", "elder", "steps"]
 f_43 : Fm K mg "step_marks" "step_marks" uE A.a_43 A.d_43 ["turns", "marks"]
 f_31 : Fm K mg "growth_terms" "growth_terms" tY A.a_31 A.d_31 ["stamper", "count", "elder", "marks"]
 f_36 : Fm K mg "is_head" "is_head" uH A.a_36 A.d_36 ["thing"]
 f_25 : Fm K mg "check_head" "check_head" ug A.a_25 A.d_25 ["thing"]
 f_0 : Fun K "__init__" "Broken.__init__" s_0 A.a_0 A.d_0
 b_0 : bY K A.d_0 ["self", "due", "came"] []
 f_30 : Fm K mg "growth_answer" "growth_answer" km A.a_30 A.d_30 ["stamper", "head", "elder", "marks"]
 f_21 : Fm K mg "_law_told" "_law_told" tD A.a_21 A.d_21 ["_law_stamper_here", "_law_head", "_law_elder", "_law_marks"]
 f_26 : Fm K mg "clash" "clash" tI A.a_26 A.d_26 ["stamper", "terms"]
 f_10 : Fm K mg "_law_is_clash" "_law_is_clash" uK A.a_10 A.d_10 ["_law_stamper_here", "_law_terms", "_law_found"]
 f_41 : Fm K mg "law" "law" uV A.a_41 A.d_41 ["_law_script"]
 z_all : mg "all" = none
 z_bool : mg "bool" = none
 z_int : mg "int" = none
 z_isinstance : mg "isinstance" = none
 z_len : mg "len" = none
 z_list : mg "list" = none
 z_range : mg "range" = none
 z_reversed : mg "reversed" = none
 z_str : mg "str" = none
 z_tuple : mg "tuple" = none
 z_zip : mg "zip" = none
 c_MOST_PARTS : ∃ t, mg "MOST_PARTS" = some (.int 8 t)
 kc_22 : A.d_22.code = .ref A.k_22
 kc_45 : A.d_45.code = .ref A.k_45
 kc_27 : A.d_27.code = .ref A.k_27
 kc_15 : A.d_15.code = .ref A.k_15
 mc_Broken : mg "Broken" = some (.ref A.c_Broken)
 eo_Broken : dg K A.c_Broken
 eg_Broken : iF K A.c_Broken
 ef_Broken_came : HT.eU K A.c_Broken "came"
 ef_Broken_due : HT.eU K A.c_Broken "due"
 em_Broken : wD K A.c_Broken A.a_0
 sb_Broken_Broken : gG K A.c_Broken A.c_Broken = some true
 mc_Numbers : mg "Numbers" = some (.ref A.c_Numbers)
 cl_Numbers : Cls K A.c_Numbers
 na_Numbers_given : fF K A.c_Numbers "given"
 me_Numbers_number_of : vn K A.c_Numbers "number_of" A.a_2
 mk_Numbers : Mk K A.c_Numbers A.a_1
def wE (A : Adr) (H : Hp) : Prop := H A.t_22 = some (.tbl #[]) ∧ H A.t_45 = some (.tbl #[]) ∧ H A.t_27 = some (.tbl #[]) ∧ H A.t_15 = some (.tbl #[]) ∧ ([A.t_22, A.t_45, A.t_27, A.t_15] : List Addr).Nodup
theorem Cl : dL ["term"] ["term"] [] eR.scope := ⟨rfl, rfl, rfl, by decide +kernel, rfl, rfl, by decide +kernel, by decide +kernel, by decide +kernel, by decide +kernel, by decide +kernel⟩
theorem Bx : dL ["term", "numbers"] ["term"] ["numbers"] fj.scope := ⟨rfl, rfl, rfl, by decide +kernel, rfl, rfl, by decide +kernel, by decide +kernel, by decide +kernel, by decide +kernel, by decide +kernel⟩
theorem jS : dL ["_law_term", "_law_total", "_law_part", "_law_many"] ["_law_term"] ["_law_many"] fc.scope := ⟨rfl, rfl, rfl, by decide +kernel, rfl, rfl, by decide +kernel, by decide +kernel, by decide +kernel, by decide +kernel, by decide +kernel⟩
theorem CL : dL ["_law_term", "_law_step", "_law_known", "_law_alias"] ["_law_term"] ["_law_step", "_law_known", "_law_alias"] fm.scope := ⟨rfl, rfl, rfl, by decide +kernel, rfl, rfl, by decide +kernel, by decide +kernel, by decide +kernel, by decide +kernel, by decide +kernel⟩
theorem Bb : aF ["thing"] ["thing"] (am tP) := scF
theorem BE : aF ["thing"] ["thing"] (am vv) := scF
theorem BZ : aF ["thing"] ["thing"] (am vP) := scF
theorem wq : aF ["part", "signs"] ["part"] (am vm) := scF
theorem DJ : aF ["term"] ["term"] (am vB) := scF
theorem Ey : aF ["self", "term"] ["self", "term"] (am s_2) := scF
theorem DO : aF ["_law_script", "_law_k"] ["_law_script", "_law_k"] (am s_4) := scF
theorem wO : aF ["_law_many", "_law_stamp"] ["_law_many"] (am jq) := scF
theorem Be : aF [] [] (am jo) := scF
theorem DM : aF ["self"] ["self"] (am s_1) := scF
theorem we : aF ["numbers"] [] (am jv) := scF
theorem wN : aF ["_law_known", "_law_alias", "_law_step", "_law_stamp"] ["_law_known", "_law_alias", "_law_step"] (am ji) := scF
theorem CP : aF ["_law_way", "_law_cell", "_law_known", "_law_alias"] ["_law_way", "_law_cell", "_law_known", "_law_alias"] (am vk) := scF
theorem Eo : aF ["_law_cell"] ["_law_cell"] (am s_7) := scF
theorem EM : aF ["_law_cell", "_law_count"] ["_law_cell", "_law_count"] (am s_9) := scF
theorem gB : aF ["_law_count", "_law_elder", "_law_steps_here", "_law_cut"] ["_law_count", "_law_elder"] (am tK) := scF
theorem qt : aF ["_law_cell", "_law_some"] ["_law_cell"] (am vI) := scF
theorem Cf : aF ["_law_cell"] ["_law_cell"] (am vc) := scF
theorem jB : aF ["_law_steps_here", "_law_marks", "_law_dealt_here", "_law_low", "_law_high", "_law_step"] ["_law_steps_here", "_law_marks"] (am s_8) := scF
theorem DE : aF ["_law_count", "_law_steps_here", "_law_dealt_here", "_law_height", "_law_top"] ["_law_count", "_law_steps_here", "_law_dealt_here", "_law_height", "_law_top"] (am tu) := scF
theorem fW : aF ["_law_stamper_here", "_law_count", "_law_elder", "_law_steps_here", "_law_marks", "_law_height", "_law_dealt_here", "_law_younger", "_law_older", "_law_young", "_law_old", "_law_k"] ["_law_stamper_here", "_law_count", "_law_elder", "_law_steps_here", "_law_marks", "_law_height"] (am s_6) := scF
theorem BK : aF ["_law_mark"] ["_law_mark"] (am vi) := scF
theorem nQ : aF ["_law_kind", "_law_cell", "_law_marks", "_law_spot", "_law_thing", "_law_found"] ["_law_kind", "_law_cell", "_law_marks"] (am s_5) := scF
theorem Bz : aF ["_law_known", "_law_alias", "_law_new", "_law_old"] ["_law_known", "_law_alias", "_law_new", "_law_old"] (am tU) := scF
theorem vU : aF ["_law_found", "_law_due", "_law_one", "_law_other"] ["_law_found", "_law_due"] (am tT) := scF
theorem Fp : aF ["_law_found", "_law_due"] ["_law_found", "_law_due"] (am s_3) := scF
theorem AV : aF ["thing"] ["thing"] (am ub) := scF
theorem Br : aF ["count", "elder"] ["count", "elder"] (am vg) := scF
theorem Db : aF ["many"] ["many"] (am vd) := scF
theorem fO : aF ["count", "elder", "turns", "early", "rest", "ahead"] ["count", "elder"] (am ve) := scF
theorem Cq : aF ["many", "thing"] ["many", "thing"] (am va) := scF
theorem Cw : aF ["stamper"] ["stamper"] (am uk) := scF
theorem BH : aF ["turn", "own", "aside"] ["turn", "own", "aside"] (am ua) := scF
theorem fN : aF ["stamper", "count", "elder", "steps", "younger", "older", "top", "older_top", "step"] ["stamper", "count", "elder", "steps"] (am uR) := scF
theorem gF : aF ["turns", "marks", "steps", "first", "last", "turn"] ["turns", "marks"] (am uE) := scF
theorem pP : aF ["stamper", "count", "elder", "marks", "turns", "younger"] ["stamper", "count", "elder", "marks"] (am tY) := scF
theorem BQ : aF ["thing"] ["thing"] (am uH) := scF
theorem BT : aF ["thing"] ["thing"] (am ug) := scF
theorem Ez : aF ["self", "due", "came"] ["self", "due", "came"] (am s_0) := scF
theorem qG : aF ["stamper", "head", "elder", "marks", "terms", "came"] ["stamper", "head", "elder", "marks"] (am km) := scF
theorem iV : aF ["_law_stamper_here", "_law_head", "_law_elder", "_law_marks", "_law_caught", "_law_answer", "e"] ["_law_stamper_here", "_law_head", "_law_elder", "_law_marks"] (am tD) := scF
theorem mC : aF ["stamper", "terms", "firsts", "term", "ahead"] ["stamper", "terms"] (am tI) := scF
theorem BC : aF ["_law_stamper_here", "_law_terms", "_law_found"] ["_law_stamper_here", "_law_terms", "_law_found"] (am uK) := scF
theorem cC : aF ["_law_script", "_law_way", "_law_known", "_law_alias", "_law_stamper_here", "_law_count", "_law_elder", "_law_steps_here", "_law_one", "_law_ahead", "_law_mark", "_law_other", "_law_height", "_law_new", "_law_behind", "_law_came", "_law_marks", "_law_due", "_law_told_here", "_law_terms"] ["_law_script"] (am uV) := scF
end Rs
namespace Rs
open PySem PySem.Spec PyProof.Rows L2
inductive Dat where
 | non
 | bl (b : Bool)
 | int (i : Int)
 | str (z : Str)
 | lst (ds : List Dat)
 | tup (ds : List Dat)
 | dic
mutual
inductive dv (H : Hp) : V → Dat → Prop
 | non : dv H .non .non
 | bl (b) : dv H (.bl b) (.bl b)
 | int (i) : dv H (.int i) (.int i)
 | str (z) : dv H (.str z) (.str z)
 | lst {a xs ds} : H a = some (.lst xs) → DatWs H xs ds → dv H (.ref a) (.lst ds)
 | tup {a xs ds} : H a = some (.tup xs) → DatWs H xs ds → dv H (.ref a) (.tup ds)
 | dic {a} : ((∃ kvs, H a = some (.dK kvs)) ∨ ∃ kvs, H a = some (.dT kvs)) → dv H (.ref a) .dic
inductive DatWs (H : Hp) : List V → List Dat → Prop
 | nil : DatWs H [] []
 | cons {x xs d ds} : dv H x d → DatWs H xs ds → DatWs H (x :: xs) (d :: ds)
end
mutual
def EQ : Dat → PyData
 | .non => .none
 | .bl b => .bool b
 | .int i => .int i
 | .str z => .str z
 | .lst ds => .list (toPys ds)
 | .tup ds => .tuple (toPys ds)
 | .dic => .none
def toPys : List Dat → List PyData
 | [] => []
 | d :: r => EQ d :: toPys r
end
def ci (z : Str) : Bool := z.cps.all (· < 128)
mutual
def okD : Dat → Bool
 | .str z => ci z && decide (z.length ≤ 100000)
 | .lst ds => okDs ds
 | .tup ds => okDs ds
 | .dic => false
 | .non => true
 | .bl _ => true
 | .int _ => true
def okDs : List Dat → Bool
 | [] => true
 | d :: r => okD d && okDs r
end
def vN : Dat → Bool
 | .int _ => true
 | _ => false
def fD : Dat → Bool
 | .int i => decide (0 ≤ i ∧ i < 10 ^ 60)
 | .str _ => true
 | _ => false
def gO (K : W.Frag) (A : Adr) : Sp := fun vs H Q _ => ∃ v d, vs = [v] ∧ dv H v d ∧ Q (.bl (vN d)) H
def iH (K : W.Frag) (A : Adr) : Sp := fun vs H Q _ => ∃ v d, vs = [v] ∧ dv H v d ∧ Q (.bl (fD d)) H
def ku : Key → Dat
 | .inl i => .int i
 | .inr z => .str z
def szK : Key → Nat
 | .inl _ => 62
 | .inr z => z.length + 62
def okP : Key → Bool
 | .inl i => decide (0 ≤ i ∧ i < 10 ^ 60)
 | .inr z => ci z && decide (z.length ≤ 100000)
def Cz : Key → Bool
 | .inr _ => true
 | .inl _ => false
def okT (k : List Key) : Bool := decide (1 ≤ k.length ∧ k.length ≤ 8) && (k.head?.map Cz).getD false && k.all okP
def szT (k : List Key) : Nat := (k.map szK).sum
def pV (k : List Key) : Key → Prop
 | .inl i => 0 ≤ i ∧ i < 10 ^ 60
 | .inr z => ci z = true ∧ z.length ≤ szT k
def cn : Key → Str
 | .inl i => toString i ++ ";"
 | .inr z => toString (z.length : Int) ++ ":" ++ z
def cb : List Key → Str
 | [] => Str.empty
 | x :: r => cn x ++ cb r
def pY (H H' : Hp) : Prop := ∀ b o, H b = some o → (∀ ps, o ≠ .tbl ps) → H' b = some o
def cw (kvs : List (List Key × Key)) : List (List Key × V) := kvs.map fun p => (p.1, kV p.2)
def bR (kvs : List (List Key × Key)) (k : List Key) : Option Key := (kvs.find? fun p => decide (p.1 = k)).map (·.2)
def fY : Key → Prop
 | .inl i => 0 ≤ i ∧ i < 10 ^ 60
 | .inr z => ci z = true ∧ z.length ≤ 62
def eV (kvs : List (List Key × Key)) : Prop := ∀ p ∈ kvs, fY p.2
structure fi (A : Adr) (H : Hp) (x d : Addr) (kvs : List (List Key × V)) : Prop where
 ob : ∃ dx, H x = some (.ins A.c_Numbers dx [("given", .ref d)])
 di : H d = some (.dT kvs)
def jX (t : Int) : Key → Int
 | .inr z => 2 * t + z.length
 | .inl i => 2 * t + i
def pW (m : Int) (k : List Key) : Key := .inl (k.foldl jX k.length % m)
def aB (b : Addr) (H H' : Hp) : Prop := ∀ x o, x ≠ b → H x = some o → H' x = some o
def Lin (a c : Int) (kvs : List (List Key × Key)) : Prop := ∀ (i : Nat) (p : List Key × Key), kvs[i]? = some p → p.2 = Sum.inl (a * (i : Int) + c)
inductive Kd where
 | wri
 | cnt
 | wea
 | pla (D : Addr) (al : Option (List Key × List Key))
def alF : Option (List Key × List Key) → List Key → List Key
 | none, k => k
 | some p, k => if k = p.1 then p.2 else k
def iD (H : Hp) (D : Addr) : Option (List Key × List Key) → Prop
 | none => H D = some (.dT [])
 | some p => ∃ o, H D = some (.dT [(p.1, .ref o)]) ∧ H o = some (.tup (p.2.map kV)) ∧ okT p.2 = true
inductive Stp (A : Adr) (H : Hp) (f b : Addr) (d : Kd) (g : List Key → Option Key) (n : Nat) : Prop
 | wri (hc : du H f eR [] []) (hb : b = f) (hg : g = fun k => some (.inr (cb k))) (ed : d = .wri)
 | cnt (q x : Addr) (kvs : List (List Key × Key)) (hc : du H f fj [q] [.ref x]) (num : fi A H x b (cw kvs)) (hl : kvs.length ≤ n) (hs : eV kvs) (st : Lin 1 0 kvs) (hg : g = bR kvs) (ed : d = .cnt)
 | wea (q : Addr) (m : Int) (h1 : 1 ≤ m) (h2 : m ≤ 9) (hc : du H f fc [q] [.int m]) (hb : b = f) (hg : g = fun k => some (pW m k)) (ed : d = .wea)
 | pla (q0 q1 q2 D : Addr) (j : Int) (h0 : 1 ≤ j) (h1 : j < 1000) (kvs : List (List Key × Key)) (al : Option (List Key × List Key)) (hc : du H f fm [q0, q1, q2] [.int j, .ref b, .ref D]) (hb : H b = some (.dT (cw kvs))) (ha : iD H D al) (bD : b ≠ D) (hl : kvs.length ≤ n) (hs : eV kvs) (st : Lin j 5 kvs) (hg : g = fun k => bR kvs (alF al k)) (ed : d = .pla D al)
def Sub (g g' : List Key → Option Key) : Prop := ∀ k v, g k = some v → g' k = some v
def Ext (g : List Key → Option Key) (h : List Key → Key) : Prop := ∀ k v, g k = some v → h k = v
abbrev PK (H : Hp) : List Addr → List (List Key) → Prop := Paired (fun (p : Addr) (k : List Key) => H p = some (.tup (k.map kV)) ∧ okT k = true)
def kc (K : W.Frag) (A : Adr) : Sp := fun vs H Q _ => ∃ (p : Addr) (k : List Key), vs = [.ref p] ∧ H p = some (.tup (k.map kV)) ∧ okT k = true ∧ ∀ H', ao H H' → Q (.bl true) H'
def mx (K : W.Frag) (A : Adr) : Sp := fun vs H Q _ => ∃ x : Key, vs = [kV x] ∧ okP x = true ∧ Q (.str (cn x)) H
def jP (K : W.Frag) (A : Adr) : Sp := fun vs H Q _ => ∃ (p : Addr) (k : List Key), vs = [.ref p] ∧ H p = some (.tup (k.map kV)) ∧ okT k = true ∧ ∀ H', ao H H' → Q (.str (cb k)) H'
def qp (K : W.Frag) (A : Adr) : Sp := jP K A
def gA (kvs : List (List Key × V)) (kk : List Key) (d : V) : V := (bn kvs kk).getD d
def gL (H : Hp) (b : Addr) (kvs : List (List Key × V)) (kk : List Key) (d : V) : Hp := if (bn kvs kk).isSome = true then H else upd H b (.dT (bT kvs kk d))
def qL (K : W.Frag) (A : Adr) : Sp := fun vs H Q _ => ∃ x dx, vs = [.ref x] ∧ H x = some (.ins A.c_Numbers dx []) ∧ ∀ d, H d = none → Q .non (upd (upd H d (.dT [])) x (.ins A.c_Numbers dx [("given", .ref d)]))
def qq (K : W.Frag) (A : Adr) : Sp := fun vs H Q _ => ∃ (x d p : Addr) (kvs : List (List Key × V)) (k : List Key), vs = [.ref x, .ref p] ∧ fi A H x d kvs ∧ kvs.length ≤ 50000 ∧ H p = some (.tup (k.map kV)) ∧ okT k = true ∧ ∀ H', ao H H' → Q (gA kvs k (.int kvs.length)) (gL H' d kvs k (.int kvs.length))
def pU (K : W.Frag) (A : Adr) : Sp := fun vs H Q _ => ∃ (x d p : Addr) (kvs : List (List Key × V)) (k : List Key), vs = [.ref p, .ref x] ∧ fi A H x d kvs ∧ kvs.length ≤ 50000 ∧ H p = some (.tup (k.map kV)) ∧ okT k = true ∧ ∀ H', ao H H' → Q (gA kvs k (.int kvs.length)) (gL H' d kvs k (.int kvs.length))
def bC (P : Addr) (H H' : Hp) : Prop := ∀ b o, H b = some o → b ≠ P → H' b = some o
def qF (K : W.Frag) (A : Adr) : Sp := fun vs H Q _ => ∃ (p : Addr) (m : Int) (k : List Key), vs = [.ref p, .int m] ∧ 1 ≤ m ∧ m ≤ 9 ∧ H p = some (.tup (k.map kV)) ∧ okT k = true ∧ Q (kV (pW m k)) H
def qS (K : W.Frag) (A : Adr) : Sp := fun vs H Q _ => ∃ (p b D : Addr) (j : Int) (k : List Key) (kvs : List (List Key × V)) (al : Option (List Key × List Key)), vs = [.ref p, .int j, .ref b, .ref D] ∧ 0 ≤ j ∧ j < 1000 ∧ H p = some (.tup (k.map kV)) ∧ H b = some (.dT kvs) ∧ iD H D al ∧ kvs.length ≤ 50000 ∧ Q (gA kvs (alF al k) (.int (j * (kvs.length : Int) + 5))) (gL H b kvs (alF al k) (.int (j * (kvs.length : Int) + 5)))
def MkQ (A : Adr) (P : Addr) (d : Kd) (H : Hp) (Q : VK) : Prop := ∀ (f b : Addr) (g : List Key → Option Key) (H' : Hp), bC P H H' → Stp A H' f b d g 0 → H b = none → Q (.ref f) H'
def mv (K : W.Frag) (A : Adr) : Sp := fun vs H Q _ => vs = [] ∧ H A.t_45 = some (.tbl #[]) ∧ MkQ A A.t_45 .wri H Q
def lZ (K : W.Frag) (A : Adr) : Sp := fun vs H Q _ => vs = [] ∧ H A.t_27 = some (.tbl #[]) ∧ MkQ A A.t_27 .cnt H Q
def mq (K : W.Frag) (A : Adr) : Sp := fun vs H Q _ => ∃ m : Int, vs = [.int m] ∧ 1 ≤ m ∧ m ≤ 9 ∧ H A.t_22 = some (.tbl #[]) ∧ MkQ A A.t_22 .wea H Q
def mt (K : W.Frag) (A : Adr) : Sp := fun vs H Q _ => ∃ (b D : Addr) (j : Int), vs = [.ref b, .ref D, .int j] ∧ 1 ≤ j ∧ j < 1000 ∧ H A.t_15 = some (.tbl #[]) ∧ H b = some (.dT []) ∧ H D = some (.dT []) ∧ b ≠ D ∧
 ∀ (f : Addr) (H' : Hp), bC A.t_15 H H' → Stp A H' f b (.pla D none) (fun k => bR [] (alF none k)) 0 → Q (.ref f) H'
def Kd.sure : Kd → Prop
 | .wri => True
 | .cnt => True
 | .wea => False
 | .pla _ al => al = none
def mF (K : W.Frag) (A : Adr) : Sp := fun vs H Q _ => ∃ (w c : Int) (b0 D : Addr), vs = [.int w, .int c, .ref b0, .ref D] ∧ wE A H ∧ H b0 = some (.dT []) ∧ H D = some (.dT []) ∧ b0 ≠ D ∧ 0 ≤ w ∧ w ≤ 3 ∧
 ∀ (f b : Addr) (d : Kd) (g : List Key → Option Key) (H' : Hp), pY H H' → Stp A H' f b d g 0 → (b = b0 ∨ H b = none) → (w = 3 → d.sure) → (w < 2 → d = .pla D none ∧ b = b0) → Q (.ref f) H'
def enK (e : Key) : Prop := okP e = true ∧ szK e ≤ 70
def bg (n : Nat) : Nat := 2 ^ Nat.log2 (n - 1)
def grF : Nat → Nat → Nat → List Int
 | 0, _, _ => []
 | f + 1, c, el => if el = 0 ∨ c ≤ el then [] else if el ≤ bg c then 0 :: grF f (bg c) el else 1 :: grF f (c - bg c) (el - bg c)
abbrev aC (c el : Nat) : List Int := grF 60 c el
def jtT (t : Int) (o a : Key) : List Key := if t = 0 then [.inr "joint", o, a] else [.inr "joint", a, o]
def be (c : Int) (st : List (Int × Key)) (i : Nat) (v : Key) : List Key := match st[i]? with
 | some x => jtT x.1 v x.2
 | none => [.inr "row", .inl c, v]
def cB (h : List Key → Key) (c : Int) (m : Key) (st : List (Int × Key)) : Nat → List Key
 | 0 => be c st 0 m
 | i + 1 => be c st (i + 1) (h (cB h c m st i))
def cY (h : List Key → Key) (c : Int) (m : Key) (st : List (Int × Key)) (k : Nat) : List (List Key) := (List.range k).map (cB h c m st)
def dX (h : List Key → Key) (m : Key) (st : List (Int × Key)) : Nat → List (List Key) × Key
  | 0 => ([], m)
  | i + 1 => match st[i]? with
    | some x => if x.1 = 1 then ((dX h m st i).1 ++ [jtT x.1 (dX h m st i).2 x.2], h (jtT x.1 (dX h m st i).2 x.2)) else dX h m st i
    | none => dX h m st i
def gy (h : List Key → Key) (el : Nat) (m : Key) (st : List (Int × Key)) : List Key := [.inr "row", .inl (el : Int), if el = 0 then h [.inr "void"] else (dX h m st st.length).2]
def eX (h : List Key → Key) (el : Nat) (m : Key) (st : List (Int × Key)) : List (List Key) := (if el = 0 then [[.inr "void"]] else (dX h m st st.length).1) ++ [gy h el m st]
def dl : List Int → Nat → Nat → List Key → List (Option Key)
 | [], lo, _, ks => [ks[lo]?]
 | t :: r, lo, hi, ks => if t = 1 then ks[lo]? :: dl r (lo + 1) hi ks else ks[hi - 1]? :: dl r lo (hi - 1) ks
def bx (ts : List Int) (ks : List Key) : List Key := (dl ts 0 ks.length ks).map fun x => x.getD (.inl 0)
def stR (ts : List Int) (ks : List Key) : List (Int × Key) := (ts.zip ks).reverse
def inM (ts : List Int) (ks : List Key) : Key := ((bx ts ks)[ts.length]?).getD (.inl 0)
abbrev stG (ts : List Int) (ks : List Key) : List (Int × Key) := stR ts (bx ts ks)
structure cU (A : Adr) (H : Hp) (f b P : Addr) (d : Kd) (c el : Nat) (ts : List Int) (ks : List Key) (g : List Key → Option Key) (n : Nat) : Prop where
 s : Stp A H f b d g n
 hn : n + 400 ≤ 40000
 c1 : 1 ≤ c
 c2 : c < 2 ^ 60
 ec : el ≤ c
 tl : ts.length ≤ 60
 t01 : ∀ t ∈ ts, t = 0 ∨ t = 1
 z : el = 0 → ts = []
 kl : ks.length = ts.length + 1
 ke : ∀ k ∈ ks, enK k
 w : H P = some (.tup (ks.map kV))
def eB (K : W.Frag) (A : Adr) : Sp := fun vs H Q _ => ∃ (a : Addr) (ns : List Int) (k : Int), vs = [.ref a, .int k] ∧ SqL K H a (ns.map V.int) ∧ 0 ≤ k ∧ ∀ z : Int, Q (.int z) H
def mE (K : W.Frag) (A : Adr) : Sp := fun vs H Q _ => ∃ c : Int, vs = [.int c] ∧ ∀ (z : Str) (H' : Hp), ao H H' → z.length ≤ 4 → ci z = true → Q (.str z) H'
def jK (K : W.Frag) (A : Adr) : Sp := fun vs H Q _ => ∃ c : Int, vs = [.int c] ∧ ∀ (e : Key) (H' : Hp), ao H H' → enK e → Q (kV e) H'
def qj (K : W.Frag) (A : Adr) : Sp := fun vs H Q _ => ∃ c : Int, vs = [.int c] ∧ ∀ m : Nat, 1 ≤ m → m < 2 ^ 60 → Q (.int (m : Int)) H
def lV (K : W.Frag) (A : Adr) : Sp := fun vs H Q _ => ∃ m : Nat, vs = [.int (m : Int)] ∧ 2 ≤ m ∧ m ≤ 2 ^ 60 ∧ Q (.int ((bg m : Nat) : Int)) H
def mf (K : W.Frag) (A : Adr) : Sp := fun vs H Q _ => ∃ c el : Nat, vs = [.int (c : Int), .int (el : Int)] ∧ 1 ≤ c ∧ el ≤ c ∧ c ≤ 2 ^ 60 ∧ ∀ D, H D = none → Q (.ref D) (upd H D (.lst ((aC c el).map V.int)))
def mz (K : W.Frag) (A : Adr) : Sp := fun vs H Q _ => ∃ c el : Nat, vs = [.int (c : Int), .int (el : Int)] ∧ 1 ≤ c ∧ el ≤ c ∧ c ≤ 2 ^ 60 ∧ ∀ D, H D = none → Q (.ref D) (upd H D (.lst ((aC c el).map V.int)))
def qh (K : W.Frag) (A : Adr) : Sp := fun vs H Q _ => ∃ (z : Int) (c : Nat), vs = [.int z, .int (c : Int)] ∧ ∀ (el : Nat) (H' : Hp), ao H H' → el ≤ c → Q (.int (el : Int)) H'
def jD (K : W.Frag) (A : Adr) : Sp := fun vs H Q _ => ∃ i : Int, vs = [.int i] ∧ 0 ≤ i ∧ i < 2 ^ 60 ∧ Q (.bl true) H
def lX (K : W.Frag) (A : Adr) : Sp := fun vs H Q _ => ∃ c p : Int, vs = [.int c, .int p] ∧ 0 ≤ p ∧ p ≤ c ∧ c < 2 ^ 60 ∧ Q (.bl true) H
def mi (K : W.Frag) (A : Adr) : Sp := fun vs H Q _ => ∃ (p : Addr) (c : Nat) (v : Key), vs = [.ref p] ∧ H p = some (.tup [.int (c : Int), kV v]) ∧ c < 2 ^ 60 ∧ okP v = true ∧ Q (.bl true) H
def ms (K : W.Frag) (A : Adr) : Sp := fun vs H Q _ => ∃ (p : Addr) (c : Nat) (v : Key), vs = [.ref p] ∧ H p = some (.tup [.int (c : Int), kV v]) ∧ c < 2 ^ 60 ∧ okP v = true ∧ Q .non H
def mD (K : W.Frag) (A : Adr) : Sp := fun vs H Q _ => ∃ (p : Addr) (ks : List Key), vs = [.int (ks.length : Int), .ref p] ∧ H p = some (.tup (ks.map kV)) ∧ (∀ k ∈ ks, okP k = true) ∧ ks.length ≤ 500 ∧ ∀ H', ao H H' → Q (.bl true) H'
def jU (K : W.Frag) (A : Adr) : Sp := fun vs H Q _ => ∃ (t : Int) (o a : Key), vs = [.int t, kV o, kV a] ∧ ∀ p, H p = none → Q (.ref p) (upd H p (.tup ((jtT t o a).map kV)))
def jW (K : W.Frag) (A : Adr) : Sp := fun vs H Q _ => ∃ (f b : Addr) (d : Kd) (g : List Key → Option Key) (n : Nat), vs = [.ref f] ∧ Stp A H f b d g n ∧ n ≤ 40000 ∧
 ∀ (O : Addr) (po : List Addr) (v : Key) (g' : List Key → Option Key) (H' : Hp), aB b H H' → Stp A H' f b d g' (n + 1) → Sub g g' → g' [.inr "void"] = some v → okP v = true → szK v ≤ 200 → H' O = some (.lst (po.map V.ref)) → PK H' po [[.inr "void"], [.inr "row", .inl 0, v]] → Q (.ref O) H'
def lY (K : W.Frag) (A : Adr) : Sp := fun vs H Q _ => ∃ (L P : Addr) (ts : List Int) (ks : List Key), vs = [.ref L, .ref P] ∧ H L = some (.lst (ts.map V.int)) ∧ H P = some (.tup (ks.map kV)) ∧ ks.length = ts.length + 1 ∧ ts.length ≤ 60 ∧ (∀ t ∈ ts, t = 0 ∨ t = 1) ∧
 ∀ (R Z : Addr) (ps : List Addr) (H' : Hp), ao H H' → H' R = some (.tup [kV (inM ts ks), .ref Z]) → H' Z = some (.lst (ps.map V.ref)) → ps.length = ts.length → (∀ (j : Nat) (p : Addr) (x : Int × Key), ps[j]? = some p → (stG ts ks)[j]? = some x → H' p = some (.tup [.int x.1, kV x.2])) → Q (.ref R) H'
def yT (A : Adr) (f b : Addr) (d : Kd) (c el : Nat) (m : Key) (st : List (Int × Key)) (g : List Key → Option Key) (n : Nat) (H : Hp) (R : Addr → Addr → Hp → Prop) : Prop :=
 ∀ (Y O : Addr) (py po : List Addr) (ty to : List (List Key)) (g' : List Key → Option Key) (H' : Hp), aB b H H' → Stp A H' f b d g' (n + 130) → Sub g g' → H' Y = some (.lst (py.map V.ref)) → H' O = some (.lst (po.map V.ref)) → PK H' py ty → PK H' po to → ty.length = st.length + 1 → 1 ≤ to.length → to.length ≤ 70 → (∀ k ∈ ty, szT k ≤ 20000) → (∀ k ∈ to, szT k ≤ 20000) → (∀ h, Ext g' h → ty = cY h c m st (st.length + 1) ∧ to = eX h el m st) → R Y O H'
def md (K : W.Frag) (A : Adr) : Sp := fun vs H Q _ => ∃ (f b R Z : Addr) (d : Kd) (c el : Nat) (m : Key) (st : List (Int × Key)) (ps : List Addr) (g : List Key → Option Key) (n : Nat), vs = [.ref f, .int (c : Int), .int (el : Int), .ref R] ∧ Stp A H f b d g n ∧ n + 400 ≤ 40000 ∧ 1 ≤ el ∧ el ≤ c ∧ c < 2 ^ 60 ∧ H R = some (.tup [kV m, .ref Z]) ∧ H Z = some (.lst (ps.map V.ref)) ∧ ps.length = st.length ∧ (∀ (j : Nat) (p : Addr) (x : Int × Key), ps[j]? = some p → st[j]? = some x → H p = some (.tup [.int x.1, kV x.2])) ∧ st.length ≤ 60 ∧ enK m ∧ (∀ x ∈ st, (x.1 = 0 ∨ x.1 = 1) ∧ enK x.2) ∧
 yT A f b d c el m st g n H fun Y O H' => ∀ p, H' p = none → Q (.ref p) (upd H' p (.tup [.ref Y, .ref O]))
def iX (K : W.Frag) (A : Adr) : Sp := fun vs H Q _ => ∃ (f b P : Addr) (d : Kd) (c el : Nat) (ks : List Key) (g : List Key → Option Key) (n : Nat), vs = [.ref f, .int (c : Int), .int (el : Int), .ref P] ∧ cU A H f b P d c el (aC c el) ks g n ∧
 yT A f b d c el (inM (aC c el) ks) (stG (aC c el) ks) g n H fun Y O H' => ∀ p, H' p = none → Q (.ref p) (upd H' p (.tup [.ref Y, .ref O]))
def qz (K : W.Frag) (A : Adr) : Sp := fun vs H Q _ => ∃ (a : Addr) (x y : V), vs = [.ref a, x, y] ∧ H a = some (eI A.c_Broken a none) ∧ ∀ dx, H dx = none → Q .non (upd (upd (upd H a (eI A.c_Broken a (some dx))) dx (fV [("due", x)] dx)) dx (fV (da "came" y [("due", x)]) dx))
def mj (K : W.Frag) (A : Adr) : Sp := fun vs H Q E => ∃ (f b hd P : Addr) (d : Kd) (c el : Nat) (ks : List Key) (mk : Key) (g : List Key → Option Key) (n : Nat), vs = [.ref f, .ref hd, .int (el : Int), .ref P] ∧ cU A H f b P d c el (aC c el) ks g n ∧ H hd = some (.tup [.int (c : Int), kV mk]) ∧ okP mk = true ∧
 ∀ (w : Key) (g' : List Key → Option Key) (H' : Hp), aB b H H' → Stp A H' f b d g' (n + 131) → Sub g g' → okP w = true → (∀ h, Ext g' h → w = h (cB h c (inM (aC c el) ks) (stG (aC c el) ks) (aC c el).length)) →
  (w = mk → ∀ (u : Key) (g'' : List Key → Option Key) (H'' : Hp), aB b H' H'' → Stp A H'' f b d g'' (n + 132) → Sub g' g'' → okP u = true → (∀ h, Ext g'' h → u = h (gy h el (inM (aC c el) ks) (stG (aC c el) ks))) → Q (kV u) H'') ∧
  (w ≠ mk → ∀ (dx : Addr) (H'' : Hp), ao H' H'' → H'' dx = some (fV (da "came" (kV w) [("due", kV mk)]) dx) → E (.ref A.c_Broken) (some dx) H'')
def gH (K : W.Frag) (A : Adr) : Sp := fun vs H Q _ => ∃ (f b hd P : Addr) (d : Kd) (c el : Nat) (ks : List Key) (mk : Key) (g : List Key → Option Key) (n : Nat), vs = [.ref f, .ref hd, .int (el : Int), .ref P] ∧ cU A H f b P d c el (aC c el) ks g n ∧ H hd = some (.tup [.int (c : Int), kV mk]) ∧ okP mk = true ∧
 ∀ (w : Key) (g' : List Key → Option Key) (H' : Hp), aB b H H' → Stp A H' f b d g' (n + 131) → Sub g g' → okP w = true → (∀ h, Ext g' h → w = h (cB h c (inM (aC c el) ks) (stG (aC c el) ks) (aC c el).length)) →
  (w = mk → ∀ (r : Addr) (u : Key) (g'' : List Key → Option Key) (H'' : Hp), aB b H' H'' → Stp A H'' f b d g'' (n + 132) → Sub g' g'' → okP u = true → (∀ h, Ext g'' h → u = h (gy h el (inM (aC c el) ks) (stG (aC c el) ks))) → H'' r = some (.tup [.str "mark", kV u]) → Q (.ref r) H'') ∧
  (w ≠ mk → ∀ (r : Addr) (H'' : Hp), ao H' H'' → H'' r = some (.tup [.str "broken", kV mk, kV w]) → Q (.ref r) H'')
def qR (K : W.Frag) (A : Adr) : Sp := fun vs H Q _ => ∃ (L P : Addr) (ts : List Int) (ks : List Key), vs = [.ref L, .ref P] ∧ H L = some (.lst (ts.map V.int)) ∧ H P = some (.tup (ks.map kV)) ∧ ks.length = ts.length + 1 ∧ ts.length ≤ 60 ∧ (∀ t ∈ ts, t = 0 ∨ t = 1) ∧ ∀ (M : Addr) (H' : Hp), ao H H' → H M = none → H' M = some (.lst ((bx ts ks).map kV)) → Q (.ref M) H'
def iO (K : W.Frag) (A : Adr) : Sp := fun vs H Q _ => ∃ (c k : Nat) (L M : Addr) (ts : List Int) (ds : List Key) (v : Key), vs = [.int (c : Int), .ref L, .ref M, .int (k : Int), kV v] ∧ H L = some (.lst (ts.map V.int)) ∧ H M = some (.lst (ds.map kV)) ∧ ds.length = ts.length + 1 ∧ k ≤ ts.length ∧ (∀ t ∈ ts, t = 0 ∨ t = 1) ∧ ∀ p, H p = none → Q (.ref p) (upd H p (.tup ((be c (stR ts ds) k v).map kV)))
def gJ (K : W.Frag) (A : Adr) : Sp := fun vs H Q _ => ∃ (f b L P : Addr) (d : Kd) (c el : Nat) (ts : List Int) (ks : List Key) (g : List Key → Option Key) (n j : Nat), vs = [.ref f, .int (c : Int), .int (el : Int), .ref L, .ref P, .int (j : Int)] ∧ cU A H f b P d c el ts ks g n ∧ H L = some (.lst (ts.map V.int)) ∧ j ≤ ts.length ∧
 ∀ (R Y O : Addr) (py po : List Addr) (ty to : List (List Key)) (g' : List Key → Option Key) (H' : Hp), aB b H H' → Stp A H' f b d g' (n + 130) → Sub g g' → H' R = some (.lst [.ref Y, .ref O]) → H' Y = some (.lst (py.map V.ref)) → H' O = some (.lst (po.map V.ref)) → PK H' py ty → PK H' po to → ty.length = j + 1 → 1 ≤ to.length → to.length ≤ 70 → (∀ k ∈ ty, szT k ≤ 20000) → (∀ k ∈ to, szT k ≤ 20000) → (∀ h, Ext g' h → ty = cY h c (inM ts ks) (stG ts ks) (j + 1) ∧ (j = ts.length → to = eX h el (inM ts ks) (stG ts ks))) → Q (.ref R) H'
def iM (K : W.Frag) (A : Adr) : Sp := fun vs H Q _ => ∃ m : Key, vs = [kV m] ∧ enK m ∧ ∀ (e : Key) (H' : Hp), ao H H' → enK e → Q (kV e) H'
def nV (K : W.Frag) (A : Adr) : Sp := fun vs H Q _ => ∃ (k c : Int) (P : Addr) (ks : List Key), vs = [.int k, .int c, .ref P] ∧ H P = some (.tup (ks.map kV)) ∧ (∀ x ∈ ks, enK x) ∧ 1 ≤ ks.length ∧ ks.length ≤ 61 ∧
 ∀ (P' : Addr) (ks' : List Key) (H' : Hp), ao H H' → H' P' = some (.tup (ks'.map kV)) → (∀ x ∈ ks', enK x) → ks'.length = ks.length → Q (.ref P') H'
def jR (K : W.Frag) (A : Adr) : Sp := fun vs H Q _ => ∃ (f b D o1 o2 : Addr) (k1 k2 : List Key) (g : List Key → Option Key) (n : Nat), vs = [.ref b, .ref D, .ref o1, .ref o2] ∧ Stp A H f b (.pla D none) g n ∧ n ≤ 40000 ∧ H o1 = some (.tup (k1.map kV)) ∧ H o2 = some (.tup (k2.map kV)) ∧ okT k1 = true ∧ okT k2 = true ∧
 ∀ (al : Option (List Key × List Key)) (g' : List Key → Option Key) (H' : Hp), aB D H H' → Stp A H' f b (.pla D al) g' n → Sub g g' → Q .non H'
def jF (K : W.Frag) (A : Adr) : Sp := fun vs H Q _ => ∃ (L M : Addr) (ps rs : List Addr) (tt : List (List Key)), vs = [.ref L, .ref M] ∧ H L = some (.lst (ps.map V.ref)) ∧ H M = some (.lst (rs.map V.ref)) ∧ PK H ps tt ∧ PK H rs tt ∧ tt.length ≤ 70 ∧ ∀ H', ao H H' → Q (.bl true) H'
def mL (K : W.Frag) (A : Adr) : Sp := fun vs H Q _ => ∃ (R S Y O Y2 O2 : Addr) (py po py2 po2 : List Addr) (ty to : List (List Key)), vs = [.ref R, .ref S] ∧ H R = some (.tup [.ref Y, .ref O]) ∧ H S = some (.lst [.ref Y2, .ref O2]) ∧ H Y = some (.lst (py.map V.ref)) ∧ H O = some (.lst (po.map V.ref)) ∧ H Y2 = some (.lst (py2.map V.ref)) ∧ H O2 = some (.lst (po2.map V.ref)) ∧ PK H py ty ∧ PK H po to ∧ PK H py2 ty ∧ PK H po2 to ∧ ty.length ≤ 70 ∧ to.length ≤ 70 ∧ ∀ H', ao H H' → Q (.bl true) H'
def qX (h : List Key → Key) (ks : List (List Key)) : Option (List Key × List Key) → Prop
 | none => ∀ (j k : Nat) a b, j < k → ks[j]? = some a → ks[k]? = some b → h a = h b → a = b
 | some r => ∃ j k : Nat, j < k ∧ ks[j]? = some r.1 ∧ ks[k]? = some r.2 ∧ r.1 ≠ r.2 ∧ h r.1 = h r.2 ∧ (∀ (j' k' : Nat) a b, j' < k' → k' < k → ks[j']? = some a → ks[k']? = some b → h a = h b → a = b) ∧ ∀ (j' : Nat) a, j' < j → ks[j']? = some a → h a = h r.2 → a = r.2
def rC (H : Hp) : Option (List Key × List Key) → V → Prop
 | none, v => v = .non
 | some r, v => ∃ p a b : Addr, v = .ref p ∧ H p = some (.tup [.ref a, .ref b]) ∧ H a = some (.tup (r.1.map kV)) ∧ H b = some (.tup (r.2.map kV)) ∧ okT r.1 = true ∧ okT r.2 = true
def gM (K : W.Frag) (A : Adr) : Sp := fun vs H Q _ => ∃ (f b L : Addr) (d : Kd) (ps : List Addr) (ks : List (List Key)) (g : List Key → Option Key) (n : Nat), vs = [.ref f, .ref L] ∧ Stp A H f b d g n ∧ H L = some (.lst (ps.map V.ref)) ∧ PK H ps ks ∧ ks.length ≤ 900 ∧ n ≤ 40000 ∧
 ∀ (v : V) (H' : Hp) (g' : List Key → Option Key) (r : Option (List Key × List Key)), aB b H H' → Stp A H' f b d g' (n + ks.length) → Sub g g' → rC H' r v → (∀ h : List Key → Key, Ext g' h → qX h ks r) → Q v H'
def jQ (K : W.Frag) (A : Adr) : Sp := fun vs H Q _ => ∃ (f b L : Addr) (d : Kd) (ps : List Addr) (ks : List (List Key)) (r : List Key × List Key) (v : V) (g : List Key → Option Key) (n : Nat), vs = [.ref f, .ref L, v] ∧ Stp A H f b d g n ∧ H L = some (.lst (ps.map V.ref)) ∧ PK H ps ks ∧ ks.length ≤ 900 ∧ n + 10 ≤ 40000 ∧ rC H (some r) v ∧ r.1 ∈ ks ∧ r.2 ∈ ks ∧ r.1 ≠ r.2 ∧ (∀ h, Ext g h → h r.1 = h r.2) ∧
 ∀ H', Q (.bl true) H'
def mn (K : W.Frag) (A : Adr) : Sp := fun vs H Q _ => ∃ (a : Addr) (ns : List Int), vs = [.ref a] ∧ SqL K H a (ns.map V.int) ∧ ns.length ≤ 63 ∧ wE A H ∧ ∀ H', Q (.bl true) H'
end Rs
namespace Rs
open PySem PySem.Spec PyProof.Rows L2
def cz (K : W.Frag) (A : Adr) : L2.jH := [(eR, qp K A), (fj, pU K A), (fc, qF K A), (fm, qS K A)]
def zt (K : W.Frag) (A : Adr) : TE := aw (jP K A) (fun _ => E0) (ad (ac 0) (af))
def yn (K : W.Frag) (A : Adr) : TE := se A.c_Numbers "number_of" (qq K A) (fun _ => E0) (ac 1) (ad (ac 0) (af))
def zO (K : W.Frag) (A : Adr) : TS := au (aE (tCB (bB K) (ad (ac 0) (af))) (av 1)) (au (eW (dG K (ac 0)) (av 2) (aU (cV K (tCB (dq) (ad (ac 2) (ad (tC (.ty "str")) (af))))) (aE (tOp (ba K) (tOp (eS) (tC (.int 2)) (ac 1)) (tCB (bB K) (ad (ac 2) (af)))) (av 1)) (aE (tOp (ba K) (tOp (eS) (tC (.int 2)) (ac 1)) (ac 2)) (av 1)))) (aH (tOp (bG) (ac 1) (ac 3))))
def Af (K : W.Frag) (A : Adr) : TS := aH (tBM K "dict" kA (ac 2) (ad (tBM K "dict" wt (ac 3) (ad (ac 0) (ad (ac 0) (af)))) (ad (tOp (ba K) (tOp (eS) (ac 1) (tCB (bB K) (ad (ac 2) (af)))) (tC (.int 5))) (af))))
def DV (K : W.Frag) (A : Adr) : TS := aH (dh (tCB (dq) (ad (ac 0) (ad (tC (.ty "int")) (af)))) (qH (tCB (dq) (ad (ac 0) (ad (tC (.ty "bool")) (af))))))
def EU (K : W.Frag) (A : Adr) : TS := au (aU (cV K (aw (gO K A) (fun _ => E0) (ad (ac 0) (af)))) (aH (dF (mLe) (mLt) (tC (.int 0)) (ac 0) (tOp (nn) (tC (.int 10)) (tC (.int 60))))) (aM)) (aH (tCB (dq) (ad (ac 0) (ad (tC (.ty "str")) (af)))))
def Ek (K : W.Frag) (A : Adr) : TS := au (aU (dM (cV K (tCB (dq) (ad (ac 0) (ad (tC (.ty "tuple")) (af)))))) (aH (tC (.bl false))) (aM)) (au (aU (dM (aI (dF (mLe) (mLe) (tC (.int 1)) (tCB (bB K) (ad (ac 0) (af))) (tC (.int 8))))) (aH (tC (.bl false))) (aM)) (aH (dh (tCB (dq) (ad (tOp (aA K) (ac 0) (tC (.int 0))) (ad (tC (.ty "str")) (af)))) (tCB (uW) (ad (fq [] (dG K (ac 0)) (fun _ H Q => Q true H) (aw (iH K A) (fun _ => E0) (ad (ac 0) (af)))) (af))))))
def ER (K : W.Frag) (A : Adr) : TS := au (aU (cV K (aw (gO K A) (fun _ => E0) (ad (ac 0) (af)))) (aH (mJ ((qW (ac 0)) :: (tC (.str ";")) :: []) Str.empty)) (aM)) (au (aE (tCB (bB K) (ad (ac 0) (af))) (av 1)) (aH (mJ ((qW (ac 1)) :: (tC (.str ":")) :: (qW (ac 0)) :: []) Str.empty)))
def EZ (K : W.Frag) (A : Adr) : TS := au (aU (dM (cV K (aw (kc K A) (fun _ => E0) (ad (ac 0) (af))))) (fA) (aM)) (aH (tBM K "str" lW (tC (.str "")) (ad (fq [] (dG K (ac 0)) (fun _ H Q => Q true H) (aw (mx K A) (fun _ => E0) (ad (ac 0) (af)))) (af))))
def T_2 (K : W.Frag) (A : Adr) : TS := au (aU (dM (cV K (aw (kc K A) (fun _ => E0) (ad (ac 1) (af))))) (fA) (aM)) (au (aU (aI (tOp (fv K) (ac 1) (kS K (ac 0) "given"))) (aE (tCB (bB K) (ad (kS K (ac 0) "given") (af))) (re (kS K (ac 0) "given") (ac 1) mG)) (aM)) (aH (tOp (aA K) (kS K (ac 0) "given") (ac 1))))
def T_4 (K : W.Frag) (A : Adr) : TS := au (aU (aI (tOp (mLt) (ac 1) (tCB (bB K) (ad (ac 0) (af))))) (aH (tOp (aA K) (ac 0) (ac 1))) (aM)) (aH (tC (.int 0)))
def zi (K : W.Frag) (A : Adr) (q0 : Addr) : TSM := qJ (mr (aE (kj A.t_22 ⟨161, 4, 168, 37⟩ fc [q0]) (av 1))) (mQ (ac 1))
def zN (K : W.Frag) (A : Adr) : TSM := mQ (kj A.t_45 ⟨131, 11, 131, 37⟩ eR [])
def T_1 (K : W.Frag) (A : Adr) : TS := vF K (ac 0) (hV) "given"
def zc (K : W.Frag) (A : Adr) (q0 : Addr) : TSM := qJ (mr (aE (sI A.c_Numbers (qL K A) (fun _ => E0) (af)) (av 0))) (mQ (kj A.t_27 ⟨134, 11, 134, 47⟩ fj [q0]))
def yI (K : W.Frag) (A : Adr) (q0 q1 q2 : Addr) : TSM := qJ (mr (aE (kj A.t_15 ⟨172, 4, 173, 107⟩ fm [q2, q0, q1]) (av 3))) (mQ (ac 3))
def EE (K : W.Frag) (A : Adr) : TS := au (aU (aI (tOp (bh K) (ac 0) (tC (.int 2)))) (aH (aw (mq K A) (fun _ => E0) (ad (tOp (ba K) (tC (.int 1)) (tOp (bG) (ac 1) (tC (.int 9)))) (af)))) (aM)) (au (aU (kQ (aI (tOp (bh K) (ac 0) (tC (.int 3)))) (aI (tOp (bh K) (tOp (bG) (ac 1) (tC (.int 3))) (tC (.int 0))))) (aH (aw (mv K A) (fun _ => E0) af)) (aM)) (au (aU (kQ (aI (tOp (bh K) (ac 0) (tC (.int 3)))) (aI (tOp (bh K) (tOp (bG) (ac 1) (tC (.int 3))) (tC (.int 1))))) (aH (aw (lZ K A) (fun _ => E0) af)) (aM)) (aH (aw (mt K A) (fun _ => E0) (ad (ac 2) (ad (ac 3) (ad (tOp (ba K) (tC (.int 1)) (tOp (bG) (ac 1) (tC (.int 9)))) (af))))))))
def T_7 (K : W.Frag) (A : Adr) : TS := au (aU (aI (tOp (bh K) (tOp (bG) (ac 0) (tC (.int 3))) (tC (.int 0)))) (aH (tOp (ba K) (tC (.int 1)) (tOp (bG) (tOp (bK) (ac 0) (tC (.int 3))) (tC (.int 41))))) (aM)) (au (aU (aI (tOp (bh K) (tOp (bG) (ac 0) (tC (.int 3))) (tC (.int 1)))) (aH (tOp (dz) (tOp (ba K) (tOp (jz) (tC (.int 1)) (tOp (ba K) (tC (.int 1)) (tOp (bG) (tOp (bK) (ac 0) (tC (.int 3))) (tC (.int 59))))) (tOp (bG) (tOp (bK) (ac 0) (tC (.int 177))) (tC (.int 4)))) (tC (.int 1)))) (aM)) (aH (tOp (ba K) (tC (.int 1)) (tOp (bG) (tOp (bK) (ac 0) (tC (.int 3))) (tOp (dz) (tOp (jz) (tC (.int 1)) (tC (.int 60))) (tC (.int 1)))))))
def T_9 (K : W.Frag) (A : Adr) : TS := au (aU (aI (tOp (bh K) (tOp (bG) (ac 0) (tC (.int 4))) (tC (.int 0)))) (aH (tOp (aA K) (cM (ad (tC (.int 0)) (ad (ac 1) (af)))) (tOp (bG) (tOp (bK) (ac 0) (tC (.int 4))) (tC (.int 2))))) (aM)) (aH (tOp (bG) (tOp (bK) (ac 0) (tC (.int 4))) (tOp (ba K) (ac 1) (tC (.int 1)))))
def Fg (K : W.Frag) (A : Adr) : TS := au (aE (cM (af)) (av 2)) (au (aE (tOp (jz) (tC (.int 1)) (tC (.int 60))) (av 3)) (au (ig (aI (dF (mLt) (mLt) (tC (.int 0)) (ac 1) (ac 0))) (au (ig (aI (tOp (mGe) (ac 3) (ac 0))) (aE (tOp (bK) (ac 3) (tC (.int 2))) (av 3))) (au (cp (tBM K "list" bP (ac 2) (ad (tCB (qx) (ad (tOp (mGt) (ac 1) (ac 3)) (af))) (af)))) (aU (aI (tOp (mGt) (ac 1) (ac 3))) (au (aE (tOp (dz) (ac 0) (ac 3)) (av 0)) (aE (tOp (dz) (ac 1) (ac 3)) (av 1))) (aE (ac 3) (av 0)))))) (aH (ac 2))))
def yt (K : W.Frag) (A : Adr) : TS := aH (tBM K "str" lW (tC (.str "")) (ad (fq [0, 1] (iW (ad (tOp (bG) (ac 0) (tC (.int 5))) (af))) (fun _ H Q => Q true H) (tOp (aA K) (ac 2) (tOp (bG) (tOp (ba K) (tOp (bK) (ac 1) (tC (.int 5))) (tOp (eS) (ac 0) (tOp (bG) (tOp (bK) (ac 1) (tC (.int 470))) (tC (.int 7))))) (tC (.int 94))))) (af)))
def DY (K : W.Frag) (A : Adr) : TS := au (aE (tC (.str " !\"#$&'()*+,-./0123456789:;<=>?@ABCDEFGHIJKLMNOPQRSTUVWXYZ[\\]^_`")) (av 1)) (au (aE (tOp (ba K) (ac 1) (tC (.str "abcdefghijklmnopqrstuvwxyz{|}~"))) (av 1)) (aH (tBM K "str" lW (tC (.str "")) (ad (fq [0, 1] (iW (ad (tOp (bG) (ac 0) (tC (.int 5))) (af))) (fun _ H Q => Q true H) (tOp (aA K) (ac 2) (tOp (bG) (tOp (ba K) (tOp (bK) (ac 1) (tC (.int 5))) (tOp (eS) (ac 0) (tOp (bG) (tOp (bK) (ac 1) (tC (.int 470))) (tC (.int 7))))) (tC (.int 94))))) (af)))))
def Ew (K : W.Frag) (A : Adr) : TS := au (aU (aI (tOp (bh K) (tOp (bG) (ac 0) (tC (.int 4))) (tC (.int 0)))) (aH (aw (mE K A) (fun _ => E0) (ad (tOp (bK) (ac 0) (tC (.int 4))) (af)))) (aM)) (au (aU (aI (tOp (bh K) (tOp (bG) (ac 0) (tC (.int 4))) (tC (.int 1)))) (aH (tOp (bG) (tOp (bK) (ac 0) (tC (.int 4))) (tOp (nn) (tC (.int 10)) (tC (.int 60))))) (aM)) (aH (tOp (bG) (tOp (bK) (ac 0) (tC (.int 4))) (tC (.int 7)))))
def T_8 (K : W.Frag) (A : Adr) : TS := au (aE (cM (af)) (av 2)) (au (aE (tC (.int 0)) (av 3)) (au (aE (tCB (bB K) (ad (ac 1) (af))) (av 4)) (au (eW (dG K (ac 0)) (av 5) (aU (aI (tOp (bh K) (ac 5) (tC (.int 1)))) (au (cp (tBM K "list" bP (ac 2) (ad (tOp (aA K) (ac 1) (ac 3)) (af)))) (aE (tOp (ba K) (ac 3) (tC (.int 1))) (av 3))) (au (aE (tOp (dz) (ac 4) (tC (.int 1))) (av 4)) (cp (tBM K "list" bP (ac 2) (ad (tOp (aA K) (ac 1) (ac 4)) (af))))))) (aH (tOp (ba K) (ac 2) (cM (ad (tOp (aA K) (ac 1) (ac 3)) (af))))))))
def Er (K : W.Frag) (A : Adr) : TS := au (aU (aI (tOp (bh K) (ac 3) (tCB (bB K) (ad (ac 1) (af))))) (aH (bf (ad (tC (.str "row")) (ad (ac 0) (ad (ac 4) (af)))))) (aM)) (au (aU (aI (tOp (bh K) (tOp (aA K) (ac 1) (tOp (dz) (tUn cy (tC (.int 1))) (ac 3))) (tC (.int 1)))) (aH (bf (ad (tC (.str "joint")) (ad (tOp (aA K) (ac 2) (tOp (dz) (tUn cy (tC (.int 2))) (ac 3))) (ad (ac 4) (af)))))) (aM)) (aH (bf (ad (tC (.str "joint")) (ad (ac 4) (ad (tOp (aA K) (ac 2) (tOp (dz) (tUn cy (tC (.int 2))) (ac 3))) (af)))))))
def T_6 (K : W.Frag) (A : Adr) : TS := au (aE (aw (qR K A) (fun _ => E0) (ad (ac 3) (ad (ac 4) (af)))) (av 6)) (au (aE (cM (af)) (av 7)) (au (aE (cM (af)) (av 8)) (au (aE (tOp (aA K) (ac 6) (tUn cy (tC (.int 1)))) (av 9)) (au (aE (tOp (aA K) (ac 6) (tUn cy (tC (.int 1)))) (av 10)) (au (eW (iW (ad (ac 5) (af))) (av 11) (au (cp (tBM K "list" bP (ac 7) (ad (aw (iO K A) (fun _ => E0) (ad (ac 1) (ad (ac 3) (ad (ac 6) (ad (ac 11) (ad (ac 9) (af))))))) (af)))) (au (aE (cu (cz K A) (fun _ => E0) (ac 0) (ad (tOp (aA K) (ac 7) (tUn cy (tC (.int 1)))) (af))) (av 9)) (aU (aI (tOp (bh K) (tOp (aA K) (ac 3) (tOp (dz) (tUn cy (tC (.int 1))) (ac 11))) (tC (.int 1)))) (au (cp (tBM K "list" bP (ac 8) (ad (aw (iO K A) (fun _ => E0) (ad (ac 1) (ad (ac 3) (ad (ac 6) (ad (ac 11) (ad (ac 10) (af))))))) (af)))) (aE (cu (cz K A) (fun _ => E0) (ac 0) (ad (tOp (aA K) (ac 8) (tUn cy (tC (.int 1)))) (af))) (av 10))) (aM))))) (au (cp (tBM K "list" bP (ac 7) (ad (aw (iO K A) (fun _ => E0) (ad (ac 1) (ad (ac 3) (ad (ac 6) (ad (ac 5) (ad (ac 9) (af))))))) (af)))) (au (aU (aI (tOp (bh K) (ac 2) (tC (.int 0)))) (au (cp (tBM K "list" bP (ac 8) (ad (bf (ad (tC (.str "void")) (af))) (af)))) (aE (cu (cz K A) (fun _ => E0) (ac 0) (ad (bf (ad (tC (.str "void")) (af))) (af))) (av 10))) (aM)) (aH (cM (ad (ac 7) (ad (tOp (ba K) (ac 8) (cM (ad (bf (ad (tC (.str "row")) (ad (ac 2) (ad (ac 10) (af))))) (af)))) (af))))))))))))
def EY (K : W.Frag) (A : Adr) : TS := au (aU (cV K (tCB (dq) (ad (ac 0) (ad (tC (.ty "str")) (af))))) (aH (tOp (eS) (tOp (aA K) (cM (ad (tC (.str "z")) (ad (tC (.str "y")) (af)))) (tCB (qx) (ad (tOp (bh K) (tSl (fX K) (ac 0) (cZ) (dZ (tC (.int 1)))) (tC (.str "z"))) (af)))) (tCB (bB K) (ad (ac 0) (af))))) (aM)) (aH (tOp (bG) (tOp (ba K) (ac 0) (tC (.int 2520))) (tOp (nn) (tC (.int 10)) (tC (.int 60)))))
def CU (K : W.Frag) (A : Adr) : TS := aH (ac 5)
def Cy (K : W.Frag) (A : Adr) : TS := au (aU (aI (tOp (bh K) (ac 0) (tC (.int 3)))) (aH (tOp (ba K) (bf (ad (aw (iM K A) (fun _ => E0) (ad (tOp (aA K) (ac 2) (tC (.int 0))) (af))) (af))) (tSl (fX K) (ac 5) (dZ (tC (.int 1))) (cZ)))) (aM)) (CU K A)
def Bh (K : W.Frag) (A : Adr) : TS := au (aE (tOp (ba K) (tOp (ba K) (tSl (fX K) (ac 2) (cZ) (dZ (ac 3))) (bf (ad (ac 4) (af)))) (tSl (fX K) (ac 2) (dZ (tOp (ba K) (ac 3) (tC (.int 1)))) (cZ))) (av 5)) (Cy K A)
def T_5 (K : W.Frag) (A : Adr) : TS := au (aE (tOp (bG) (ac 1) (tCB (bB K) (ad (ac 2) (af)))) (av 3)) (au (aU (aI (tOp (bh K) (ac 0) (tC (.int 0)))) (aH (tOp (ba K) (tSl (fX K) (ac 2) (dZ (tC (.int 1))) (cZ)) (tSl (fX K) (ac 2) (cZ) (dZ (tC (.int 1)))))) (aM)) (au (aU (aI (tOp (bh K) (ac 0) (tC (.int 1)))) (aH (tCB (pd K) (ad (ac 2) (af)))) (aM)) (au (aE (aw (iM K A) (fun _ => E0) (ad (tOp (aA K) (ac 2) (ac 3)) (af))) (av 4)) (au (aU (aI (tOp (bh K) (ac 0) (tC (.int 2)))) (aE (aw (jK K A) (fun _ => E0) (ad (tOp (bK) (ac 1) (tC (.int 60))) (af))) (av 4)) (aM)) (au (aE (tOp (ba K) (tOp (ba K) (tSl (fX K) (ac 2) (cZ) (dZ (ac 3))) (bf (ad (ac 4) (af)))) (tSl (fX K) (ac 2) (dZ (tOp (ba K) (ac 3) (tC (.int 1)))) (cZ))) (av 5)) (au (aU (aI (tOp (bh K) (ac 0) (tC (.int 3)))) (aH (tOp (ba K) (bf (ad (aw (iM K A) (fun _ => E0) (ad (tOp (aA K) (ac 2) (tC (.int 0))) (af))) (af))) (tSl (fX K) (ac 5) (dZ (tC (.int 1))) (cZ)))) (aM)) (aH (ac 5))))))))
def Ep (K : W.Frag) (A : Adr) : TS := aU (aI (tOp (fv K) (ac 2) (ac 0))) (aE (ac 3) (re (ac 1) (ac 2) mG)) (aM)
def Ed (K : W.Frag) (A : Adr) : TS := au (aU (mOr (dM (cV K (tCB (dq) (ad (ac 0) (ad (tC (.ty "list")) (af)))))) (aI (tOp (dC K) (tCB (bB K) (ad (ac 0) (af))) (tCB (bB K) (ad (ac 1) (af)))))) (aH (tC (.bl false))) (aM)) (au (eW (wy K (ad (ac 0) (ad (ac 1) (af)))) (mX K 2 (fg (av 2) (fg (av 3) mI))) (aU (mOr (dM (cV K (tCB (dq) (ad (ac 2) (ad (tC (.ty "tuple")) (af)))))) (mOr (aI (tOp (dC K) (ac 2) (ac 3))) (aI (tOp (dC K) (fq [] (dG K (ac 2)) (cV K (tCB (dq) (ad (ac 0) (ad (tC (.ty "bool")) (af))))) (ac 0)) (cM (af)))))) (aH (tC (.bl false))) (aM))) (aH (tC (.bl true))))
def T_3 (K : W.Frag) (A : Adr) : TS := au (aU (mOr (dM (cV K (tCB (dq) (ad (ac 0) (ad (tC (.ty "tuple")) (af)))))) (aI (tOp (dC K) (tCB (bB K) (ad (ac 0) (af))) (tC (.int 2))))) (aH (tC (.bl false))) (aM)) (aH (dh (aw (jF K A) (fun _ => E0) (ad (tOp (aA K) (ac 0) (tC (.int 0))) (ad (tOp (aA K) (ac 1) (tC (.int 0))) (af)))) (aw (jF K A) (fun _ => E0) (ad (tOp (aA K) (ac 0) (tC (.int 1))) (ad (tOp (aA K) (ac 1) (tC (.int 1))) (af))))))
def EX (K : W.Frag) (A : Adr) : TS := aH (dh (aw (gO K A) (fun _ => E0) (ad (ac 0) (af))) (dF (mLe) (mLt) (tC (.int 0)) (ac 0) (tOp (jz) (tC (.int 1)) (tC (.int 60)))))
def EN (K : W.Frag) (A : Adr) : TS := aH (dh (aw (jD K A) (fun _ => E0) (ad (ac 0) (af))) (dh (aw (gO K A) (fun _ => E0) (ad (ac 1) (af))) (dF (mLe) (mLe) (tC (.int 0)) (ac 1) (ac 0))))
def Ej (K : W.Frag) (A : Adr) : TS := aH (tOp (jz) (tC (.int 1)) (tOp (dz) (um K "int" qD (tOp (dz) (ac 0) (tC (.int 1)))) (tC (.int 1))))
def DL (K : W.Frag) (A : Adr) : TS := au (aE (cM (af)) (av 2)) (au (aE (ac 1) (av 3)) (au (aE (ac 0) (av 4)) (au (ig (aI (dF (mLt) (mLt) (tC (.int 0)) (ac 3) (ac 4))) (au (aE (aw (lV K A) (fun _ => E0) (ad (ac 4) (af))) (av 5)) (aU (aI (tOp (mLe) (ac 3) (ac 5))) (au (cp (tBM K "list" bP (ac 2) (ad (tC (.int 0)) (af)))) (aE (ac 5) (av 4))) (au (cp (tBM K "list" bP (ac 2) (ad (tC (.int 1)) (af)))) (au (aE (tOp (dz) (ac 3) (ac 5)) (av 3)) (aE (tOp (dz) (ac 4) (ac 5)) (av 4))))))) (aH (ac 2)))))
def Fr (K : W.Frag) (A : Adr) : TS := aH (dh (tCB (dq) (ad (ac 1) (ad (tC (.ty "tuple")) (af)))) (dh (tOp (bh K) (tCB (bB K) (ad (ac 1) (af))) (ac 0)) (tCB (uW) (ad (fq [] (dG K (ac 1)) (fun _ H Q => Q true H) (aw (iH K A) (fun _ => E0) (ad (ac 0) (af)))) (af)))))
def DS (K : W.Frag) (A : Adr) : TS := aH (cM (ad (bf (ad (tC (.str "void")) (af))) (ad (bf (ad (tC (.str "row")) (ad (tC (.int 0)) (ad (cu (cz K A) (fun _ => E0) (ac 0) (ad (bf (ad (tC (.str "void")) (af))) (af))) (af))))) (af))))
def ED (K : W.Frag) (A : Adr) : TS := aH (mIf (aI (tOp (bh K) (ac 0) (tC (.int 0)))) (bf (ad (tC (.str "joint")) (ad (ac 1) (ad (ac 2) (af))))) (bf (ad (tC (.str "joint")) (ad (ac 2) (ad (ac 1) (af))))))
def DN (K : W.Frag) (A : Adr) : TS := au (aE (cM (af)) (av 4)) (au (aE (cM (af)) (av 5)) (au (aE (tOp (aA K) (ac 3) (tC (.int 0))) (av 6)) (au (aE (tOp (aA K) (ac 3) (tC (.int 0))) (av 7)) (au (eW (dG K (tOp (aA K) (ac 3) (tC (.int 1)))) (av 8) (au (cp (tBM K "list" bP (ac 4) (ad (aw (jU K A) (fun _ => E0) (ad (tOp (aA K) (ac 8) (tC (.int 0))) (ad (ac 6) (ad (tOp (aA K) (ac 8) (tC (.int 1))) (af))))) (af)))) (au (aE (cu (cz K A) (fun _ => E0) (ac 0) (ad (tOp (aA K) (ac 4) (tUn cy (tC (.int 1)))) (af))) (av 6)) (aU (aI (tOp (bh K) (tOp (aA K) (ac 8) (tC (.int 0))) (tC (.int 1)))) (au (cp (tBM K "list" bP (ac 5) (ad (aw (jU K A) (fun _ => E0) (ad (tOp (aA K) (ac 8) (tC (.int 0))) (ad (ac 7) (ad (tOp (aA K) (ac 8) (tC (.int 1))) (af))))) (af)))) (aE (cu (cz K A) (fun _ => E0) (ac 0) (ad (tOp (aA K) (ac 5) (tUn cy (tC (.int 1)))) (af))) (av 7))) (aM))))) (au (cp (tBM K "list" bP (ac 4) (ad (bf (ad (tC (.str "row")) (ad (ac 1) (ad (ac 6) (af))))) (af)))) (au (cp (tBM K "list" bP (ac 5) (ad (bf (ad (tC (.str "row")) (ad (ac 2) (ad (ac 7) (af))))) (af)))) (aH (bf (ad (ac 4) (ad (ac 5) (af)))))))))))
def EA (K : W.Frag) (A : Adr) : TS := au (aE (cM (af)) (av 2)) (au (aE (tC (.int 0)) (av 3)) (au (aE (tOp (dz) (tCB (bB K) (ad (ac 1) (af))) (tC (.int 1))) (av 4)) (au (eW (dG K (ac 0)) (av 5) (aU (aI (tOp (bh K) (ac 5) (tC (.int 0)))) (au (cp (tBM K "list" bP (ac 2) (ad (bf (ad (ac 5) (ad (tOp (aA K) (ac 1) (ac 4)) (af)))) (af)))) (aE (tOp (dz) (ac 4) (tC (.int 1))) (av 4))) (au (cp (tBM K "list" bP (ac 2) (ad (bf (ad (ac 5) (ad (tOp (aA K) (ac 1) (ac 3)) (af)))) (af)))) (aE (tOp (ba K) (ac 3) (tC (.int 1))) (av 3))))) (aH (bf (ad (tOp (aA K) (ac 1) (ac 3)) (ad (tCB (ng K) (ad (ac 2) (af))) (af))))))))
def Fq (K : W.Frag) (A : Adr) : TS := au (aU (dM (cV K (aw (lX K A) (fun _ => E0) (ad (ac 1) (ad (ac 2) (af)))))) (fA) (aM)) (au (aE (aw (mf K A) (fun _ => E0) (ad (ac 1) (ad (ac 2) (af)))) (av 4)) (au (aU (dM (cV K (aw (mD K A) (fun _ => E0) (ad (mIf (aI (tOp (bh K) (ac 1) (tC (.int 0)))) (tC (.int 0)) (tOp (ba K) (tCB (bB K) (ad (ac 4) (af))) (tC (.int 1)))) (ad (ac 3) (af)))))) (fA) (aM)) (au (aU (aI (tOp (bh K) (ac 2) (tC (.int 0)))) (au (aE (mIf (aI (tOp (bh K) (ac 1) (tC (.int 0)))) (aw (jW K A) (fun _ => E0) (ad (ac 0) (af))) (cM (ad (bf (ad (tC (.str "row")) (ad (ac 1) (ad (tOp (aA K) (ac 3) (tC (.int 0))) (af))))) (af)))) (av 5)) (aH (bf (ad (ac 5) (ad (aw (jW K A) (fun _ => E0) (ad (ac 0) (af))) (af)))))) (aM)) (aH (aw (md K A) (fun _ => E0) (ad (ac 0) (ad (ac 1) (ad (ac 2) (ad (aw (lY K A) (fun _ => E0) (ad (ac 4) (ad (ac 3) (af)))) (af))))))))))
def ET (K : W.Frag) (A : Adr) : TS := aH (dh (tCB (dq) (ad (ac 0) (ad (tC (.ty "tuple")) (af)))) (dh (tOp (bh K) (tCB (bB K) (ad (ac 0) (af))) (tC (.int 2))) (dh (aw (jD K A) (fun _ => E0) (ad (tOp (aA K) (ac 0) (tC (.int 0))) (af))) (aw (iH K A) (fun _ => E0) (ad (tOp (aA K) (ac 0) (tC (.int 1))) (af))))))
def EL (K : W.Frag) (A : Adr) : TS := aU (dM (cV K (aw (mi K A) (fun _ => E0) (ad (ac 0) (af))))) (fA) (aM)
def T_0 (K : W.Frag) (A : Adr) : TS := au (qY K A.c_Broken (ac 0) (ac 1) "due") (qY K A.c_Broken (ac 0) (ac 2) "came")
def zv (K : W.Frag) (A : Adr) (E : XK) : TS := au (cp (aw (ms K A) (fun _ => E0) (ad (ac 1) (af)))) (au (aE (aw (iX K A) (fun _ => E0) (ad (ac 0) (ad (tOp (aA K) (ac 1) (tC (.int 0))) (ad (ac 2) (ad (ac 3) (af)))))) (av 4)) (au (aE (cu (cz K A) (fun _ => E0) (ac 0) (ad (tOp (aA K) (tOp (aA K) (ac 4) (tC (.int 0))) (tUn cy (tC (.int 1)))) (af))) (av 5)) (au (aU (aI (tOp (dC K) (ac 5) (tOp (aA K) (ac 1) (tC (.int 1))))) (ph A.c_Broken (qz K A) (fun _ => E) (ad (tOp (aA K) (ac 1) (tC (.int 1))) (ad (ac 5) (af)))) (aM)) (aH (cu (cz K A) (fun _ => E0) (ac 0) (ad (tOp (aA K) (tOp (aA K) (ac 4) (tC (.int 1))) (tUn cy (tC (.int 1)))) (af)))))))
def Ea (K : W.Frag) (A : Adr) : TS := au (aE (tC .non) (av 4)) (au (aE (tC .non) (av 5)) (au (AI K (fun EH => aE (aw (mj K A) EH (ad (ac 0) (ad (ac 1) (ad (ac 2) (ad (ac 3) (af)))))) (av 5)) (hAs K A.c_Broken 6 (aE (ac 6) (av 4)) (wB)) (aM)) (au (aU (aI (tOp (uF) (ac 4) (tC .non))) (aH (bf (ad (tC (.str "mark")) (ad (ac 5) (af))))) (aM)) (aH (bf (ad (tC (.str "broken")) (ad (qd K (ac 4) "due") (ad (qd K (ac 4) "came") (af)))))))))
def Ec (K : W.Frag) (A : Adr) : TS := au (aE (hV) (av 2)) (au (eW (dG K (ac 1)) (av 3) (au (aE (tBM K "dict" kA (ac 2) (ad (cu (cz K A) (fun _ => E0) (ac 0) (ad (ac 3) (af))) (ad (ac 3) (af)))) (av 4)) (aU (aI (tOp (dC K) (ac 4) (ac 3))) (aH (bf (ad (ac 4) (ad (ac 3) (af))))) (aM)))) (aH (tC .non)))
def EV (K : W.Frag) (A : Adr) : TS := au (aU (mOr (dM (cV K (tCB (dq) (ad (ac 2) (ad (tC (.ty "tuple")) (af)))))) (mOr (aI (tOp (dC K) (tCB (bB K) (ad (ac 2) (af))) (tC (.int 2)))) (aI (tOp (bh K) (tOp (aA K) (ac 2) (tC (.int 0))) (tOp (aA K) (ac 2) (tC (.int 1))))))) (aH (tC (.bl false))) (aM)) (au (aU (mOr (aI (tOp (fv K) (tOp (aA K) (ac 2) (tC (.int 0))) (ac 1))) (aI (tOp (fv K) (tOp (aA K) (ac 2) (tC (.int 1))) (ac 1)))) (aH (tC (.bl false))) (aM)) (aH (tOp (bh K) (cu (cz K A) (fun _ => E0) (ac 0) (ad (tOp (aA K) (ac 2) (tC (.int 0))) (af))) (cu (cz K A) (fun _ => E0) (ac 0) (ad (tOp (aA K) (ac 2) (tC (.int 1))) (af))))))
def xM (K : W.Frag) (A : Adr) : TS := aH (dh (tOp (mLt) (ac 1) (tC (.int 3))) (aw (jQ K A) (fun _ => E0) (ad (ac 4) (ad (ac 19) (ad (aw (gM K A) (fun _ => E0) (ad (ac 4) (ad (ac 19) (af)))) (af))))))
def pC (K : W.Frag) (A : Adr) : TS := au (aU (aI (tOp (bh K) (ac 11) (ac 8))) (aH (tC (.bl true))) (aM)) (xM K A)
def xu (K : W.Frag) (A : Adr) : TS := au (aU (mOr (aI (tOp (dC K) (ac 18) (bf (ad (tC (.str "mark")) (ad (cu (cz K A) (fun _ => E0) (ac 4) (ad (tOp (aA K) (tOp (aA K) (ac 14) (tC (.int 1))) (tUn cy (tC (.int 1)))) (af))) (af)))))) (cV K (tCB (dq) (ad (tOp (aA K) (ac 18) (tC (.int 1))) (ad (tC (.ty "bool")) (af)))))) (aH (tC (.bl false))) (aM)) (pC K A)
def pb (K : W.Frag) (A : Adr) : TS := au (aU (aI (tOp (dC K) (ac 15) (ac 10))) (aH (tOp (bh K) (ac 18) (bf (ad (tC (.str "broken")) (ad (ac 10) (ad (ac 15) (af))))))) (aM)) (xu K A)
def wU (K : W.Frag) (A : Adr) : TS := au (aU (kQ (aI (tOp (bh K) (ac 1) (tC (.int 3)))) (aI (tOp (mB) (aw (gM K A) (fun _ => E0) (ad (ac 4) (ad (ac 19) (af)))) (tC .non)))) (aH (tC (.bl false))) (aM)) (pb K A)
def oP (K : W.Frag) (A : Adr) : TS := au (aE (tOp (ba K) (tOp (ba K) (tOp (ba K) (tOp (aA K) (ac 9) (tC (.int 0))) (tOp (aA K) (ac 9) (tC (.int 1)))) (tOp (aA K) (ac 14) (tC (.int 0)))) (tOp (aA K) (ac 14) (tC (.int 1)))) (av 19)) (wU K A)
def pA (K : W.Frag) (A : Adr) : TS := au (aE (aw (gH K A) (fun _ => E0) (ad (ac 4) (ad (bf (ad (ac 5) (ad (ac 10) (af)))) (ad (ac 6) (ad (ac 11) (af)))))) (av 18)) (oP K A)
def pJ (K : W.Frag) (A : Adr) : TS := au (aU (aI (tOp (dC K) (aw (gH K A) (fun _ => E0) (ad (ac 4) (ad (bf (ad (ac 5) (ad (ac 10) (af)))) (ad (ac 6) (ad (ac 8) (af)))))) (bf (ad (tC (.str "mark")) (ad (cu (cz K A) (fun _ => E0) (ac 4) (ad (tOp (aA K) (tOp (aA K) (ac 9) (tC (.int 1))) (tUn cy (tC (.int 1)))) (af))) (af)))))) (aH (tC (.bl false))) (aM)) (pA K A)
def pf (K : W.Frag) (A : Adr) : TS := au (eW (dG K (cM (ad (bf (ad (ac 8) (ad (ac 9) (af)))) (ad (bf (ad (ac 11) (ad (ac 14) (af)))) (af))))) (mX K 2 (fg (av 16) (fg (av 17) mI))) (aU (dM (cV K (aw (mL K A) (fun _ => E0) (ad (aw (iX K A) (fun _ => E0) (ad (ac 4) (ad (ac 5) (ad (ac 6) (ad (ac 16) (af)))))) (ad (ac 17) (af)))))) (aH (tC (.bl false))) (aM))) (pJ K A)
def xD (K : W.Frag) (A : Adr) : TS := au (aE (cu (cz K A) (fun _ => E0) (ac 4) (ad (tOp (aA K) (tOp (aA K) (ac 14) (tC (.int 0))) (tUn cy (tC (.int 1)))) (af))) (av 15)) (pf K A)
def pB (K : W.Frag) (A : Adr) : TS := au (aE (aw (gJ K A) (fun _ => E0) (ad (ac 4) (ad (ac 5) (ad (ac 6) (ad (ac 7) (ad (ac 11) (ad (tCB (bB K) (ad (ac 7) (af))) (af)))))))) (av 14)) (xD K A)
def oQ (K : W.Frag) (A : Adr) : TS := au (aU (aI (tOp (mLt) (ac 1) (tC (.int 2)))) (au (aE (tOp (aA K) (tOp (aA K) (aw (gJ K A) (fun _ => E0) (ad (ac 4) (ad (ac 5) (ad (ac 6) (ad (ac 7) (ad (ac 11) (ad (ac 12) (af)))))))) (tC (.int 0))) (tUn cy (tC (.int 1)))) (av 13)) (cp (aw (jR K A) (fun _ => E0) (ad (ac 2) (ad (ac 3) (ad (ac 13) (ad (tOp (aA K) (tOp (aA K) (ac 9) (tC (.int 0))) (ac 12)) (af)))))))) (aM)) (pB K A)
def xN (K : W.Frag) (A : Adr) : TS := au (aE (tOp (bG) (aw (eB K A) (fun _ => E0) (ad (ac 0) (ad (tC (.int 4)) (af)))) (tCB (bB K) (ad (tOp (aA K) (ac 9) (tC (.int 0))) (af)))) (av 12)) (oQ K A)
def xJ (K : W.Frag) (A : Adr) : TS := au (aE (aw (nV K A) (fun _ => E0) (ad (tOp (bG) (aw (eB K A) (fun _ => E0) (ad (ac 0) (ad (tC (.int 3)) (af)))) (tC (.int 6))) (ad (tOp (bK) (aw (eB K A) (fun _ => E0) (ad (ac 0) (ad (tC (.int 3)) (af)))) (tC (.int 6))) (ad (ac 8) (af))))) (av 11)) (xN K A)
def Av (K : W.Frag) (A : Adr) : TS := au (aE (cu (cz K A) (fun _ => E0) (ac 4) (ad (tOp (aA K) (tOp (aA K) (ac 9) (tC (.int 0))) (tUn cy (tC (.int 1)))) (af))) (av 10)) (xJ K A)
def zd (K : W.Frag) (A : Adr) : TS := au (aE (aw (gJ K A) (fun _ => E0) (ad (ac 4) (ad (ac 5) (ad (ac 6) (ad (ac 7) (ad (ac 8) (ad (tCB (bB K) (ad (ac 7) (af))) (af)))))))) (av 9)) (Av K A)
def Ef (K : W.Frag) (A : Adr) : TS := au (aE (tOp (bG) (aw (eB K A) (fun _ => E0) (ad (ac 0) (ad (tC (.int 0)) (af)))) (tC (.int 4))) (av 1)) (au (aE (hV) (av 2)) (au (aE (hV) (av 3)) (au (aE (aw (mF K A) (fun _ => E0) (ad (ac 1) (ad (tOp (bK) (aw (eB K A) (fun _ => E0) (ad (ac 0) (ad (tC (.int 0)) (af)))) (tC (.int 4))) (ad (ac 2) (ad (ac 3) (af)))))) (av 4)) (au (aE (aw (qj K A) (fun _ => E0) (ad (aw (eB K A) (fun _ => E0) (ad (ac 0) (ad (tC (.int 1)) (af)))) (af))) (av 5)) (au (aE (aw (qh K A) (fun _ => E0) (ad (aw (eB K A) (fun _ => E0) (ad (ac 0) (ad (tC (.int 2)) (af)))) (ad (ac 5) (af)))) (av 6)) (au (aE (aw (mz K A) (fun _ => E0) (ad (ac 5) (ad (ac 6) (af)))) (av 7)) (au (aE (tCB (sL K) (ad (fq [0] (iW (ad (tOp (ba K) (tCB (bB K) (ad (ac 7) (af))) (tC (.int 1))) (af))) (fun _ H Q => Q true H) (aw (jK K A) (fun _ => E0) (ad (tOp (ba K) (aw (eB K A) (fun _ => E0) (ad (ac 1) (ad (tOp (ba K) (tC (.int 5)) (ac 0)) (af)))) (tOp (eS) (tC (.int 5)) (ac 0))) (af)))) (af))) (av 8)) (au (aE (aw (gJ K A) (fun _ => E0) (ad (ac 4) (ad (ac 5) (ad (ac 6) (ad (ac 7) (ad (ac 8) (ad (tCB (bB K) (ad (ac 7) (af))) (af)))))))) (av 9)) (au (aE (cu (cz K A) (fun _ => E0) (ac 4) (ad (tOp (aA K) (tOp (aA K) (ac 9) (tC (.int 0))) (tUn cy (tC (.int 1)))) (af))) (av 10)) (au (aE (aw (nV K A) (fun _ => E0) (ad (tOp (bG) (aw (eB K A) (fun _ => E0) (ad (ac 0) (ad (tC (.int 3)) (af)))) (tC (.int 6))) (ad (tOp (bK) (aw (eB K A) (fun _ => E0) (ad (ac 0) (ad (tC (.int 3)) (af)))) (tC (.int 6))) (ad (ac 8) (af))))) (av 11)) (au (aE (tOp (bG) (aw (eB K A) (fun _ => E0) (ad (ac 0) (ad (tC (.int 4)) (af)))) (tCB (bB K) (ad (tOp (aA K) (ac 9) (tC (.int 0))) (af)))) (av 12)) (au (aU (aI (tOp (mLt) (ac 1) (tC (.int 2)))) (au (aE (tOp (aA K) (tOp (aA K) (aw (gJ K A) (fun _ => E0) (ad (ac 4) (ad (ac 5) (ad (ac 6) (ad (ac 7) (ad (ac 11) (ad (ac 12) (af)))))))) (tC (.int 0))) (tUn cy (tC (.int 1)))) (av 13)) (cp (aw (jR K A) (fun _ => E0) (ad (ac 2) (ad (ac 3) (ad (ac 13) (ad (tOp (aA K) (tOp (aA K) (ac 9) (tC (.int 0))) (ac 12)) (af)))))))) (aM)) (au (aE (aw (gJ K A) (fun _ => E0) (ad (ac 4) (ad (ac 5) (ad (ac 6) (ad (ac 7) (ad (ac 11) (ad (tCB (bB K) (ad (ac 7) (af))) (af)))))))) (av 14)) (au (aE (cu (cz K A) (fun _ => E0) (ac 4) (ad (tOp (aA K) (tOp (aA K) (ac 14) (tC (.int 0))) (tUn cy (tC (.int 1)))) (af))) (av 15)) (au (eW (dG K (cM (ad (bf (ad (ac 8) (ad (ac 9) (af)))) (ad (bf (ad (ac 11) (ad (ac 14) (af)))) (af))))) (mX K 2 (fg (av 16) (fg (av 17) mI))) (aU (dM (cV K (aw (mL K A) (fun _ => E0) (ad (aw (iX K A) (fun _ => E0) (ad (ac 4) (ad (ac 5) (ad (ac 6) (ad (ac 16) (af)))))) (ad (ac 17) (af)))))) (aH (tC (.bl false))) (aM))) (au (aU (aI (tOp (dC K) (aw (gH K A) (fun _ => E0) (ad (ac 4) (ad (bf (ad (ac 5) (ad (ac 10) (af)))) (ad (ac 6) (ad (ac 8) (af)))))) (bf (ad (tC (.str "mark")) (ad (cu (cz K A) (fun _ => E0) (ac 4) (ad (tOp (aA K) (tOp (aA K) (ac 9) (tC (.int 1))) (tUn cy (tC (.int 1)))) (af))) (af)))))) (aH (tC (.bl false))) (aM)) (au (aE (aw (gH K A) (fun _ => E0) (ad (ac 4) (ad (bf (ad (ac 5) (ad (ac 10) (af)))) (ad (ac 6) (ad (ac 11) (af)))))) (av 18)) (au (aE (tOp (ba K) (tOp (ba K) (tOp (ba K) (tOp (aA K) (ac 9) (tC (.int 0))) (tOp (aA K) (ac 9) (tC (.int 1)))) (tOp (aA K) (ac 14) (tC (.int 0)))) (tOp (aA K) (ac 14) (tC (.int 1)))) (av 19)) (au (aU (kQ (aI (tOp (bh K) (ac 1) (tC (.int 3)))) (aI (tOp (mB) (aw (gM K A) (fun _ => E0) (ad (ac 4) (ad (ac 19) (af)))) (tC .non)))) (aH (tC (.bl false))) (aM)) (au (aU (aI (tOp (dC K) (ac 15) (ac 10))) (aH (tOp (bh K) (ac 18) (bf (ad (tC (.str "broken")) (ad (ac 10) (ad (ac 15) (af))))))) (aM)) (au (aU (mOr (aI (tOp (dC K) (ac 18) (bf (ad (tC (.str "mark")) (ad (cu (cz K A) (fun _ => E0) (ac 4) (ad (tOp (aA K) (tOp (aA K) (ac 14) (tC (.int 1))) (tUn cy (tC (.int 1)))) (af))) (af)))))) (cV K (tCB (dq) (ad (tOp (aA K) (ac 18) (tC (.int 1))) (ad (tC (.ty "bool")) (af)))))) (aH (tC (.bl false))) (aM)) (au (aU (aI (tOp (bh K) (ac 11) (ac 8))) (aH (tC (.bl true))) (aM)) (aH (dh (tOp (mLt) (ac 1) (tC (.int 3))) (aw (jQ K A) (fun _ => E0) (ad (ac 4) (ad (ac 19) (ad (aw (gM K A) (fun _ => E0) (ad (ac 4) (ad (ac 19) (af)))) (af)))))))))))))))))))))))))))))
end Rs
namespace Rs
open PySem PySem.Spec PyProof.Rows L2
def tyD : Dat → String
 | .non => "NoneType"
 | .bl _ => "bool"
 | .int _ => "int"
 | .str _ => "str"
 | .lst _ => "list"
 | .tup _ => "tuple"
 | .dic => "dict"
theorem dv.ty {H : Hp} {v : V} {d : Dat} (h : dv H v d) : tyN H v = some (tyD d) := by
 cases h with
 | lst e _ => unfold tyN; dsimp only; rw [e]; rfl
 | tup e _ => unfold tyN; dsimp only; rw [e]; rfl
 | dic e => unfold tyN; dsimp only; rcases e with ⟨kvs, e⟩ | ⟨kvs, e⟩ <;> rw [e] <;> rfl
 | _ => rfl
theorem sq {z : Str} (h : ci z = true) : PyData.strOk z = true := by
 unfold PyData.strOk
 unfold ci at h
 rw [Array.all_eq_true] at h ⊢
 intro i hi
 have := of_decide_eq_true (h i hi)
 exact decide_eq_true (by omega)
theorem ixT {K : W.Frag} {H : Hp} {Q : VK} {a : Addr} {xs : List V} {x : V} {i : Int} {j : Nat} (ha : H a = some (.tup xs)) (e : i = j) (hx : xs[j]? = some x) (q : Q x H) : aA K (.ref a) (.int i) H Q := by
 subst e
 refine .inl (.inr (.inl ⟨a, xs, j, x, rfl, rfl, SqT.of ha, ?_, q⟩))
 have hj := (List.getElem?_eq_some_iff.mp hx).1
 rw [rz (by omega) (by omega)]
 simp [List.getD_eq_getElem?_getD, hx]
variable {K : W.Frag} {mg : Str → Option Value} {A : Adr}
theorem AE (K : W.Frag) (A : Adr) : Ln (gO K A) 1 := by rintro vs H Q E ⟨v, d, rfl, _⟩; rfl
theorem AZ (T : Txt K mg A) (vs : List V) (H : Hp) (Q : VK) (E : XK) (h : gO K A vs H Q E) : DV K A { nx := fun _ H' => Q .non H', rt := Q } (start ["thing"] vs) H := by
 obtain ⟨v, d, rfl, w, q⟩ := h
 refine ⟨by decide, _, w.ty, ?_⟩
 cases d
 case int i => exact Sel.yes rfl ⟨by decide, _, w.ty, q⟩
 case bl b => exact Sel.yes rfl ⟨by decide, _, w.ty, q⟩
 all_goals exact Sel.no rfl q
theorem yi (K : W.Frag) (A : Adr) : Ln (iH K A) 1 := by rintro vs H Q E ⟨v, d, rfl, _⟩; rfl
theorem Bq (T : Txt K mg A) (vs : List V) (H : Hp) (Q : VK) (E : XK) (h : iH K A vs H Q E) : EU K A { nx := fun _ H' => Q .non H', rt := Q } (start ["thing"] vs) H := by
  obtain ⟨v, d, rfl, w, q⟩ := h
  refine ⟨v, d, rfl, w, ?_⟩
  cases w with
  | int i =>
    refine Sel.yes rfl (Sel.dec (fun h0 => ⟨⟨by decide, by decide, by decide⟩, ?_⟩) (fun h0 => ?_))
    · show Q (.bl (decide (i < 10 ^ ((60 : Int).toNat)))) H
      have e : fD (.int i) = decide (i < 10 ^ ((60 : Int).toNat)) := by
        show decide (0 ≤ i ∧ i < 10 ^ 60) = decide (i < 10 ^ 60)
        by_cases h1 : i < 10 ^ 60
        · rw [decide_eq_true h1, decide_eq_true ⟨h0, h1⟩]
        · rw [decide_eq_false h1, decide_eq_false fun z => h1 z.2]
      rw [← e]; exact q
    · have e : fD (.int i) = false := decide_eq_false fun z => h0 z.1
      rw [← e]; exact q
  | non => exact Sel.no rfl ⟨by decide, _, rfl, q⟩
  | bl b => exact Sel.no rfl ⟨by decide, _, rfl, q⟩
  | str z => exact Sel.no rfl ⟨by decide, _, rfl, q⟩
  | lst e r => exact Sel.no rfl ⟨by decide, _, (dv.lst e r).ty, q⟩
  | tup e r => exact Sel.no rfl ⟨by decide, _, (dv.tup e r).ty, q⟩
  | dic e => exact Sel.no rfl ⟨by decide, _, (dv.dic e).ty, q⟩
end Rs
namespace Rs
open PySem PySem.Spec PyProof.Rows L2
theorem lI {x y : Str} (h1 : ci x = true) (h2 : ci y = true) : ci (x ++ y) = true := by
 unfold ci at h1 h2 ⊢
 show (x.cps ++ y.cps).all _ = true
 rw [Array.all_append, h1, h2]; rfl
theorem sB (H : Hp) (m : Key) : dv H (kV m) (ku m) := by cases m <;> constructor
end Rs
namespace Rs
open PySem PySem.Spec PyProof.Rows L2
theorem vo {K : W.Frag} {H : Hp} {Q : VK} {a b : Key} (q : Q (.bl (decide (a = b))) H) : bh K (kV a) (kV b) H Q := by
 cases a <;> cases b
 · rename_i i j
   have e : decide ((Sum.inl i : Key) = Sum.inl j) = decide (i = j) := by simp
   rw [e] at q; exact q
 · have e : ∀ (i : Int) (j : Str), decide ((Sum.inl i : Key) = Sum.inr j) = false := by simp
   rw [e] at q; exact q
 · have e : ∀ (i : Int) (j : Str), decide ((Sum.inr j : Key) = Sum.inl i) = false := by simp
   rw [e] at q; exact q
 · rename_i i j
   have e : decide ((Sum.inr i : Key) = Sum.inr j) = decide (i = j) := by simp
   rw [e] at q; exact q
variable {K : W.Frag} {mg : Str → Option Value} {A : Adr}
theorem zX {H : Hp} {ps : List Addr} {ts : List (List Key)} (h : PK H ps ts) : ∀ {i : Nat} {t : List Key}, ts[i]? = some t → ∃ p, ps[i]? = some p ∧ H p = some (.tup (t.map kV)) ∧ okT t = true := by
  induction h with
  | nil => intro i t e; cases e
  | cons r _ ih =>
    intro i t e
    cases i with
    | zero => cases e; exact ⟨_, rfl, r⟩
    | succ i => exact ih e
theorem bO {H : Hp} {ps : List Addr} {ts : List (List Key)} (h : PK H ps ts) : ps.length = ts.length := Paired.length h
theorem kH {k : List Key} (h : okT k = true) : 1 ≤ k.length ∧ k.length ≤ 8 := by
 unfold okT at h
 simp only [Bool.and_eq_true] at h
 exact of_decide_eq_true h.1.1
end Rs
namespace Rs
open PySem PySem.Spec PyProof.Rows L2
theorem eF {k : List Key} (h : okT k = true) : k.all okP = true := by
 unfold okT at h
 rw [Bool.and_eq_true] at h
 exact h.2
theorem iK {k : List Key} {x : Key} (h : okT k = true) (hx : x ∈ k) : okP x = true := List.all_eq_true.mp (eF h) x hx
theorem uL {k : List Key} (h : okT k = true) : ∃ z r, k = .inr z :: r := by
  unfold okT at h
  simp only [Bool.and_eq_true] at h
  cases k with
  | nil => cases h.1.2
  | cons x r =>
    cases x with
    | inl i => cases h.1.2
    | inr z => exact ⟨z, r, rfl⟩
theorem vA {x : Key} (h : okP x = true) : fD (ku x) = true := by
 cases x with
 | inl i => exact h
 | inr z => rfl
theorem li {i : Int} (h0 : 0 ≤ i) (h1 : i < 10 ^ 60) : i.natAbs.log2 < 1920 := by
 by_cases e : i.natAbs = 0
 · rw [e]; decide
 · refine (Nat.log2_lt e).mpr ?_
   have : i.natAbs < 10 ^ 60 := by omega
   exact Nat.lt_of_lt_of_le this (by decide +kernel)
theorem fe {i : Int} (h0 : 0 ≤ i) (h1 : i < 10 ^ 60) : ((toString i : String) : Str).length ≤ 61 := by
 have : i.natAbs < 10 ^ 60 := by omega
 have := int_text_length_le10 (k := 60) (by decide) this
 show (Str.ofString _).length ≤ _
 rw [PySem.ofString_length]; exact this
theorem gh (s : String) (h : s.length = 1 := by rfl) : (s : Str).length = 1 := by
 show (Str.ofString s).length = 1
 rw [PySem.ofString_length]; exact h
theorem kZ {x : Key} (h : okP x = true) : (cn x).length ≤ szK x := by
  cases x with
  | inl i =>
    have h := of_decide_eq_true h
    have := fe h.1 h.2
    show (((toString i : String) : Str) ++ ((";" : String) : Str)).length ≤ 62
    rw [strLen_append, gh ";"]; omega
  | inr z =>
    have h := of_decide_eq_true (Bool.and_eq_true_iff.mp h).2
    have := fe (i := (z.length : Int)) (by omega) (by omega)
    show (((toString (z.length : Int) : String) : Str) ++ ((":" : String) : Str) ++ z).length ≤ z.length + 62
    rw [strLen_append, strLen_append, gh ":"]; omega
theorem Ao {x : Key} (h : okP x = true) : szK x ≤ 100062 := by
  cases x with
  | inl i => show 62 ≤ 100062; decide
  | inr z =>
    have h := of_decide_eq_true (Bool.and_eq_true_iff.mp h).2
    show z.length + 62 ≤ 100062; omega
theorem mY : ∀ xs : List Key, cb xs = (xs.map cn).foldr (· ++ ·) Str.empty
 | [] => rfl
 | x :: r => by show cn x ++ cb r = cn x ++ _; rw [mY r]
theorem lg : ∀ {k : List Key}, k.all okP = true → (cb k).length ≤ szT k
  | [], _ => by show Str.empty.length ≤ 0; decide
  | x :: r, h => by
    rw [List.all_cons, Bool.and_eq_true] at h
    have h1 := kZ h.1
    have h2 := lg h.2
    show (cn x ++ cb r).length ≤ ((x :: r).map szK).sum
    rw [strLen_append, List.map_cons, List.sum_cons]
    unfold szT at h2
    omega
theorem iJ {x y : Str} (h1 : ci x = true) (h2 : ci y = true) : ci (x ++ y) = true := lI h1 h2
theorem uz {z : Str} (h : ∀ c ∈ z.cps.toList, c < 128) : ci z = true := by
 unfold ci
 rw [Array.all_eq_true]
 intro i hi
 exact decide_eq_true (h _ (by simp))
theorem xY (n : Nat) : ci ((toString (n : Int) : String) : Str) = true := by
 refine uz fun c hc => ?_
 rw [W.KIN.signs_num n] at hc
 obtain ⟨ch, hch, e⟩ := List.mem_map.mp hc
 have := digit_range (Nat.isDigit_of_mem_toDigits (by decide) (by decide) hch)
 rw [← e]; omega
theorem pv {i : Int} (h : 0 ≤ i) : ci ((toString i : String) : Str) = true := by
 obtain ⟨n, rfl⟩ := Int.eq_ofNat_of_zero_le h
 exact xY n
theorem rY {x : Key} (h : okP x = true) : ci (cn x) = true := by
  cases x with
  | inl i =>
    have h := of_decide_eq_true h
    exact iJ (pv h.1) (by decide +kernel)
  | inr z =>
    have h := (Bool.and_eq_true_iff.mp h).1
    exact iJ (iJ (pv (by omega)) (by decide +kernel)) h
theorem lB : ∀ {k : List Key}, k.all okP = true → ci (cb k) = true
  | [], _ => by decide +kernel
  | x :: r, h => by
    rw [List.all_cons, Bool.and_eq_true] at h
    exact iJ (rY h.1) (lB h.2)
theorem oW : ∀ {k : List Key}, k.all okP = true → szT k ≤ k.length * 100062
  | [], _ => by decide
  | x :: r, h => by
    rw [List.all_cons, Bool.and_eq_true] at h
    have h1 := Ao h.1
    have h2 := oW h.2
    show ((x :: r).map szK).sum ≤ _
    rw [List.map_cons, List.sum_cons, List.length_cons, Nat.succ_mul]
    unfold szT at h2
    omega
theorem nU : ∀ {k : List Key}, k.all okP = true → ((k.map cn).map (·.length)).sum ≤ szT k
  | [], _ => by decide
  | x :: r, h => by
    rw [List.all_cons, Bool.and_eq_true] at h
    have h1 := kZ h.1
    have h2 := nU h.2
    show (((x :: r).map cn).map (·.length)).sum ≤ ((x :: r).map szK).sum
    rw [List.map_cons, List.map_cons, List.sum_cons, List.map_cons, List.sum_cons]
    unfold szT at h2
    omega
variable {K : W.Frag} {mg : Str → Option Value} {A : Adr}
theorem yh (K : W.Frag) (A : Adr) : Ln (kc K A) 1 := by rintro vs H Q E ⟨p, k, rfl, _⟩; rfl
theorem CH (T : Txt K mg A) : Rd (kc K A) (Ek K A) ["thing"] := by
 intro vs H Q E h
 obtain ⟨p, k, rfl, hp, ok, q⟩ := h
 obtain ⟨l1, l8⟩ := kH ok
 obtain ⟨z, r, hk⟩ := uL ok
 have ty : tyN H (.ref p) = some "tuple" := by unfold tyN; dsimp only; rw [hp]
 refine ⟨by decide, "tuple", ty, Sel.no rfl (.inl (.inr (.inl ⟨_, SqT.of hp, ?_⟩)))⟩
 refine Sel.dec (fun h1 => ?_) (fun h1 => absurd (by simp; omega) h1)
 refine Sel.ndec (fun h8 => absurd (by simp; omega) h8) (fun h8 => ?_)
 refine ixT (j := 0) hp rfl (by rw [hk]; rfl) ⟨by decide, "str", rfl, Sel.yes rfl ?_⟩
 refine ⟨p, rfl, .inr ⟨⟨_, SqT.of hp⟩, fun D hD => ?_⟩⟩
 have hne : p ≠ D := ar hp hD
 have hml : (k.map kV).length = k.length := by simp
 refine fu (dY.tuple (xs := k.map kV) .non) (fun i ys H2 => ys = (k.take i).map (fun x => V.bl true) ∧ H2 = upd H D (.lst ys)) (fun i ys H2 hi ⟨_, e2⟩ => ?_) ⟨rfl, rfl⟩ (fun i ys H2 hi ⟨e1, e2⟩ => ?_) (fun ys H2 ⟨e1, e2⟩ => ?_)
 · rw [e2]; exact SqT.of (by rw [ak hne]; exact hp)
 · subst e2
   have hi' : i < k.length := by omega
   obtain ⟨x, hx⟩ : ∃ x, k[i]? = some x := ⟨_, List.getElem?_eq_getElem hi'⟩
   have hg : (k.map kV).getD i .non = kV x := by rw [List.getD_eq_getElem?_getD, List.getElem?_map, hx]; rfl
   rw [hg]
   have hs := vA (iK ok (List.mem_of_getElem? hx))
   refine mP ⟨_, ku x, rfl, sB _ x, ?_⟩
   rw [hs]
   have hyl : ys.length = i := by rw [e1, List.length_map, List.length_take]; omega
   refine ⟨ag, by rw [hyl]; exact bj (by omega), CWd.next hi ⟨?_, eN⟩⟩
   rw [e1, List.take_add_one, List.map_append, hx]; rfl
 · subst e2
   refine ⟨D, k.map fun _ => true, rfl, by rw [ag, e1, hml, List.take_length, List.map_map]; rfl, ?_⟩
   have : (k.map fun _ => true).all id = true := by simp
   rw [this]; exact q _ (ao.upd hD)
theorem AR (K : W.Frag) (A : Adr) : Ln (mx K A) 1 := by rintro vs H Q E ⟨v, rfl, _⟩; rfl
theorem CO (T : Txt K mg A) : Rd (mx K A) (ER K A) ["part", "signs"] := by
  intro vs H Q E h
  obtain ⟨v, rfl, hp, q⟩ := h
  cases v with
  | inl i =>
    have h := of_decide_eq_true hp
    have l := fe h.1 h.2
    refine ⟨.int i, .int i, rfl, .int i, Sel.t ?_⟩
    have e1 : Str.empty ++ ((toString i : String) : Str) = ((toString i : String) : Str) := Str.empty_append _
    have l2 : (((toString i : String) : Str) ++ ((";" : String) : Str)).length ≤ sizeLine := by rw [strLen_append, gh ";"]; exact ax (by omega)
    refine ⟨li h.1 h.2, by rw [e1]; exact ax (by omega), ?_, ?_, ?_⟩ <;> rw [e1]
    · exact l2
    · exact l2
    · exact q
  | inr z =>
    have h := of_decide_eq_true (Bool.and_eq_true_iff.mp hp).2
    have l := fe (i := (z.length : Int)) (by omega) (by omega)
    refine ⟨.str z, .str z, rfl, .str z, Sel.f ?_⟩
    have e1 : Str.empty ++ ((toString (z.length : Int) : String) : Str) = ((toString (z.length : Int) : String) : Str) := Str.empty_append _
    have l2 : (((toString (z.length : Int) : String) : Str) ++ ((":" : String) : Str)).length ≤ sizeLine := by rw [strLen_append, gh ":"]; exact ax (by omega)
    have l3 : (((toString (z.length : Int) : String) : Str) ++ ((":" : String) : Str) ++ z).length ≤ sizeLine := by rw [strLen_append, strLen_append, gh ":"]; exact ax (by omega)
    refine .inl ⟨ax (by omega), li (by omega) (by omega), by rw [e1]; exact ax (by omega), ?_, ax (by omega), ?_, ?_, ?_⟩ <;> rw [e1]
    · exact l2
    · exact l3
    · exact l3
    · exact q
theorem Aw (K : W.Frag) (A : Adr) : Ln (jP K A) 1 := by rintro vs H Q E ⟨p, k, rfl, _⟩; rfl
theorem AU (T : Txt K mg A) : Rd (jP K A) (EZ K A) ["term"] := by
 intro vs H Q E h
 obtain ⟨p, k, rfl, hp, ok, q⟩ := h
 refine ⟨p, k, rfl, hp, ok, fun H' s => Sel.no rfl ?_⟩
 have hp' := s _ _ hp
 have hml : (k.map kV).length = k.length := by simp
 obtain ⟨l1, l8⟩ := kH ok
 refine ⟨rfl, ⟨p, rfl, .inr ⟨⟨_, SqT.of hp'⟩, fun D hD => ?_⟩⟩⟩
 have hne : p ≠ D := ar hp' hD
 refine fu (dY.tuple (xs := k.map kV) .non) (fun i ys H2 => ys = (k.take i).map (fun x => V.str (cn x)) ∧ H2 = upd H' D (.lst ys)) (fun i ys H2 hi ⟨_, e2⟩ => ?_) ⟨rfl, rfl⟩ (fun i ys H2 hi ⟨e1, e2⟩ => ?_) (fun ys H2 ⟨e1, e2⟩ => ?_)
 · rw [e2]; exact SqT.of (by rw [ak hne]; exact hp')
 · subst e2
   have hi' : i < k.length := by omega
   obtain ⟨x, hx⟩ : ∃ x, k[i]? = some x := ⟨_, List.getElem?_eq_getElem hi'⟩
   have hg : (k.map kV).getD i .non = kV x := by rw [List.getD_eq_getElem?_getD, List.getElem?_map, hx]; rfl
   rw [hg]
   refine mP ⟨x, rfl, iK ok (List.mem_of_getElem? hx), ?_⟩
   have hyl : ys.length = i := by rw [e1, List.length_map, List.length_take]; omega
   refine ⟨ag, by rw [hyl]; exact bj (by omega), CWd.next hi ⟨?_, eN⟩⟩
   rw [e1, List.take_add_one, List.map_append, hx]; rfl
 · subst e2
   refine ⟨"", D, k.map cn, rfl, rfl, by rw [ag, e1, hml, List.take_length, List.map_map]; rfl, ?_, ?_⟩
   · have h1 := nU (eF ok)
     have h2 := oW (eF ok)
     have e0 : (("" : String) : Str).length = 0 := by decide
     rw [e0]
     have : k.length * 100062 ≤ 8 * 100062 := Nat.mul_le_mul_right _ l8
     omega
   · rw [kC, ← mY]
     exact q _ (s.trans (ao.upd hD))
theorem Cm (K : W.Frag) (A : Adr) : Ln (qL K A) 1 := by rintro vs H Q E ⟨x, dx, rfl, _⟩; rfl
theorem EG (T : Txt K mg A) : Rd (qL K A) (T_1 K A) ["self"] := by
 intro vs H Q E h
 obtain ⟨x, dx, rfl, hx, q⟩ := h
 exact .inr fun d hd => ⟨x, A.c_Numbers, dx, [], rfl, by rw [ak (ar hx hd)]; exact hx, T.cl_Numbers, T.na_Numbers_given, by decide, q d hd⟩
theorem fi.mono {H H' : Hp} {x d : Addr} {kvs : List (List Key × V)} (s : ao H H') (n : fi A H x d kvs) : fi A H' x d kvs := by
 obtain ⟨⟨dx, h1⟩, h2⟩ := n
 exact ⟨⟨dx, s _ _ h1⟩, s _ _ h2⟩
theorem fi.hide {H : Hp} {x d : Addr} {kvs : List (List Key × V)} {cs : List Addr} {cvs : List V} (hc : bW H cs cvs) (n : fi A H x d kvs) : fi A (cr cs H) x d kvs := by
 obtain ⟨⟨dx, h1⟩, h2⟩ := n
 exact ⟨⟨dx, hc.hide h1 (fun _ z => nomatch z)⟩, hc.hide h2 (fun _ z => nomatch z)⟩
theorem BF (K : W.Frag) (A : Adr) : Ln (qq K A) 2 := by rintro vs H Q E ⟨x, d, p, kvs, k, rfl, _⟩; rfl
theorem EB (T : Txt K mg A) : Rd (qq K A) (T_2 K A) ["self", "term"] := by
  intro vs H Q E h
  obtain ⟨x, d, a, kvs, k, rfl, nu, hl, hp, ok, q⟩ := h
  refine ⟨a, k, rfl, hp, ok, fun H' s => Sel.no rfl ?_⟩
  have ta' := s _ _ hp
  obtain ⟨⟨dx, hx⟩, hd⟩ := nu.mono s
  have q := q H' s
  have g := cO.t hd ta'
  refine ⟨x, A.c_Numbers, dx, _, .ref d, rfl, hx, T.cl_Numbers, T.na_Numbers_given, rfl, .inl ⟨d, bn kvs k, rfl, g, ?_⟩⟩
  unfold gA gL at q
  cases e : bn kvs k with
  | some w =>
    rw [e] at q g
    have q : Q w H' := q
    exact Sel.no rfl ⟨x, A.c_Numbers, dx, _, .ref d, rfl, hx, T.cl_Numbers, T.na_Numbers_given, rfl, .inr ⟨d, w, rfl, g, q⟩⟩
  | none =>
    rw [e] at q g
    have q : Q (.int kvs.length) (upd H' d (.dT (bT kvs k (.int kvs.length)))) := q
    have hx' : upd H' d (.dT (bT kvs k (.int kvs.length))) x = some (.ins A.c_Numbers dx [("given", .ref d)]) := by rw [ak (bE hx hd (fun z => nomatch z))]; exact hx
    have ha' : upd H' d (.dT (bT kvs k (.int kvs.length))) a = some (.tup (k.map kV)) := by rw [ak (bE ta' hd (fun z => nomatch z))]; exact ta'
    refine Sel.yes rfl ⟨x, A.c_Numbers, dx, _, .ref d, rfl, hx, T.cl_Numbers, T.na_Numbers_given, rfl, .inr ⟨d, kvs, rfl, hd, x, A.c_Numbers, dx, _, .ref d, rfl, hx, T.cl_Numbers, T.na_Numbers_given, rfl, .inr ⟨d, _, rfl, .inr ⟨kvs, k, a, hd, rfl, ta', Nat.lt_of_le_of_lt hl (ax (n := 50001) (by decide)), rfl⟩, ?_⟩⟩⟩
    have g2 := cO.t (kvs := bT kvs k (.int kvs.length)) (k := k) ag ha'
    rw [gQ, if_pos rfl] at g2
    exact ⟨x, A.c_Numbers, dx, _, .ref d, rfl, hx', T.cl_Numbers, T.na_Numbers_given, rfl, .inr ⟨d, _, rfl, g2, q⟩⟩
theorem By (T : Txt K mg A) (a0 : V) (H : Hp) (Q : VK) (E : XK) (h : qp K A [a0] H Q E) : zt K A (dw ["term"] [a0] []) H Q := h
theorem Bw (T : Txt K mg A) (a0 b0 : V) (H : Hp) (Q : VK) (E : XK) (h : pU K A [a0, b0] H Q E) : yn K A (dw ["term", "numbers"] [a0] [b0]) H Q := by
 obtain ⟨x, d, p, kvs, k, e, nu, hl, hp, ok, h⟩ := h
 cases e
 obtain ⟨dx, hx⟩ := nu.ob
 exact ⟨x, dx, _, rfl, hx, rfl, x, d, p, kvs, k, rfl, nu, hl, hp, ok, h⟩
theorem yP {H : Hp} {b p : Addr} {kvs : List (List Key × V)} {kk : List Key} {d : V} (hb : H b = some (.dT kvs)) (hp : H p = some (.tup (kk.map kV))) (hl : kvs.length ≤ 50000) :
  zY H b (.ref p) d (gA kvs kk d) (gL H b kvs kk d) := by
 unfold gA gL
 have g := cO.t hb hp
 cases e : bn kvs kk with
 | some v => rw [e] at g; exact .inl ⟨g, if_pos rfl⟩
 | none => rw [e] at g; exact .inr ⟨g, .inr ⟨kvs, kk, p, hb, rfl, hp, Nat.lt_of_le_of_lt hl (ax (n := 50001) (by decide)), if_neg (by decide)⟩, rfl⟩
theorem bC.trans {P : Addr} {H H1 H2 : Hp} (a : bC P H H1) (b : bC P H1 H2) : bC P H H2 := fun x o e n => b x o (a x o e n) n
theorem bC.new {P p : Addr} {H : Hp} {o : HO} (h : H p = none) : bC P H (upd H p o) := fun b u e _ => by rw [ak (ar e h)]; exact e
theorem bC.tab {P : Addr} {H : Hp} {o : HO} : bC P H (upd H P o) := fun b u e n => by rw [ak n]; exact e
theorem bV {H : Hp} {P q : Addr} {o : HO} (hP : H P = some o) (hq : H q = none) : q ≠ P := fun e => by rw [e, hP] at hq; cases hq
theorem cG {H : Hp} {p q : Addr} {o : HO} (h : upd H p o q = none) : q ≠ p ∧ H q = none := by
 by_cases e : q = p
 · subst e; rw [ag] at h; cases h
 · rw [ak e] at h; exact ⟨e, h⟩
theorem vW {H : Hp} {P c f q : Addr} {o1 o2 : HO} {t : cQ} {v : V} (hP : H P = some o1) (hc : H c = none) (hf : H f = none) (hne : c ≠ f) (hq : upd (upd (upd H P o2) c (cf c t.qual)) f (cN f t [q] c) q = none) :
  bC P H (upd (upd (upd (upd H P o2) c (cf c t.qual)) f (cN f t [q] c)) q (bF q v)) ∧ du (upd (upd (upd (upd H P o2) c (cf c t.qual)) f (cN f t [q] c)) q (bF q v)) f t [q] [v] := by
 have c1 : upd H P o2 c = none := by rw [ak (bV hP hc)]; exact hc
 have f1 : upd (upd H P o2) c (cf c t.qual) f = none := by rw [ak (Ne.symm hne), ak (bV hP hf)]; exact hf
 have S3 := bC.new (P := P) (o := bF q v) hq
 have S2 := (bC.new (P := P) (o := cN f t [q] c) f1).trans S3
 have S1 := (bC.new (P := P) (o := cf c t.qual) c1).trans S2
 exact ⟨bC.tab.trans S1, ⟨⟨c, S3 _ _ ag (bV hP hf), S2 _ _ ag (bV hP hc)⟩, .cons ag .nil⟩⟩
theorem mM : eV [] := fun p hp => nomatch hp
theorem pY.of {P : Addr} {H H' : Hp} {ps : Array Value} (hP : H P = some (.tbl ps)) (k : bC P H H') : pY H H' := fun b o e n => k b o e fun z => by subst z; rw [hP] at e; cases e; exact n _ rfl
end Rs
namespace Rs
open PySem PySem.Spec PyProof.Rows L2
theorem sP {x : Int} (h : x.natAbs < 2 ^ 64) : Builtin.Int.intBits x ≤ 64 := by
 unfold Builtin.Int.intBits
 split
 · decide
 · rename_i hx
   have hx : x ≠ 0 := by simpa using hx
   have : x.natAbs.log2 < 64 := (Nat.log2_lt (by omega)).mpr h
   omega
theorem Ag {x y : Int} (h0 : 0 ≤ x) (h : x < 2 ^ 64) : IntMulOk x y := IntMulOk.of_left (sP (by omega))
theorem Fi {x y : Int} (h0 : 0 ≤ y) (h : y < 2 ^ 64) : IntMulOk x y := IntMulOk.of_right (sP (by omega))
variable {K : W.Frag} {mg : Str → Option Value} {A : Adr}
end Rs
namespace Rs
open PySem PySem.Spec PyProof.Rows L2
variable {K : W.Frag} {mg : Str → Option Value} {A : Adr}
theorem Dw (T : Txt K mg A) (a0 b0 : V) (H : Hp) (Q : VK) (E : XK) (h : qF K A [a0, b0] H Q E) : zO K A { nx := fun _ H' => Q .non H', rt := Q } (dw ["_law_term", "_law_total", "_law_part", "_law_many"] [a0] [b0]) H := by
  obtain ⟨p, m, k, e, h1, h2, hp, ok, q⟩ := h
  cases e
  refine .inl (.inr (.inl ⟨_, SqT.of hp, ?_⟩))
  refine ⟨p, rfl, .inr ⟨⟨_, SqT.of hp⟩, ?_⟩⟩
  rw [List.length_map]
  refine xT (xs := k.map kV) (fun i σ H' => H' = H ∧ ∃ x2, σ = [some (.ref p), some (.int ((k.take i).foldl jX k.length)), x2, some (.int m)]) ⟨rfl, none, rfl⟩ ?_ ?_ ?_
  · rintro i σ _ _ ⟨rfl, _⟩; exact SqT.of hp
  · rintro i x σ _ hx ⟨rfl, x2, rfl⟩
    obtain ⟨kk, hk, rfl⟩ := dS hx
    have okk : okP kk = true := iK ok (List.mem_of_getElem? hk)
    have st := qM jX (k.length : Int) k i kk hk
    cases kk with
    | inl n =>
      refine ⟨by decide, "int", rfl, Sel.no rfl ⟨IntMulOk.of_left (by decide), rfl, some (.int n), ?_⟩⟩
      rw [st]; rfl
    | inr z =>
      refine ⟨by decide, "str", rfl, Sel.yes rfl ⟨IntMulOk.of_left (by decide), ?_⟩⟩
      obtain ⟨hz, hl⟩ := Bool.and_eq_true_iff.mp okk
      have hl := of_decide_eq_true hl
      refine .inl ⟨ax (by omega), rfl, some (.str z), ?_⟩
      rw [st]; rfl
  · rintro σ _ ⟨rfl, x2, rfl⟩
    have e : k.take (k.map kV).length = k := by rw [List.length_map, List.take_length]
    rw [e]
    exact ⟨by omega, q⟩
end Rs
namespace Rs
open PySem PySem.Spec PyProof.Rows L2
theorem Sub.rfl' {g : List Key → Option Key} : Sub g g := fun _ _ e => e
theorem Sub.trans {g g1 g2 : List Key → Option Key} (a : Sub g g1) (b : Sub g1 g2) : Sub g g2 := fun k v e => b k v (a k v e)
theorem Ext.of {g g' : List Key → Option Key} {h : List Key → Key} (s : Sub g g') (e : Ext g' h) : Ext g h := fun k v z => e k v (s k v z)
theorem iY (kvs : List (List Key × Key)) (k : List Key) : bn (cw kvs) k = (bR kvs k).map kV := by
 unfold bn cw bR
 rw [List.find?_map]
 simp only [Option.map_map]
 congr 1
theorem rg {kvs : List (List Key × Key)} {k : List Key} {v : Key} {x : List Key × Key} (h : bR kvs k = some v) : bR (kvs ++ [x]) k = some v := by
 unfold bR at h ⊢
 rw [List.find?_append]
 cases e : kvs.find? fun p => decide (p.1 = k) with
 | none => rw [e] at h; cases h
 | some y => rw [e] at h; exact h
theorem tN {kvs : List (List Key × Key)} {k : List Key} {d : Key} (h : bR kvs k = none) : bR (kvs ++ [(k, d)]) k = some d := by
 unfold bR at h ⊢
 rw [List.find?_append]
 cases e : kvs.find? fun p => decide (p.1 = k) with
 | none => simp
 | some y => rw [e] at h; cases h
theorem uB {kvs : List (List Key × Key)} {k : List Key} {v : Key} (h : bR kvs k = some v) : bn (cw kvs) k = some (kV v) := by rw [iY, h]; rfl
theorem vH {kvs : List (List Key × Key)} {k : List Key} {v : Key} (hs : eV kvs) (h : bR kvs k = some v) : fY v := by
  unfold bR at h
  cases e : kvs.find? fun p => decide (p.1 = k) with
  | none => rw [e] at h; cases h
  | some y =>
    rw [e] at h
    cases h
    exact hs y (List.mem_of_find?_eq_some e)
theorem oz {kvs : List (List Key × Key)} {x : List Key × Key} (h : eV kvs) (hx : fY x.2) : eV (kvs ++ [x]) := fun p hp => by
 rcases List.mem_append.mp hp with z | z
 · exact h p z
 · rw [List.mem_singleton.mp z]; exact hx
theorem jG {k : List Key} {v : Key} (hk : 1 ≤ k.length) (h : fY v) : pV k v := by
  cases v with
  | inl i => exact h
  | inr z =>
    refine ⟨h.1, Nat.le_trans h.2 ?_⟩
    cases k with
    | nil => simp at hk
    | cons x r =>
      show 62 ≤ ((x :: r).map szK).sum
      rw [List.map_cons, List.sum_cons]
      have : 62 ≤ szK x := by cases x with
        | inl i => exact Nat.le_refl 62
        | inr z => show 62 ≤ z.length + 62; omega
      omega
theorem nq {H : Hp} {b : Addr} {cs : List Addr} {cvs : List V} {kvs : List (List Key × Key)} (kk : List Key) (d : Key) (hs : eV kvs) (hd : fY d) (hb : H b = some (.dT (cw kvs))) (hc : bW H cs cvs) (H1 : Hp) (S : ao (cr cs H) H1) :
    ∃ (kvs' : List (List Key × Key)) (v : Key) (H' : Hp), gA (cw kvs) kk (kV d) = kV v ∧ bU cs H (gL H1 b (cw kvs) kk (kV d)) = H' ∧ H' b = some (.dT (cw kvs')) ∧ (∀ x o, x ≠ b → H x = some o → H' x = some o) ∧ (kvs' = kvs ∨ kvs' = kvs ++ [(kk, d)]) ∧ eV kvs' ∧ bR kvs' kk = some v ∧ fY v ∧ ∀ k v, bR kvs k = some v → bR kvs' k = some v := by
  have hbc : b ∉ cs := hc.notin hb fun _ z => nomatch z
  have S2 := ao.hide cs S
  cases e : bR kvs kk with
  | some v =>
    have ev := uB e
    refine ⟨kvs, v, bU cs H H1, by unfold gA; rw [ev]; rfl, ?_, S2 _ _ hb, fun _ _ _ h => S2 _ _ h, .inl rfl, hs, e, vH hs e, fun _ _ h => h⟩
    unfold gL; rw [ev]; rfl
  | none =>
    have ev : bn (cw kvs) kk = none := by rw [iY, e]; rfl
    refine ⟨kvs ++ [(kk, d)], d, upd (bU cs H H1) b (.dT (cw (kvs ++ [(kk, d)]))), by unfold gA; rw [ev]; rfl, ?_, ag, fun x o n h => by rw [ak n]; exact S2 _ _ h, .inr rfl, oz hs hd, tN e, hd, fun _ _ h => rg h⟩
    unfold gL; rw [ev, if_neg (by decide), sT hbc, uf _ ev]
    unfold cw; rw [List.map_append]; rfl
theorem Lin.nil {a c : Int} : Lin a c [] := fun i p h => by cases i <;> cases h
theorem Lin.snoc {a c : Int} {kvs : List (List Key × Key)} (s : Lin a c kvs) (k : List Key) : Lin a c (kvs ++ [(k, .inl (a * (kvs.length : Int) + c))]) := fun i p h => by
 rcases Nat.lt_trichotomy i kvs.length with hi | hi | hi
 · rw [List.getElem?_append_left hi] at h; exact s i p h
 · rw [List.getElem?_append_right (by omega), hi, Nat.sub_self] at h
   cases h; rw [hi]
 · rw [List.getElem?_eq_none (by simp; omega)] at h; cases h
theorem Lin.step {a c : Int} {kvs kvs' : List (List Key × Key)} {kk : List Key} (s : Lin a c kvs) (h : kvs' = kvs ∨ kvs' = kvs ++ [(kk, .inl (a * (kvs.length : Int) + c))]) : Lin a c kvs' ∧ kvs'.length ≤ kvs.length + 1 := by
 rcases h with rfl | rfl
 · exact ⟨s, Nat.le_succ _⟩
 · exact ⟨s.snoc kk, by simp⟩
theorem pK {kvs : List (List Key × Key)} {k : List Key} {v : Key} (h : bR kvs k = some v) : ∃ i : Nat, kvs[i]? = some (k, v) := by
  unfold bR at h
  cases e : kvs.find? fun p => decide (p.1 = k) with
  | none => rw [e] at h; cases h
  | some p =>
    rw [e] at h
    obtain ⟨i, hi⟩ := List.mem_iff_getElem?.mp (List.mem_of_find?_eq_some e)
    have h1 : p.1 = k := by have := List.find?_some e; exact of_decide_eq_true this
    have h2 : p.2 = v := Option.some.inj h
    exact ⟨i, by rw [hi, ← h1, ← h2]⟩
theorem Lin.inj {a c : Int} {kvs : List (List Key × Key)} (ha : 1 ≤ a) (s : Lin a c kvs) {k k' : List Key} {v : Key} (h : bR kvs k = some v) (h' : bR kvs k' = some v) : k = k' := by
 obtain ⟨i, hi⟩ := pK h
 obtain ⟨j, hj⟩ := pK h'
 have e1 := s i _ hi
 have e2 := s j _ hj
 have e3 : a * (i : Int) + c = a * (j : Int) + c := Sum.inl.inj (e1.symm.trans e2)
 have e4 : (i : Int) = j := Int.eq_of_mul_eq_mul_left (by omega) (by omega : a * (i : Int) = a * j)
 have e5 : i = j := by omega
 subst e5
 rw [hi] at hj
 cases hj; rfl
variable {K : W.Frag} {mg : Str → Option Value} {A : Adr}
theorem m0 {x : cQ × Sp} {l : List (cQ × Sp)} : x ∈ x :: l := List.mem_cons_self
theorem mS {x y : cQ × Sp} {l : List (cQ × Sp)} (h : x ∈ l) : x ∈ y :: l := List.mem_cons_of_mem _ h
end Rs
namespace Rs
open PySem PySem.Spec PyProof.Rows L2
theorem aB.trans {b : Addr} {H H1 H2 : Hp} (a : aB b H H1) (c : aB b H1 H2) : aB b H H2 := fun x o n e => c x o n (a x o n e)
theorem aB.same {b : Addr} {H H' : Hp} (S : ao H H') : aB b H H' := fun x o _ e => S x o e
variable {K : W.Frag} {mg : Str → Option Value} {A : Adr}
theorem An (K : W.Frag) (A : Adr) : Ln (mv K A) 0 := by rintro vs H Q E ⟨rfl, _⟩; rfl
theorem DB (T : Txt K mg A) (hnd : ([] : List Addr).Nodup) (vs : List V) (H : Hp) (Q : VK) (E : XK) (h : mv K A vs H Q E) : zN K A { nx := fun σ H' => (∀ p ∈ ([] : List (Nat × Addr)), H' p.2 = none) → Q .non (cA [] σ H'), rt := fun σ v H' => (∀ p ∈ ([] : List (Nat × Addr)), H' p.2 = none) → Q v (cA [] σ H') } (L2.start [] vs) H := by
 obtain ⟨rfl, hP, q⟩ := h
 refine ⟨#[], hP, trivial, .inl ⟨rfl, fun c f hc hf hne _ => ?_⟩⟩
 have cP := bV hP hc
 have fP := bV hP hf
 have c1 : ∀ o, upd H A.t_45 o c = none := fun o => by rw [ak cP]; exact hc
 have f1 : ∀ o, upd (upd H A.t_45 o) c (cf c eR.qual) f = none := fun o => by rw [ak (Ne.symm hne), ak fP]; exact hf
 exact q f f _ _ (bC.tab.trans ((bC.new (c1 _)).trans (bC.new (f1 _)))) (.wri ⟨⟨c, ag, (ak hne).trans ag⟩, .nil⟩ rfl rfl rfl) hf
theorem yW (K : W.Frag) (A : Adr) : Ln (lZ K A) 0 := by rintro vs H Q E ⟨rfl, _⟩; rfl
theorem Dv (T : Txt K mg A) (q0 : Addr) (hnd : ([q0] : List Addr).Nodup) (vs : List V) (H : Hp) (Q : VK) (E : XK) (h : lZ K A vs H Q E) : zc K A q0 { nx := fun σ H' => (∀ p ∈ ([(0, q0)] : List (Nat × Addr)), H' p.2 = none) → Q .non (cA [(0, q0)] σ H'), rt := fun σ v H' => (∀ p ∈ ([(0, q0)] : List (Nat × Addr)), H' p.2 = none) → Q v (cA [(0, q0)] σ H') } (L2.start ["numbers"] vs) H := by
 obtain ⟨rfl, hP, q⟩ := h
 intro x dx hx hdx hne
 refine ⟨x, dx, rfl, ag, fun d hd => ⟨rfl, ?_⟩⟩
 obtain ⟨dnx, hd1⟩ := cG hd
 obtain ⟨dndx, hd0⟩ := cG hd1
 have xP := bV hP hx
 have dxP := bV hP hdx
 have dP := bV hP hd0
 generalize e2 : upd (upd (upd (upd H dx (.own x)) x (.ins A.c_Numbers dx [])) d (.dT [])) x (.ins A.c_Numbers dx [("given", .ref d)]) = H2
 have S2 : bC A.t_27 H H2 := by
  intro b o e n
  have b1 := ar e hx
  have b2 := ar e hdx
  have b3 := ar e hd0
  rw [← e2, ak b1, ak b3, ak b1, ak b2]; exact e
 have hP2 : H2 A.t_27 = some (.tbl #[]) := by rw [← e2, ak (Ne.symm xP), ak (Ne.symm dP), ak (Ne.symm xP), ak (Ne.symm dxP)]; exact hP
 have hx2 : H2 x = some (.ins A.c_Numbers dx [("given", .ref d)]) := by rw [← e2, ag]
 have hd2 : H2 d = some (.dT []) := by rw [← e2, ak dnx, ag]
 refine ⟨#[], hP2, trivial, .inl ⟨rfl, fun c f hc hf hne hq => ?_⟩⟩
 obtain ⟨k, ca⟩ := vW (v := .ref x) hP2 hc hf hne (hq _ (List.mem_singleton.mpr rfl))
 exact q f d _ _ (S2.trans k) (.cnt q0 x [] ca ⟨⟨dx, k _ _ hx2 xP⟩, k _ _ hd2 dP⟩ (Nat.zero_le _) mM .nil rfl rfl) hd0
theorem zj (K : W.Frag) (A : Adr) : Ln (mq K A) 1 := by rintro vs H Q E ⟨m, rfl, _⟩; rfl
theorem BW (T : Txt K mg A) (q0 : Addr) (hnd : ([q0] : List Addr).Nodup) (vs : List V) (H : Hp) (Q : VK) (E : XK) (h : mq K A vs H Q E) : zi K A q0 { nx := fun σ H' => (∀ p ∈ ([(0, q0)] : List (Nat × Addr)), H' p.2 = none) → Q .non (cA [(0, q0)] σ H'), rt := fun σ v H' => (∀ p ∈ ([(0, q0)] : List (Nat × Addr)), H' p.2 = none) → Q v (cA [(0, q0)] σ H') } (L2.start ["_law_many", "_law_stamp"] vs) H := by
 obtain ⟨m, rfl, m1, m2, hP, q⟩ := h
 refine ⟨#[], hP, trivial, .inl ⟨rfl, fun c f hc hf hne hq => ?_⟩⟩
 obtain ⟨k, ca⟩ := vW (v := .int m) hP hc hf hne (hq _ (List.mem_singleton.mpr rfl))
 exact q f f _ _ k (.wea q0 m m1 m2 ca rfl rfl rfl) hf
theorem CD {H : Hp} {P c f q0 q1 q2 : Addr} {o1 o2 : HO} {t : cQ} {v0 v1 v2 : V} (hP : H P = some o1) (hc : H c = none) (hf : H f = none) (hne : c ≠ f) (n01 : q0 ≠ q1) (n02 : q0 ≠ q2) (n12 : q1 ≠ q2) (h0 : upd (upd (upd H P o2) c (cf c t.qual)) f (cN f t [q2, q0, q1] c) q0 = none) (h1 : upd (upd (upd H P o2) c (cf c t.qual)) f (cN f t [q2, q0, q1] c) q1 = none) (h2 : upd (upd (upd H P o2) c (cf c t.qual)) f (cN f t [q2, q0, q1] c) q2 = none) :
  bC P H (upd (upd (upd (upd (upd (upd H P o2) c (cf c t.qual)) f (cN f t [q2, q0, q1] c)) q0 (bF q0 v0)) q1 (bF q1 v1)) q2 (bF q2 v2)) ∧ du (upd (upd (upd (upd (upd (upd H P o2) c (cf c t.qual)) f (cN f t [q2, q0, q1] c)) q0 (bF q0 v0)) q1 (bF q1 v1)) q2 (bF q2 v2)) f t [q2, q0, q1] [v2, v0, v1] := by
 have c1 : upd H P o2 c = none := by rw [ak (bV hP hc)]; exact hc
 have f1 : upd (upd H P o2) c (cf c t.qual) f = none := by rw [ak (Ne.symm hne), ak (bV hP hf)]; exact hf
 have h1' : upd (upd (upd (upd H P o2) c (cf c t.qual)) f (cN f t [q2, q0, q1] c)) q0 (bF q0 v0) q1 = none := by rw [ak (Ne.symm n01)]; exact h1
 have h2' : upd (upd (upd (upd (upd H P o2) c (cf c t.qual)) f (cN f t [q2, q0, q1] c)) q0 (bF q0 v0)) q1 (bF q1 v1) q2 = none := by rw [ak (Ne.symm n12), ak (Ne.symm n02)]; exact h2
 have S5 := bC.new (P := P) (o := bF q2 v2) h2'
 have S4 := (bC.new (P := P) (o := bF q1 v1) h1').trans S5
 have S3 := (bC.new (P := P) (o := bF q0 v0) h0).trans S4
 have S2 := (bC.new (P := P) (o := cN f t [q2, q0, q1] c) f1).trans S3
 have S1 := (bC.new (P := P) (o := cf c t.qual) c1).trans S2
 exact ⟨bC.tab.trans S1, ⟨⟨c, S3 _ _ ag (bV hP hf), S2 _ _ ag (bV hP hc)⟩, .cons ag (.cons (by rw [ak n02, ak n01]; exact ag) (.cons (by rw [ak n12]; exact ag) .nil))⟩⟩
theorem Ai (K : W.Frag) (A : Adr) : Ln (mt K A) 3 := by rintro vs H Q E ⟨b, D, j, rfl, _⟩; rfl
theorem Dl (T : Txt K mg A) (q0 q1 q2 : Addr) (hnd : ([q0, q1, q2] : List Addr).Nodup) (vs : List V) (H : Hp) (Q : VK) (E : XK) (h : mt K A vs H Q E) : yI K A q0 q1 q2 { nx := fun σ H' => (∀ p ∈ ([(0, q0), (1, q1), (2, q2)] : List (Nat × Addr)), H' p.2 = none) → Q .non (cA [(0, q0), (1, q1), (2, q2)] σ H'), rt := fun σ v H' => (∀ p ∈ ([(0, q0), (1, q1), (2, q2)] : List (Nat × Addr)), H' p.2 = none) → Q v (cA [(0, q0), (1, q1), (2, q2)] σ H') } (L2.start ["_law_known", "_law_alias", "_law_step", "_law_stamp"] vs) H := by
 obtain ⟨b, D, j, rfl, j0, j1, hP, hb, hD, bD, q⟩ := h
 have n01 : q0 ≠ q1 := fun e => by simp [e] at hnd
 have n02 : q0 ≠ q2 := fun e => by simp [e] at hnd
 have n12 : q1 ≠ q2 := fun e => by simp [e] at hnd
 refine ⟨#[], hP, trivial, .inl ⟨rfl, fun c f hc hf hne hq => ?_⟩⟩
 obtain ⟨k, ca⟩ := CD (v0 := .ref b) (v1 := .ref D) (v2 := .int j) hP hc hf hne n01 n02 n12 (hq (0, q0) (by simp)) (hq (1, q1) (by simp)) (hq (2, q2) (by simp))
 have nb : b ≠ A.t_15 := bE hb hP (fun z => nomatch z)
 have nD : D ≠ A.t_15 := bE hD hP (fun z => nomatch z)
 exact q f _ k (.pla q2 q0 q1 D j j0 j1 [] none ca (k _ _ hb nb) (k _ _ hD nD) bD (Nat.zero_le _) mM .nil rfl rfl)
theorem Fe {H : Hp} {D p : Addr} {k : List Key} {al : Option (List Key × List Key)} (ha : iD H D al) (hp : H p = some (.tup (k.map kV))) : ∃ (o : Option V) (p' : Addr), cO H D (.ref p) o ∧ o.getD (.ref p) = .ref p' ∧ H p' = some (.tup ((alF al k).map kV)) := by
  cases al with
  | none => exact ⟨_, p, cO.t ha hp, rfl, hp⟩
  | some r =>
    obtain ⟨o, hD, ho, ok⟩ := ha
    by_cases e : k = r.1
    · refine ⟨_, o, cO.t hD hp, ?_, ?_⟩
      · unfold bn; simp [e]
      · show H o = some (.tup ((if k = r.1 then r.2 else k).map kV)); rw [if_pos e]; exact ho
    · refine ⟨_, p, cO.t hD hp, ?_, ?_⟩
      · unfold bn; simp [Ne.symm e]
      · show H p = some (.tup ((if k = r.1 then r.2 else k).map kV)); rw [if_neg e]; exact hp
theorem De (T : Txt K mg A) (a0 b0 b1 b2 : V) (H : Hp) (Q : VK) (E : XK) (h : qS K A [a0, b0, b1, b2] H Q E) : Af K A { nx := fun _ H' => Q .non H', rt := Q } (dw ["_law_term", "_law_step", "_law_known", "_law_alias"] [a0] [b0, b1, b2]) H := by
 obtain ⟨p, b, D, j, k, kvs, al, e, j0, j1, hp, hb, ha, hl, q⟩ := h
 cases e
 obtain ⟨o, p', hg, eo, hp'⟩ := Fe ha hp
 have hD : ∃ kv, H D = some (.dT kv) := by
  cases al with
  | none => exact ⟨_, ha⟩
  | some r => obtain ⟨_, hD, _⟩ := ha; exact ⟨_, hD⟩
 refine ⟨.inr (.inr (.inl ⟨rfl, .inr ⟨_, hb⟩⟩)), .inr (.inr (.inl ⟨rfl, .inr hD⟩)), D, .ref p, .ref p, o, rfl, rfl, hg, ?_⟩
 rw [eo]
 exact .inr ⟨b, kvs, rfl, hb, Ag j0 (by omega), b, .ref p', _, _, _, rfl, rfl, yP hb hp' hl, q⟩
theorem zk (K : W.Frag) (A : Adr) : Ln (mF K A) 4 := by rintro vs H Q E ⟨w, c, b, D, rfl, _⟩; rfl
theorem Dp (T : Txt K mg A) : Rd (mF K A) (EE K A) ["_law_way", "_law_cell", "_law_known", "_law_alias"] := by
 intro vs H Q E h
 obtain ⟨w, c, b0, D, rfl, ⟨t2, t1, t3, t4, _⟩, hb, hD, bD, w0, w3, q⟩ := h
 refine Sel.dec (fun h => ?_) (fun h => ?_)
 · exact ⟨by decide, _, rfl, by omega, by omega, t2, fun f b g H' k s hn => q f b _ g H' (.of t2 k) s (.inr hn) (fun e => by omega) (fun e => by omega)⟩
 refine Sel.dec (fun h => ?_) (fun h => ?_)
 · refine ⟨by decide, Sel.dec (fun h2 => ?_) (fun h2 => ?_)⟩
   · exact ⟨rfl, t1, fun f b g H' k s hn => q f b _ g H' (.of t1 k) s (.inr hn) (fun _ => trivial) (fun e => by omega)⟩
   refine Sel.dec (fun h3 => ?_) (fun h3 => absurd h h3)
   refine ⟨by decide, Sel.dec (fun h4 => ?_) (fun h4 => ?_)⟩
   · exact ⟨rfl, t3, fun f b g H' k s hn => q f b _ g H' (.of t3 k) s (.inr hn) (fun _ => trivial) (fun e => by omega)⟩
   · exact ⟨by decide, b0, D, _, rfl, by omega, by omega, t4, hb, hD, bD, fun f H' k s => q f b0 _ _ H' (.of t4 k) s (.inl rfl) (fun _ => rfl) (fun _ => ⟨rfl, rfl⟩)⟩
 · refine Sel.no rfl ?_
   refine Sel.dec (fun h3 => absurd h3 h) (fun h3 => ?_)
   refine Sel.no rfl ?_
   exact ⟨by decide, b0, D, _, rfl, by omega, by omega, t4, hb, hD, bD, fun f H' k s => q f b0 _ _ H' (.of t4 k) s (.inl rfl) (fun _ => rfl) (fun _ => ⟨rfl, rfl⟩)⟩
theorem Stp.clo {H : Hp} {f b : Addr} {d : Kd} {g : List Key → Option Key} {n : Nat} (s : Stp A H f b d g n) : ∃ ts ∈ cz K A, ∃ cs cvs, du H f ts.1 cs cvs := by
 cases s with
 | wri hc _ _ _ => exact ⟨_, m0, _, _, hc⟩
 | cnt _ _ _ hc => exact ⟨_, mS m0, _, _, hc⟩
 | wea _ _ _ _ hc => exact ⟨_, mS (mS m0), _, _, hc⟩
 | pla _ _ _ _ _ _ _ _ _ hc => exact ⟨_, mS (mS (mS m0)), _, _, hc⟩
theorem iD.keep {H H' : Hp} {D : Addr} {al : Option (List Key × List Key)} (h : iD H D al) (kd : ∀ xs, H D = some (.dT xs) → H' D = some (.dT xs)) (kt : ∀ o xs, H o = some (.tup xs) → H' o = some (.tup xs)) : iD H' D al := by
 cases al with
 | none => exact kd _ h
 | some r => obtain ⟨o, h1, h2, h3⟩ := h; exact ⟨o, kd _ h1, kt _ _ h2, h3⟩
theorem iD.dict {H : Hp} {D : Addr} {al : Option (List Key × List Key)} (ha : iD H D al) : ∃ kv, H D = some (.dT kv) := by
 cases al with
 | none => exact ⟨_, ha⟩
 | some r => obtain ⟨_, hD, _⟩ := ha; exact ⟨_, hD⟩
theorem Stp.same {H H' : Hp} {f b : Addr} {d : Kd} {g : List Key → Option Key} {n m : Nat} (s : Stp A H f b d g n) (hn : n ≤ m) (S : ao H H') : Stp A H' f b d g m := by
  cases s with
  | wri hc hb hg ed => exact .wri (hc.keep fun x φ e => S _ _ e) hb hg ed
  | cnt q x kvs hc num hl hs st hg ed =>
    obtain ⟨⟨dx, h1⟩, h2⟩ := num
    exact .cnt q x kvs (hc.keep fun x φ e => S _ _ e) ⟨⟨dx, S _ _ h1⟩, S _ _ h2⟩ (Nat.le_trans hl hn) hs st hg ed
  | wea q m h1 h2 hc hb hg ed => exact .wea q m h1 h2 (hc.keep fun x φ e => S _ _ e) hb hg ed
  | pla q0 q1 q2 D j j0 j1 kvs al hc hb ha bD hl hs st hg ed => exact .pla q0 q1 q2 D j j0 j1 kvs al (hc.keep fun x φ e => S _ _ e) (S _ _ hb) (ha.keep (fun _ e => S _ _ e) (fun _ _ e => S _ _ e)) bD (Nat.le_trans hl hn) hs st hg ed
theorem cF {H : Hp} {f b p : Addr} {d : Kd} {g : List Key → Option Key} {n : Nat} {k : List Key} {R : VK} (s : Stp A H f b d g n) (hn : n ≤ 45000) (hp : H p = some (.tup (k.map kV))) (ok : okT k = true)
    (q : ∀ (v : Key) (H' : Hp) (g' : List Key → Option Key), aB b H H' → Stp A H' f b d g' (n + 1) → Sub g g' → g' k = some v → pV k v → R (kV v) H') : mw (cz K A) f [.ref p] H R E0 := by
  have s0 := s
  have hk := (kH ok).1
  have ll : ∀ kvs : List (List Key × Key), (cw kvs).length = kvs.length := fun kvs => by simp [cw]
  cases s with
  | wri hc hb hg ed =>
    refine ⟨_, m0, _, _, hc, rfl, p, k, rfl, hc.cells.hide hp (fun _ z => nomatch z), ok, fun H' S => ?_⟩
    have S := ao.hide _ S
    exact q (.inr (cb k)) _ g (aB.same S) (s0.same (Nat.le_succ _) S) Sub.rfl' (by rw [hg]) ⟨lB (eF ok), lg (eF ok)⟩
  | wea c m h1 h2 hc hb hg ed =>
    refine ⟨_, mS (mS m0), _, _, hc, rfl, p, m, k, rfl, h1, h2, hc.cells.hide hp (fun _ z => nomatch z), ok, ?_⟩
    have S := ao.hide [c] (.refl (cr [c] H))
    have r0 := Int.emod_nonneg (k.foldl jX k.length) (b := m) (by omega)
    have r1 := Int.emod_lt_of_pos (k.foldl jX k.length) (b := m) (by omega)
    have p60 : (9 : Int) < 10 ^ 60 := by decide +kernel
    exact q (pW m k) _ g (aB.same S) (s0.same (Nat.le_succ _) S) Sub.rfl' (by rw [hg]) (show 0 ≤ _ ∧ _ < _ from ⟨r0, by omega⟩)
  | cnt c x kvs hc num hl hs st hg ed =>
    have p60 : (50000 : Int) < 10 ^ 60 := by decide +kernel
    refine ⟨_, mS m0, _, _, hc, rfl, x, b, p, cw kvs, k, rfl, num.hide hc.cells, by rw [ll]; omega, hc.cells.hide hp (fun _ z => nomatch z), ok, fun H' S => ?_⟩
    obtain ⟨dx, hx⟩ := num.ob
    obtain ⟨kvs', v, H2, ev, eH, hb', keep, hl', hs', gv, sv, sub⟩ := nq k (.inl ((cw kvs).length : Int)) hs (show 0 ≤ _ ∧ _ < _ from ⟨by omega, by rw [ll]; omega⟩) num.di hc.cells H' S
    rw [show V.int ((cw kvs).length : Int) = kV (.inl ((cw kvs).length : Int)) from rfl, ev, eH]
    obtain ⟨st', hl2⟩ := st.step (kk := k) (by rw [show (1 : Int) * (kvs.length : Int) + 0 = ((cw kvs).length : Int) by rw [ll]; omega]; exact hl')
    refine q v H2 (bR kvs') (fun x o n e => keep x o n e)
      (.cnt c x kvs' (hc.keep fun x φ e => keep x _ (bE e num.di (fun z => nomatch z)) e) ⟨⟨dx, keep _ _ (bE hx num.di (fun z => nomatch z)) hx⟩, hb'⟩ (by omega) hs' st' rfl ed) ?_ gv (jG hk sv)
    rw [hg]; exact sub
  | pla q0 q1 q2 D j j0 j1 kvs al hc hb ha bD hl hs st hg ed =>
    have p60 : (50000000 : Int) < 10 ^ 60 := by decide +kernel
    have bd : 0 ≤ j * ((cw kvs).length : Int) + 5 ∧ j * ((cw kvs).length : Int) + 5 < 10 ^ 60 := by
      rw [ll]
      have h1 : j * (kvs.length : Int) ≤ 1000 * 45000 := Int.mul_le_mul (by omega) (by omega) (by omega) (by decide)
      have h2 : 0 ≤ j * (kvs.length : Int) := Int.mul_nonneg (by omega) (by omega)
      omega
    obtain ⟨kvs', v, H2, ev, eH, hb', keep, hl', hs', gv, sv, sub⟩ := nq (alF al k) (.inl (j * ((cw kvs).length : Int) + 5)) hs bd hb hc.cells _ (.refl _)
    obtain ⟨kD, hD⟩ := ha.dict
    refine ⟨_, mS (mS (mS m0)), _, _, hc, rfl, p, b, D, j, k, cw kvs, al, rfl, by omega, j1, hc.cells.hide hp (fun _ z => nomatch z), hc.cells.hide hb (fun _ z => nomatch z), ha.keep (fun _ e => hc.cells.hide e (fun _ z => nomatch z)) (fun _ _ e => hc.cells.hide e (fun _ z => nomatch z)), by rw [ll]; omega, ?_⟩
    dsimp only
    rw [show V.int (j * ((cw kvs).length : Int) + 5) = kV (.inl (j * ((cw kvs).length : Int) + 5)) from rfl, ev, eH]
    obtain ⟨st', hl2⟩ := st.step (kk := alF al k) (by rw [← ll kvs]; exact hl')
    refine q v H2 (fun k => bR kvs' (alF al k)) (fun x o n e => keep x o n e)
      (.pla q0 q1 q2 D j j0 j1 kvs' al (hc.keep fun x φ e => keep x _ (bE e hb (fun z => nomatch z)) e) hb' (ha.keep (fun _ e => keep _ _ (Ne.symm bD) e) (fun _ _ e => keep _ _ (bE e hb (fun z => nomatch z)) e)) bD (by omega) hs' st' rfl ed) ?_ gv (jG hk sv)
    rw [hg]; exact fun k v e => sub _ _ e
end Rs
namespace Rs
open PySem PySem.Spec PyProof.Rows L2
variable {K : W.Frag} {mg : Str → Option Value} {A : Adr}
theorem Ak {H : Hp} (x : Key) : dv H (kV x) (ku x) := by
 cases x with
 | inl i => exact .int i
 | inr z => exact .str z
theorem ixL {K : W.Frag} {H : Hp} {Q : VK} {a : Addr} {xs : List V} {x : V} {i : Int} {j : Nat} (ha : H a = some (.lst xs)) (e : i = j) (hx : xs[j]? = some x) (q : Q x H) : aA K (.ref a) (.int i) H Q := by
 subst e
 refine .inl (.inl ⟨a, xs, j, x, rfl, rfl, SqL.of ha, ?_, q⟩)
 have hj := (List.getElem?_eq_some_iff.mp hx).1
 rw [rz (by omega) (by omega)]
 simp [List.getD_eq_getElem?_getD, hx]
theorem lC {e : Key} (h : okP e = true) : fD (ku e) = true := by
 cases e with
 | inl i => exact h
 | inr z => rfl
theorem Do : (PySem.Str.length " !\"#$&'()*+,-./0123456789:;<=>?@ABCDEFGHIJKLMNOPQRSTUVWXYZ[\\]^_`" + PySem.Str.length "abcdefghijklmnopqrstuvwxyz{|}~") ≤ 1000000 := by decide +kernel
def sg1 : Str := " !\"#$&'()*+,-./0123456789:;<=>?@ABCDEFGHIJKLMNOPQRSTUVWXYZ[\\]^_`"
def sg2 : Str := "abcdefghijklmnopqrstuvwxyz{|}~"
theorem yO : (sg1 ++ sg2).length = 94 ∧ (sg1 ++ sg2).cps.toList.length = 94 ∧ (sg1 ++ sg2).cps.toList.all (· < 128) = true := by decide +kernel
theorem uu {zs : List Str} (h : ∀ z ∈ zs, ci z = true) : ci (Txt.join "" zs) = true := by
 rw [kC]
 induction zs with
 | nil => decide +kernel
 | cons z r ih => exact lI (h z List.mem_cons_self) (ih fun y hy => h y (List.mem_cons_of_mem _ hy))
theorem As (K : W.Frag) (A : Adr) : Ln (jD K A) 1 := by rintro vs H Q E ⟨i, rfl, _⟩; rfl
theorem BJ (T : Txt K mg A) : Rd (jD K A) (EX K A) ["thing"] := by
 intro vs H Q E h
 obtain ⟨i, rfl, h0, h1, q⟩ := h
 refine ⟨_, _, rfl, .int i, Sel.t (Sel.yes (decide_eq_true h0) ⟨by decide, ?_⟩)⟩
 have e : decide (i < 1 * 2 ^ (60 : Int).toNat) = true := decide_eq_true (by show i < 1 * 2 ^ 60; omega)
 show Q (.bl (decide (i < 1 * 2 ^ (60 : Int).toNat))) H
 rw [e]; exact q
theorem Ch (K : W.Frag) (A : Adr) : Ln (eB K A) 2 := by rintro vs H Q E ⟨a, ns, k, rfl, _⟩; rfl
theorem Eb (T : Txt K mg A) : Rd (eB K A) (T_4 K A) ["_law_script", "_law_k"] := by
 intro vs H Q E h
 obtain ⟨a, ns, k, rfl, hs, h0, q⟩ := h
 refine .inl (.inl ⟨_, hs, Sel.dec (fun h => ?_) (fun h => q 0)⟩)
 obtain ⟨v, hv⟩ := rl h0 h
 obtain ⟨j, _, hj, _⟩ := gl hv
 obtain ⟨z, _, rfl⟩ := dS hj
 exact .inl (.inl ⟨a, _, k, _, rfl, rfl, hs, hv, q z⟩)
theorem zf (K : W.Frag) (A : Adr) : Ln (mE K A) 1 := by rintro vs H Q E ⟨i, rfl, _⟩; rfl
theorem CB (T : Txt K mg A) : Rd (mE K A) (DY K A) ["_law_cell", "_law_some"] := by
 intro vs H Q E h
 obtain ⟨c, rfl, q⟩ := h
 obtain ⟨g1, g2, g3⟩ := yO
 refine ⟨ax Do, ?_⟩
 show yt K A _ [some (.int c), some (.str (sg1 ++ sg2))] H
 refine ⟨rfl, by decide, c % 5, rfl, by omega, by omega, fun D hD => ?_⟩
 refine fu (dY.range (lo := 0) (n := (c % 5).toNat)) (fun i ys H2 => ∃ zs : List Str, ys = zs.map V.str ∧ zs.length = i ∧ (∀ z ∈ zs, z.length = 1 ∧ ci z = true) ∧ H2 = upd H D (.lst ys)) (fun _ _ _ _ _ => trivial) ⟨[], rfl, rfl, (fun _ h => nomatch h), rfl⟩ (fun i ys H2 hi ⟨zs, e1, e2, e3, e4⟩ => ?_) ?_
 · subst e4
   refine mP ⟨⟨by decide, by decide⟩, ⟨by decide, by decide⟩, by decide, Fi (by omega) (by omega), by decide, ?_⟩
   generalize (c / 5 + _ : Int) = w
   obtain ⟨cc, hcc⟩ := rl (xs := (sg1 ++ sg2).cps.toList) (i := w % 94) (by omega) (by rw [g2]; omega)
   refine .inl (.inr (.inr ⟨_, _, cc, rfl, rfl, by rw [g1]; exact ax (by decide), hcc, ?_⟩))
   have hyl : ys.length = i := by rw [e1, List.length_map, e2]
   refine ⟨ag, by rw [hyl]; exact bj (by omega), CWd.next hi ⟨zs ++ [⟨#[cc]⟩], by rw [e1, List.map_append]; rfl, by rw [List.length_append, e2]; rfl, fun z hz => ?_, eN⟩⟩
   rcases List.mem_append.mp hz with h | h
   · exact e3 z h
   · rw [List.mem_singleton.mp h]
     refine ⟨rfl, ?_⟩
     obtain ⟨j, _, hj, _⟩ := gl hcc
     have := of_decide_eq_true (List.all_eq_true.mp g3 cc (List.mem_of_getElem? hj))
     unfold ci
     simp
     omega
 · rintro ys H2 ⟨zs, rfl, e2, e3, rfl⟩
   have hl : (Txt.join "" zs).length = zs.length := tQ zs fun z hz => (e3 z hz).1
   refine ⟨_, _, zs, rfl, rfl, ag, ?_, q _ _ (ao.upd hD) (by rw [hl]; omega) (uu fun z hz => (e3 z hz).2)⟩
   have e0 : (("" : String) : Str).length = 0 := by decide
   rw [e0, jC zs fun z hz => (e3 z hz).1]
   omega
theorem yd (K : W.Frag) (A : Adr) : Ln (jK K A) 1 := by rintro vs H Q E ⟨i, rfl, _⟩; rfl
theorem BP (T : Txt K mg A) : Rd (jK K A) (Ew K A) ["_law_cell"] := by
 intro vs H Q E h
 obtain ⟨c, rfl, q⟩ := h
 have p60 : (7 : Int) < 10 ^ 60 := by decide +kernel
 have num : ∀ i : Int, 0 ≤ i → i < 10 ^ 60 → Q (.int i) H := fun i h0 h1 => q (.inl i) H (.refl _) ⟨decide_eq_true ⟨h0, h1⟩, show 62 ≤ 70 by decide⟩
 refine ⟨by decide, Sel.dec (fun h => ?_) (fun h => ?_)⟩
 · refine ⟨by decide, _, rfl, fun z H' S hz ha => q (.inr z) H' S ⟨?_, ?_⟩⟩
   · show (ci z && decide (z.length ≤ 100000)) = true
     rw [ha, decide_eq_true (by omega)]; rfl
   · show z.length + 62 ≤ 70
     omega
 refine ⟨by decide, Sel.dec (fun h => ?_) (fun h => ?_)⟩
 · refine ⟨by decide, ⟨by decide, by decide, by decide⟩, by decide +kernel, ?_⟩
   have p : (0 : Int) < 10 ^ 60 := by decide +kernel
   exact num (c / 4 % 10 ^ 60) (Int.emod_nonneg _ (Int.ne_of_gt p)) (Int.emod_lt_of_pos _ p)
 · exact ⟨by decide, by decide, num (c / 4 % 7) (by omega) (by omega)⟩
theorem cE {K : W.Frag} {H : Hp} {Q : VK} {L : Addr} {qs : List V} {p : V} (hL : H L = some (.lst (qs ++ [p]))) (q : Q p H) : aA K (.ref L) (.int (-1)) H Q :=
 .inl (.inl ⟨L, _, -1, p, rfl, rfl, SqL.of hL, vb _ _, q⟩)
theorem jN {w : Str} {r : List Key} (hw : okP (.inr w) = true) (hr : ∀ x ∈ r, okP x = true) (hl : r.length ≤ 7) : okT (.inr w :: r) = true := by
 show (decide (1 ≤ r.length + 1 ∧ r.length + 1 ≤ 8) && true && (okP (.inr w) && r.all okP)) = true
 rw [hw, List.all_eq_true.mpr hr, decide_eq_true (by omega)]; rfl
theorem iP {k : List Key} {v : Key} (h : pV k v) : szK v ≤ szT k + 62 := by
 cases v with
 | inl i => exact Nat.le_add_left _ _
 | inr z => exact Nat.add_le_add_right h.2 _
theorem dW {k : List Key} {v : Key} (h : pV k v) (hs : szT k ≤ 100000) : okP v = true := by
  cases v with
  | inl i => exact decide_eq_true h
  | inr z =>
    show (ci z && decide (z.length ≤ 100000)) = true
    rw [h.1, decide_eq_true (Nat.le_trans h.2 hs)]; rfl
theorem okW : okP (.inr "void") = true ∧ okP (.inr "entry") = true ∧ okP (.inr "joint") = true ∧ okP (.inr "row") = true := by decide +kernel
theorem szW : szK (.inr "void") = 66 ∧ szK (.inr "entry") = 67 ∧ szK (.inr "joint") = 67 ∧ szK (.inr "row") = 65 := by decide +kernel
theorem sz1 (x : Key) : szT [x] = szK x := by simp [szT]
theorem sz3 (x y z : Key) : szT [x, y, z] = szK x + (szK y + szK z) := by simp [szT]
theorem kY {x y : Key} (hx : okP x = true) (hy : okP y = true) : okT [.inr "joint", x, y] = true := jN okW.2.2.1 (fun z hz => by
 rcases List.mem_cons.mp hz with h | h
 · rw [h]; exact hx
 · rw [List.mem_singleton.mp h]; exact hy) (show 2 ≤ 7 by decide)
theorem wQ {k : Nat} (h1 : 1 ≤ k) (h2 : k ≤ 59) : (2 : Int) ≤ 2 ^ k ∧ (2 : Int) ^ k ≤ 2 ^ 59 := by
 have a : (2:Nat) ^ 1 ≤ 2 ^ k := Nat.pow_le_pow_right (by decide) h1
 have b : (2:Nat) ^ k ≤ 2 ^ 59 := Nat.pow_le_pow_right (by decide) h2
 rw [← wC k]; omega
theorem nA {m : Nat} (h : 2 ≤ m) : bg m < m := by
 have := Nat.log2_self_le (n := m - 1) (by omega)
 unfold bg; omega
theorem mO {m : Nat} (h : 2 ≤ m) : m ≤ 2 * bg m := by
 have := Nat.lt_log2_self (n := m - 1)
 unfold bg; rw [Nat.pow_succ] at this; omega
theorem iB {m e : Nat} (h : 2 ≤ m) (he : m ≤ 2 ^ e) : ∃ k, bg m = 2 ^ k ∧ k < e := by
 refine ⟨Nat.log2 (m - 1), rfl, ?_⟩
 have h1 := Nat.log2_self_le (n := m - 1) (by omega)
 exact (Nat.pow_lt_pow_iff_right (by decide : 1 < 2)).mp (by omega : 2 ^ Nat.log2 (m - 1) < 2 ^ e)
theorem nN {m e : Nat} (h : 2 ≤ m) (he : m ≤ 2 ^ (e + 1)) : bg m ≤ 2 ^ e := by
 obtain ⟨k, e1, hk⟩ := iB h he
 rw [e1]; exact Nat.pow_le_pow_right (by decide) (by omega)
theorem DU {Q : V → Prop} {i : Int} (q : ∀ m : Nat, 1 ≤ m → m < 2 ^ 60 → Q (.int m)) (h0 : 1 ≤ i) (h1 : i < 2 ^ 60) : Q (.int i) := by
 obtain ⟨m, rfl⟩ := Int.eq_ofNat_of_zero_le (by omega : 0 ≤ i)
 exact q m (by omega) (by omega)
theorem zK (K : W.Frag) (A : Adr) : Ln (lV K A) 1 := by rintro vs H Q E ⟨m, rfl, _⟩; rfl
theorem Bp (T : Txt K mg A) (vs : List V) (H : Hp) (Q : VK) (E : XK) (h : lV K A vs H Q E) : Ej K A { nx := fun _ H' => Q .non H', rt := Q } (start ["many"] vs) H := by
 obtain ⟨m, rfl, h2, h60, q⟩ := h
 obtain ⟨k, ek, hk⟩ := iB h2 h60
 have e : (Builtin.Int.intBits ((m : Int) - 1) : Int) - 1 = ((Nat.log2 (m - 1) : Nat) : Int) := by
  unfold Builtin.Int.intBits
  rw [if_neg (by simp; omega)]
  have : ((m : Int) - 1).natAbs = m - 1 := by omega
  rw [this]; omega
 have hl : Nat.log2 (m - 1) < 60 := by
  have h1 := Nat.log2_self_le (n := m - 1) (by omega)
  exact (Nat.pow_lt_pow_iff_right (by decide : 1 < 2)).mp (by omega : 2 ^ Nat.log2 (m - 1) < 2 ^ 60)
 refine ⟨rfl, ?_⟩
 show ((0 ≤ (Builtin.Int.intBits ((m : Int) - 1) : Int) - 1 ∧ _ ∧ _) ∧ Q (.int (1 * 2 ^ ((Builtin.Int.intBits ((m : Int) - 1) : Int) - 1).toNat)) H)
 rw [e]
 refine ⟨⟨by omega, by omega, by decide⟩, ?_⟩
 rw [Int.one_mul, Int.toNat_natCast, ← wC]
 exact q
theorem Dx (K : W.Frag) (A : Adr) : Ln (qj K A) 1 := by rintro vs H Q E ⟨m, rfl, _⟩; rfl
theorem EK (T : Txt K mg A) (vs : List V) (H : Hp) (Q : VK) (E : XK) (h : qj K A vs H Q E) : T_7 K A { nx := fun _ H' => Q .non H', rt := Q } (start ["_law_cell"] vs) H := by
 obtain ⟨c, rfl, q⟩ := h
 have q' : ∀ i : Int, 1 ≤ i → i < 2 ^ 60 → Q (.int i) H := fun i h0 h1 => DU (Q := fun v => Q v H) q h0 h1
 refine ⟨by decide, ?_⟩
 refine Sel.dec (fun h => ?_) (fun h => ?_)
 · exact ⟨⟨by decide, by decide⟩, by decide, q' _ (by omega) (by omega)⟩
 · refine ⟨by decide, ?_⟩
   refine Sel.dec (fun h => ?_) (fun h => ?_)
   · refine ⟨⟨by decide, by decide⟩, by decide, ⟨by omega, by omega, by decide⟩, ⟨by decide, by decide⟩, by decide, ?_⟩
     have b := wQ (k := (1 + c / 3 % 59).toNat) (by omega) (by omega)
     generalize (1 + c / 3 % 59).toNat = k at b ⊢
     show Q (.int (1 * 2 ^ k + c / 177 % 4 - 1)) H
     exact q' _ (by omega) (by omega)
   · refine ⟨⟨by decide, by decide⟩, ⟨by decide, by decide, by decide⟩, by decide, ?_⟩
     show Q (.int (1 + c / 3 % (1 * 2 ^ 60 - 1))) H
     exact q' _ (by omega) (by omega)
theorem yK (K : W.Frag) (A : Adr) : Ln (jU K A) 3 := by rintro vs H Q E ⟨t, o, a, rfl, _⟩; rfl
theorem DD (T : Txt K mg A) : Rd (jU K A) (ED K A) ["turn", "own", "aside"] := by
 intro vs H Q E h
 obtain ⟨t, o, a, rfl, q⟩ := h
 unfold jtT at q
 refine Sel.dec (fun h => ⟨ax (show 3 ≤ 1000000 by decide), fun p hp => ?_⟩) (fun h => ⟨ax (show 3 ≤ 1000000 by decide), fun p hp => ?_⟩)
 · rw [if_pos h] at q; exact q p hp
 · rw [if_neg h] at q; exact q p hp
theorem AC (K : W.Frag) (A : Adr) : Ln (mi K A) 1 := by rintro vs H Q E ⟨p, c, v, rfl, _⟩; rfl
theorem Dd (T : Txt K mg A) : Rd (mi K A) (ET K A) ["thing"] := by
 intro vs H Q E h
 obtain ⟨p, c, v, rfl, hp, hc, okv, q⟩ := h
 have ty : tyN H (.ref p) = some "tuple" := by unfold tyN; dsimp only; rw [hp]
 refine ⟨by decide, "tuple", ty, Sel.t (.inl (.inr (.inl ⟨_, SqT.of hp, Sel.t (ixT (j := 0) hp rfl rfl ⟨c, rfl, by omega, by omega, Sel.t (ixT (j := 1) hp rfl rfl ⟨_, _, rfl, Ak v, ?_⟩)⟩)⟩)))⟩
 rw [lC okv]; exact q
theorem AJ (K : W.Frag) (A : Adr) : Ln (ms K A) 1 := by rintro vs H Q E ⟨p, c, v, rfl, _⟩; rfl
theorem BS (T : Txt K mg A) : Rd (ms K A) (EL K A) ["thing"] := by
 intro vs H Q E h
 obtain ⟨p, c, v, rfl, hp, hc, okv, q⟩ := h
 exact ⟨p, c, v, rfl, hp, hc, okv, Sel.no rfl q⟩
theorem yY (K : W.Frag) (A : Adr) : Ln (mD K A) 2 := by rintro vs H Q E ⟨p, ks, rfl, _⟩; rfl
theorem CG (T : Txt K mg A) : Rd (mD K A) (Fr K A) ["many", "thing"] := by
 intro vs H Q E h
 obtain ⟨p, k, rfl, hp, ok, l5, q⟩ := h
 have ty : tyN H (.ref p) = some "tuple" := by unfold tyN; dsimp only; rw [hp]
 have hml : (k.map kV).length = k.length := by simp
 refine ⟨by decide, "tuple", ty, Sel.t (.inl (.inr (.inl ⟨_, SqT.of hp, ?_⟩)))⟩
 rw [hml]
 refine Sel.dec (fun _ => ?_) (fun h => absurd rfl h)
 refine ⟨p, rfl, .inr ⟨⟨_, SqT.of hp⟩, fun D hD => ?_⟩⟩
 have hne : p ≠ D := ar hp hD
 refine fu (dY.tuple (xs := k.map kV) .non) (fun i ys H2 => ys = (k.take i).map (fun x => V.bl true) ∧ H2 = upd H D (.lst ys)) (fun i ys H2 hi ⟨_, e2⟩ => ?_) ⟨rfl, rfl⟩ (fun i ys H2 hi ⟨e1, e2⟩ => ?_) (fun ys H2 ⟨e1, e2⟩ => ?_)
 · rw [e2]; exact SqT.of (by rw [ak hne]; exact hp)
 · subst e2
   have hi' : i < k.length := by omega
   obtain ⟨x, hx⟩ : ∃ x, k[i]? = some x := ⟨_, List.getElem?_eq_getElem hi'⟩
   have hg : (k.map kV).getD i .non = kV x := by rw [List.getD_eq_getElem?_getD, List.getElem?_map, hx]; rfl
   rw [hg]
   have hs := lC (ok x (List.mem_of_getElem? hx))
   refine mP ⟨_, ku x, rfl, sB _ x, ?_⟩
   rw [hs]
   have hyl : ys.length = i := by rw [e1, List.length_map, List.length_take]; omega
   refine ⟨ag, by rw [hyl]; exact bj (by omega), CWd.next hi ⟨?_, eN⟩⟩
   rw [e1, List.take_add_one, List.map_append, hx]; rfl
 · subst e2
   refine ⟨D, k.map fun _ => true, rfl, by rw [ag, e1, hml, List.take_length, List.map_map]; rfl, ?_⟩
   have : (k.map fun _ => true).all id = true := by simp
   rw [this]; exact q _ (ao.upd hD)
end Rs
namespace Rs
open PySem PySem.Spec PyProof.Rows L2
theorem Ext.refl' (g : List Key → Option Key) : Ext g (fun k => (g k).getD (.inl 0)) := fun k v e => by show (g k).getD _ = v; rw [e]; rfl
theorem okC {c : Nat} (h : c < 2 ^ 60) : okP (.inl (c : Int)) = true := by
 have p60 : (2 : Int) ^ 60 < 10 ^ 60 := by decide +kernel
 have k : ∀ i : Int, 0 ≤ i → i < 10 ^ 60 → okP (.inl i) = true := fun i h0 h1 => decide_eq_true ⟨h0, h1⟩
 exact k _ (by omega) (by omega)
theorem vZ {t : Int} {v a : Key} (hv : okP v = true) (ha : okP a = true) : okT (jtT t v a) = true := by
 unfold jtT; split
 · exact kY hv ha
 · exact kY ha hv
theorem wz {t : Int} {v a : Key} : szT (jtT t v a) = 67 + szK v + szK a := by
 unfold jtT; split
 · rw [sz3, szW.2.2.1]; omega
 · rw [sz3, szW.2.2.1]; omega
theorem rW {c : Nat} {st : List (Int × Key)} {i B : Nat} {v : Key} (hc : c < 2 ^ 60) (hm : ∀ x ∈ st, enK x.2) (ov : okP v = true) (sv : szK v ≤ B + 62) : okT (be c st i v) = true ∧ szT (be c st i v) ≤ B + 200 := by
  unfold be
  cases e : st[i]? with
  | some x =>
    have hx := hm x (List.mem_of_getElem? e)
    exact ⟨vZ ov hx.1, by rw [wz]; have := hx.2; omega⟩
  | none =>
    refine ⟨jN okW.2.2.2 (fun z hz => ?_) (show 2 ≤ 7 by decide), ?_⟩
    · rcases List.mem_cons.mp hz with rfl | hz
      · exact okC hc
      · rw [List.mem_singleton.mp hz]; exact ov
    · show szT [.inr "row", .inl (c : Int), v] ≤ _
      rw [sz3, szW.2.2.2]; show 65 + (62 + szK v) ≤ _; omega
theorem zg {t : Int} {v v' a a' : Key} (h : jtT t v a = jtT t v' a') : v = v' ∧ a = a' := by
 unfold jtT at h
 split at h
 · cases h; exact ⟨rfl, rfl⟩
 · cases h; exact ⟨rfl, rfl⟩
theorem pL {ts : List Int} {ks : List Key} {x : Int × Key} (h : x ∈ stR ts ks) : x.1 ∈ ts ∧ x.2 ∈ ks := by
 unfold stR at h
 rw [List.mem_reverse] at h
 obtain ⟨a, b⟩ := x
 exact ⟨(List.of_mem_zip h).1, (List.of_mem_zip h).2⟩
variable {A : Adr}
theorem Stp.bb {H : Hp} {f b : Addr} {d : Kd} {g : List Key → Option Key} {n : Nat} (s : Stp A H f b d g n) : (∃ φ, H b = some (.ext φ)) ∨ ∃ kvs, H b = some (.dT kvs) := by
 cases s with
 | wri hc hb hg => obtain ⟨c, h1, _⟩ := hc.ex; exact .inl ⟨_, by rw [hb]; exact h1⟩
 | cnt q x kvs hc num => exact .inr ⟨_, num.di⟩
 | wea q m h1 h2 hc hb hg => obtain ⟨c, h1, _⟩ := hc.ex; exact .inl ⟨_, by rw [hb]; exact h1⟩
 | pla q0 q1 q2 D j j0 j1 kvs al hc hb => exact .inr ⟨_, hb⟩
theorem Stp.nb {H : Hp} {f b z : Addr} {d : Kd} {g : List Key → Option Key} {n : Nat} {o : HO} (s : Stp A H f b d g n) (h : H z = some o) (h1 : ∀ φ, o ≠ .ext φ) (h2 : ∀ kvs, o ≠ .dT kvs) : z ≠ b := fun e => by
 subst e
 rcases s.bb with ⟨φ, e⟩ | ⟨kvs, e⟩
 · rw [h] at e; exact h1 _ (Option.some.inj e)
 · rw [h] at e; exact h2 _ (Option.some.inj e)
theorem Stp.setL {H : Hp} {f b L : Addr} {d : Kd} {g : List Key → Option Key} {n : Nat} {xs : List V} {o : HO} (s : Stp A H f b d g n) (hL : H L = some (.lst xs)) : Stp A (upd H L o) f b d g n := by
  have kx : ∀ z (u : HO), H z = some u → (∀ xs, u ≠ .lst xs) → upd H L o z = some u := fun z u e hu => by rw [ak (bE e hL (hu _))]; exact e
  cases s with
  | wri hc hb hg ed => exact .wri (hc.keep fun x φ e => kx _ _ e (fun _ z => nomatch z)) hb hg ed
  | cnt q x kvs hc num hl hs st hg ed =>
    obtain ⟨⟨dx, h1⟩, h2⟩ := num
    exact .cnt q x kvs (hc.keep fun x φ e => kx _ _ e (fun _ z => nomatch z)) ⟨⟨dx, kx _ _ h1 (fun _ z => nomatch z)⟩, kx _ _ h2 (fun _ z => nomatch z)⟩ hl hs st hg ed
  | wea q m h1 h2 hc hb hg ed => exact .wea q m h1 h2 (hc.keep fun x φ e => kx _ _ e (fun _ z => nomatch z)) hb hg ed
  | pla q0 q1 q2 D j j0 j1 kvs al hc hb ha bD hl hs st hg ed => exact .pla q0 q1 q2 D j j0 j1 kvs al (hc.keep fun x φ e => kx _ _ e (fun _ z => nomatch z)) (kx _ _ hb (fun _ z => nomatch z)) (ha.keep (fun _ e => kx _ _ e (fun _ z => nomatch z)) (fun _ _ e => kx _ _ e (fun _ z => nomatch z))) bD hl hs st hg ed
end Rs
namespace Rs
open PySem PySem.Spec PyProof.Rows L2
variable {K : W.Frag} {mg : Str → Option Value} {A : Adr}
theorem PK.keep {H H' : Hp} {ps : List Addr} {tt : List (List Key)} (h : PK H ps tt) (k : ∀ x xs, H x = some (.tup xs) → H' x = some (.tup xs)) : PK H' ps tt := Paired.mapP h fun p t ⟨h1, h2⟩ => ⟨k _ _ h1, h2⟩
theorem cX {α β : Type} {F : α → β → Prop} : ∀ {l₁ : List α} {l₂ : List β} {a : α} {b : β}, Paired F l₁ l₂ → F a b → Paired F (l₁ ++ [a]) (l₂ ++ [b])
 | _, _, _, _, .nil, h => .cons h .nil
 | _, _, _, _, .cons r t, h => .cons r (cX t h)
theorem aB.tup {H H' : Hp} {f b : Addr} {d : Kd} {g : List Key → Option Key} {n : Nat} (s : Stp A H f b d g n) (k : aB b H H') : ∀ x xs, H x = some (.tup xs) → H' x = some (.tup xs) := fun x xs e => k _ _ (s.nb e (fun _ z => nomatch z) (fun _ z => nomatch z)) e
theorem dR {H : Hp} {p : Addr} {t : List Key} : ∀ {ps : List Addr} {tt : List (List Key)}, ps.length = tt.length → PK H (ps ++ [p]) (tt ++ [t]) → H p = some (.tup (t.map kV)) ∧ okT t = true
 | [], [], _, .cons h _ => h
 | _ :: _, _ :: _, hl, .cons _ r => dR (Nat.succ.inj hl) r
 | [], _ :: _, hl, _ => nomatch hl
 | _ :: _, [], hl, _ => nomatch hl
theorem eG {H : Hp} {p : Addr} {t : List Key} {ps : List Addr} {tt : List (List Key)} (h : PK H (ps ++ [p]) (tt ++ [t])) : ps.length = tt.length := by
 have := bO h
 simp at this; exact this
theorem ixB {K : W.Frag} {H : Hp} {Q : VK} {a : Addr} {xs : List V} {x : V} {i : Nat} (ha : H a = some (.lst xs)) (hi : i < xs.length) (hx : xs[xs.length - 1 - i]? = some x) (q : Q x H) : aA K (.ref a) (.int (-1 - (i : Int))) H Q := by
 refine .inl (.inl ⟨a, xs, -1 - (i : Int), x, rfl, rfl, SqL.of ha, ?_, q⟩)
 unfold atI L2.ixN
 rw [if_neg (by omega), if_pos (by omega)]
 show xs[(-1 - (i : Int) + (xs.length : Int)).toNat]? = _
 have : (-1 - (i : Int) + (xs.length : Int)).toNat = xs.length - 1 - i := by omega
 rw [this]; exact hx
theorem LadQ.last {tt : List (List Key)} {m : Nat} (h : tt.length = m + 1) : ∃ r t, tt = r ++ [t] := by
 cases e : tt.reverse with
 | nil => have := congrArg List.length e; rw [List.length_reverse, h] at this; simp at this
 | cons x r => exact ⟨r.reverse, x, by rw [← List.reverse_reverse tt, e, List.reverse_cons]⟩
theorem dO {H : Hp} {ps : List Addr} {r : List (List Key)} {t : List Key} (h : PK H ps (r ++ [t])) : ∃ qs p, ps = qs ++ [p] ∧ PK H (qs ++ [p]) (r ++ [t]) := by
  have hl := bO h
  cases e : ps.reverse with
  | nil => have := congrArg List.length e; rw [List.length_reverse, hl] at this; simp at this
  | cons x q =>
    have e2 : ps = q.reverse ++ [x] := by rw [← List.reverse_reverse ps, e, List.reverse_cons]
    exact ⟨_, _, e2, by rw [← e2]; exact h⟩
theorem Ds (K : W.Frag) (A : Adr) : Ln (qz K A) 3 := by rintro vs H Q E ⟨a, x, y, rfl, _⟩; rfl
theorem Fh (T : Txt K mg A) : Rd (qz K A) (T_0 K A) ["self", "due", "came"] := by
 intro vs H Q E h
 obtain ⟨a, x, y, rfl, ha, q⟩ := h
 refine ⟨a, rfl, T.ef_Broken_due, .inl ⟨ha, fun dx hdx ne => ?_⟩⟩
 refine ⟨a, rfl, T.ef_Broken_came, .inr ⟨dx, _, by rw [ak (Ne.symm ne)]; exact ag, ag, ne, by show 1 < 1000; decide, ?_⟩⟩
 exact q dx hdx
theorem lF {K : W.Frag} {H : Hp} {Q : VK} {a b : Key} (q : Q (.bl (!decide (a = b))) H) : dC K (kV a) (kV b) H Q := by
 cases a <;> cases b
 · rename_i i j
   have e : decide ((Sum.inl i : Key) = Sum.inl j) = decide (i = j) := by simp
   rw [e] at q; exact q
 · have e : ∀ (i : Int) (j : Str), decide ((Sum.inl i : Key) = Sum.inr j) = false := by simp
   rw [e] at q; exact q
 · have e : ∀ (i : Int) (j : Str), decide ((Sum.inr j : Key) = Sum.inl i) = false := by simp
   rw [e] at q; exact q
 · rename_i i j
   have e : decide ((Sum.inr i : Key) = Sum.inr j) = decide (i = j) := by simp
   rw [e] at q; exact q
theorem lc (xs : List V) (j : Nat) (hj : j ≤ xs.length) : eJ xs none (some (j : Int)) = xs.take j := by
 unfold eJ
 rw [HT.oR, HT.oa, List.drop_zero, Nat.sub_zero, Nat.min_eq_left hj]
theorem jh (xs : List V) (j : Nat) (hj : j ≤ xs.length) : eJ xs (some (j : Int)) none = xs.drop j := by
 unfold eJ
 rw [HT.oR, HT.oa, Nat.min_eq_left hj, List.take_of_length_le (by rw [List.length_drop]; omega)]
theorem EO : ∀ n : Fin 9, (okP (.inr (PySem.Txt.mul "z" ((n : Nat) : Int))) = true ∧ (PySem.Txt.mul "z" ((n : Nat) : Int)).length ≤ 8) ∧ okP (.inr (PySem.Txt.mul "y" ((n : Nat) : Int))) = true ∧ (PySem.Txt.mul "y" ((n : Nat) : Int)).length ≤ 8 := by decide +kernel
theorem AG {w : Str} {n : Nat} (hw : w = "z" ∨ w = "y") (hn : n ≤ 8) : enK (.inr (PySem.Txt.mul w (n : Int))) := by
 have h := EO ⟨n, by omega⟩
 dsimp only at h
 rcases hw with rfl | rfl
 · exact ⟨h.1.1, by show _ + 62 ≤ 70; have := h.1.2; omega⟩
 · exact ⟨h.2.1, by show _ + 62 ≤ 70; have := h.2.2; omega⟩
theorem Al (K : W.Frag) (A : Adr) : Ln (iM K A) 1 := by rintro vs H Q E ⟨m, rfl, _⟩; rfl
theorem Cn (T : Txt K mg A) : Rd (iM K A) (EY K A) ["_law_mark"] := by
  intro vs H Q E h
  obtain ⟨m, rfl, en, q⟩ := h
  cases m with
  | inl i =>
    refine ⟨by decide, "int", rfl, Sel.no rfl ?_⟩
    have r0 := Int.emod_nonneg (i + 2520) (b := 10 ^ 60) (by decide +kernel)
    have r1 := Int.emod_lt_of_pos (i + 2520) (b := 10 ^ 60) (by decide +kernel)
    have k : ∀ i : Int, 0 ≤ i → i < 10 ^ 60 → okP (.inl i) = true := fun i h0 h1 => decide_eq_true ⟨h0, h1⟩
    refine ⟨⟨by decide, by decide⟩, by decide, ?_⟩
    exact q (.inl ((i + 2520) % 10 ^ 60)) H (.refl H) ⟨k _ r0 r1, by show 62 ≤ 70; decide⟩
  | inr z =>
    have hz : z.length ≤ 8 := by have : z.length + 62 ≤ 70 := en.2; omega
    refine ⟨by decide, "str", rfl, Sel.yes rfl ⟨ax (show 2 ≤ 1000000 by decide), fun p hp => ⟨1, rfl, .inr ⟨z, rfl, Nat.le_of_lt (ax (by omega)), ?_⟩⟩⟩⟩
    have fin : ∀ w : Str, (w = "z" ∨ w = "y") → eS (.str w) (.int (z.length : Int)) (upd H p (.lst [.str "z", .str "y"])) Q := fun w hw => by
      refine ⟨⟨by omega, by omega, by rcases hw with rfl | rfl <;> decide⟩, q (.inr (PySem.Txt.mul w (z.length : Int))) _ (ao.upd hp) (AG hw hz)⟩
    by_cases e : PySem.Txt.slice z none (some 1) = "z"
    · show aA K (.ref p) (.int (if decide (PySem.Txt.slice z none (some 1) = "z") = true then 1 else 0)) _ _
      rw [if_pos (decide_eq_true e)]
      exact ixL (j := 1) ag rfl rfl (.inl ⟨Nat.le_of_lt (ax (by omega)), fin _ (.inr rfl)⟩)
    · show aA K (.ref p) (.int (if decide (PySem.Txt.slice z none (some 1) = "z") = true then 1 else 0)) _ _
      rw [if_neg (by rw [decide_eq_false e]; decide)]
      exact ixL (j := 0) ag rfl rfl (.inl ⟨Nat.le_of_lt (ax (by omega)), fin _ (.inl rfl)⟩)
theorem yQ (K : W.Frag) (A : Adr) : Ln (jR K A) 4 := by rintro vs H Q E ⟨f, b, D, o1, o2, k1, k2, g, n, rfl, _⟩; rfl
theorem Cc (T : Txt K mg A) : Rd (jR K A) (Ep K A) ["_law_known", "_law_alias", "_law_new", "_law_old"] := by
  intro vs H Q E h
  obtain ⟨f, b, D, o1, o2, k1, k2, g, n, rfl, s, hn, h1, h2, ok1, ok2, q⟩ := h
  have s0 := s
  cases s with
  | wri _ _ _ ed => cases ed
  | cnt _ _ _ _ _ _ _ _ _ ed => cases ed
  | wea _ _ _ _ _ _ _ ed => cases ed
  | pla q0 q1 q2 D' j j0 j1 kvs al hc hb ha bD hl hs st hg ed =>
    obtain ⟨rfl, rfl⟩ : D = D' ∧ none = al := by cases ed; exact ⟨rfl, rfl⟩
    have hD : H D = some (.dT []) := ha
    refine .inl ⟨b, _, rfl, cO.t hb h1, ?_⟩
    cases e : bR kvs k1 with
    | some v =>
      rw [iY, e]
      exact Sel.no rfl (q none g H (fun x o _ e => e) s0 Sub.rfl')
    | none =>
      rw [iY, e]
      refine Sel.yes rfl (.inr ⟨D, upd H D (.dT (bT [] k1 (.ref o2))), rfl, .inr ⟨[], k1, o1, hD, rfl, h1, by decide, rfl⟩, ?_⟩)
      have kx : ∀ z (u : HO), z ≠ D → H z = some u → upd H D (.dT (bT [] k1 (.ref o2))) z = some u := fun z u nz ez => by rw [ak nz]; exact ez
      refine q (some (k1, k2)) (fun k => bR kvs (alF (some (k1, k2)) k)) _ (fun x o n e => kx x o n e) (.pla q0 q1 q2 D j j0 j1 kvs (some (k1, k2)) (hc.keep fun x φ e => kx _ _ (bE e hD (fun z => nomatch z)) e) (kx _ _ bD hb) ⟨o2, ag, kx _ _ (bE h2 hD (fun z => nomatch z)) h2, ok2⟩ bD hl hs st rfl rfl) fun k v gk => ?_
      rw [hg] at gk
      have gk : bR kvs k = some v := gk
      show bR kvs (if k = k1 then k2 else k) = some v
      rw [if_neg (fun z => by rw [z, e] at gk; cases gk)]; exact gk
end Rs
namespace Rs
open PySem PySem.Spec PyProof.Rows L2
theorem vp {α : Type} {ks : List α} {a : α} : ∀ (j : Nat), ks[j]? = some a → ∃ j0, j0 ≤ j ∧ ks[j0]? = some a ∧ ∀ j', j' < j0 → ks[j']? ≠ some a := by
  intro j
  induction j using Nat.strongRecOn with
  | ind j ih =>
    intro h
    by_cases e : ∃ j', j' < j ∧ ks[j']? = some a
    · obtain ⟨j', h1, h2⟩ := e
      obtain ⟨j0, h3, h4, h5⟩ := ih j' h1 h2
      exact ⟨j0, by omega, h4, h5⟩
    · exact ⟨j, Nat.le_refl _, h, fun j' h1 h2 => e ⟨j', h1, h2⟩⟩
theorem dU {k : List Key} (h : okT k = true) : k.all gj = true := by
 rw [List.all_eq_true]
 intro x hx
 have := iK h hx
 cases x with
 | inl i => rfl
 | inr z => exact sq (Bool.and_eq_true_iff.mp this).1
theorem qU {H : Hp} {ps : List Addr} {ts : List (List Key)} (h : PK H ps ts) : ∀ {i : Nat} {p : Addr}, ps[i]? = some p → ∃ t, ts[i]? = some t ∧ H p = some (.tup (t.map kV)) ∧ okT t = true := by
  induction h with
  | nil => intro i t e; cases e
  | cons r _ ih =>
    intro i t e
    cases i with
    | zero => cases e; exact ⟨_, rfl, r⟩
    | succ i => exact ih e
variable {K : W.Frag} {mg : Str → Option Value} {A : Adr}
theorem Stp.keep {H H' : Hp} {f b : Addr} {d : Kd} {g : List Key → Option Key} {n m : Nat} (s : Stp A H f b d g n) (hn : n ≤ m) (k : ∀ z o, H z = some o → (∀ xs, o ≠ .dK xs) → (∀ xs, o ≠ .lst xs) → H' z = some o) : Stp A H' f b d g m := by
  have kx : ∀ z φ, H z = some (.ext φ) → H' z = some (.ext φ) := fun z φ e => k z _ e (fun _ z => nomatch z) (fun _ z => nomatch z)
  have kd : ∀ z xs, H z = some (.dT xs) → H' z = some (.dT xs) := fun z φ e => k z _ e (fun _ z => nomatch z) (fun _ z => nomatch z)
  cases s with
  | wri hc hb hg ed => exact .wri (hc.keep kx) hb hg ed
  | cnt q x kvs hc num hl hs st hg ed =>
    obtain ⟨⟨dx, h1⟩, h2⟩ := num
    exact .cnt q x kvs (hc.keep kx) ⟨⟨dx, k _ _ h1 (fun _ z => nomatch z) (fun _ z => nomatch z)⟩, kd _ _ h2⟩ (Nat.le_trans hl hn) hs st hg ed
  | wea q m h1 h2 hc hb hg ed => exact .wea q m h1 h2 (hc.keep kx) hb hg ed
  | pla q0 q1 q2 D j j0 j1 kvs al hc hb ha bD hl hs st hg ed => exact .pla q0 q1 q2 D j j0 j1 kvs al (hc.keep kx) (kd _ _ hb) (ha.keep (fun _ e => kd _ _ e) (fun _ _ e => k _ _ e (fun _ z => nomatch z) (fun _ z => nomatch z))) bD (Nat.le_trans hl hn) hs st hg ed
theorem aB.obj {H H' : Hp} {b x : Addr} {o : HO} (k : aB b H H') (hb : (∃ φ, H b = some (.ext φ)) ∨ ∃ kvs, H b = some (.dT kvs)) (e : H x = some o) (h : ∀ kvs, o ≠ .dT kvs) (h2 : ∀ φ, o ≠ .ext φ := by intro _ z; cases z) : H' x = some o := k _ _ (fun z => by
 subst z
 rcases hb with ⟨φ, hb⟩ | ⟨kvs, hb⟩
 · rw [e] at hb; exact h2 _ (Option.some.inj hb)
 · rw [e] at hb; exact h _ (Option.some.inj hb)) e
theorem AL (K : W.Frag) (A : Adr) : Ln (gM K A) 2 := by rintro vs H Q E ⟨f, bb, L, dd, ps, ks, g, n, rfl, _⟩; rfl
theorem Bv (T : Txt K mg A) : Rd (gM K A) (Ec K A) ["stamper", "terms", "firsts", "term", "ahead"] := by
  intro vs H Q E h
  obtain ⟨f, bb, L, dd, ps, ks, g, n, rfl, s, hL, pk, hk9, hn, q⟩ := h
  have sdd := s.bb
  have pl := bO pk
  refine .inl fun d hd => ?_
  have S0 := ao.upd (o := .dK []) hd
  refine ⟨L, rfl, .inl ⟨⟨_, SqL.of (S0 _ _ hL)⟩, ?_⟩⟩
  have noc : ∀ (i : Nat) (H' : Hp) (g' : List Key → Option Key) (kvs : List (Key × V)), (∀ j a, j < i → ks[j]? = some a → ∃ v p, g' a = some v ∧ bn kvs v = some (.ref p) ∧ H' p = some (.tup (a.map kV))) → ∀ (h : List Key → Key), Ext g' h → ∀ (j k : Nat) a b, j < k → k < i → ks[j]? = some a → ks[k]? = some b → h a = h b → a = b := by
    intro i H' g' kvs I1 h hh j k a b h1 h2 h3 h4 h5
    obtain ⟨v, p, e1, e2, e3⟩ := I1 j a (by omega) h3
    obtain ⟨v', p', e1', e2', e3'⟩ := I1 k b h2 h4
    have : v = v' := by rw [hh _ _ e1, hh _ _ e1'] at h5; exact h5
    subst this
    rw [e2] at e2'; cases e2'
    rw [e3] at e3'
    injection e3' with e; injection e with e
    exact ge e
  refine fy (xs := ps.map V.ref) (fun i σ H' => ∃ x3 x4 g' kvs, σ = [some (.ref f), some (.ref L), some (.ref d), x3, x4] ∧ aB bb H H' ∧ Stp A H' f bb dd g' (n + i) ∧ Sub g g' ∧ H' d = some (.dK kvs) ∧ kvs.length ≤ i ∧
      (∀ j a, j < i → ks[j]? = some a → ∃ v p, g' a = some v ∧ bn kvs v = some (.ref p) ∧ H' p = some (.tup (a.map kV))) ∧
      ∀ v x, bn kvs v = some x → ∃ j a p, j < i ∧ ks[j]? = some a ∧ x = .ref p ∧ H' p = some (.tup (a.map kV)) ∧ okT a = true ∧ g' a = some v)
    ⟨none, none, g, [], rfl, aB.same S0, s.same (Nat.le_refl _) S0, fun _ _ e => e, ag, Nat.le_refl _, fun j a hj => by omega, fun v x e => by cases e⟩ ?_ ?_ ?_
  · rintro i σ H' _ ⟨x3, x4, g', kvs, rfl, kp, _⟩; exact SqL.of (kp.obj sdd hL (fun _ z => nomatch z))
  · rintro i x σ H' hx ⟨x3, x4, g', kvs, rfl, kp, s', sub, hd', hl, I1, I2⟩
    obtain ⟨p, hp, rfl⟩ := dS hx
    obtain ⟨k, hk, hpk, ok⟩ := qU pk hp
    have hi : i < ks.length := (List.getElem?_eq_some_iff.mp hk).1
    refine ⟨.inr (.inr (.inl ⟨rfl, .inl ⟨_, hd'⟩⟩)), f, rfl, s'.clo, tc1 rfl (cF s' (by omega) (kp.obj sdd hpk (fun _ z => nomatch z)) ok fun v H3 g3 k3 s3 sub3 gv _ => tc1 rfl ?_)⟩
    have hp3 : H3 p = some (.tup (k.map kV)) := k3.obj s'.bb (kp.obj sdd hpk (fun _ z => nomatch z)) (fun _ z => nomatch z)
    have hd3 := k3.obj s'.bb hd' (fun _ z => nomatch z)
    have J1 : ∀ j a, j < i → ks[j]? = some a → ∃ v p, g3 a = some v ∧ bn kvs v = some (.ref p) ∧ H3 p = some (.tup (a.map kV)) := fun j a hj e => by
      obtain ⟨v, p, e1, e2, e3⟩ := I1 j a hj e
      exact ⟨v, p, sub3 _ _ e1, e2, k3.obj s'.bb e3 (fun _ z => nomatch z)⟩
    have J2 : ∀ v x, bn kvs v = some x → ∃ j a p, j < i ∧ ks[j]? = some a ∧ x = .ref p ∧ H3 p = some (.tup (a.map kV)) ∧ okT a = true ∧ g3 a = some v := fun v x e => by
      obtain ⟨j, a, p, e1, e2, e3, e4, e5, e6⟩ := I2 v x e
      exact ⟨j, a, p, e1, e2, e3, k3.obj s'.bb e4 (fun _ z => nomatch z), e5, sub3 _ _ e6⟩
    have kp3 := kp.trans k3
    have sub' : Sub g g3 := fun a b e => sub3 a b (sub a b e)
    have gd := cO.k (k := v) hd3
    cases ev : bn kvs v with
    | some x =>
      rw [ev] at gd
      obtain ⟨j0, a0, p0, hj0, ha0, rfl, hp0, ok0, g0⟩ := J2 v x ev
      refine ⟨d, kV v, .ref p, .ref p0, H3, rfl, rfl, .inl ⟨gd, rfl⟩, ?_⟩
      refine ⟨_, _, cx hp0, cx hp3, bi (dU ok0), bi (dU ok), nR _, Sel.mk (fun t => ?_) (fun t => ?_)⟩
      · have ne := iz t
        refine ⟨ax (n := 2) (by decide), fun r hr => ?_⟩
        have S := ao.upd (o := .tup [V.ref p0, V.ref p]) hr
        refine q _ _ g3 (some (a0, k)) (kp3.trans (aB.same S)) (s3.same (by omega) S) sub' ⟨r, p0, p, rfl, ag, S _ _ hp0, S _ _ hp3, ok0, ok⟩ (fun h hh => ?_)
        obtain ⟨j1, hj1, hb1, hmin⟩ := vp j0 ha0
        refine ⟨j1, i, by omega, hb1, hk, ne, by rw [hh _ _ g0, hh _ _ gv], noc i H3 g3 kvs J1 h hh, fun j' a hj' ha he => ?_⟩
        obtain ⟨v1, p1, e1, e2, e3⟩ := J1 j' a (by omega) ha
        have : v1 = v := by rw [hh _ _ e1, hh _ _ gv] at he; exact he
        subst this
        rw [ev] at e2; cases e2
        rw [hp0] at e3
        injection e3 with e; injection e with e
        have := ge e
        subst this
        exact (hmin j' hj' ha).elim
      · have e := yR t
        subst e
        refine ⟨_, _, g3, kvs, rfl, kp3, s3, sub', hd3, by omega, fun j a hj ha => ?_, fun w x e => ?_⟩
        · by_cases e : j = i
          · subst e; rw [hk] at ha; cases ha
            exact ⟨v, p0, gv, ev, hp0⟩
          · exact J1 j a (by omega) ha
        · obtain ⟨j, a, r, e1, e2⟩ := J2 w x e
          exact ⟨j, a, r, by omega, e2⟩
    | none =>
      rw [ev] at gd
      refine ⟨d, kV v, .ref p, .ref p, upd H3 d (.dK (bT kvs v (.ref p))), rfl, rfl, .inr ⟨gd, kr.k hd3 (Nat.lt_of_le_of_lt hl (ax (n := i + 1) (by omega))), rfl⟩, ?_⟩
      have dn : ∀ b o, H3 b = some o → (∀ kvs, o ≠ .dK kvs) → upd H3 d (.dK (bT kvs v (.ref p))) b = some o := fun b o e nd => by rw [ak (fun z => by subst z; rw [hd3] at e; cases e; exact nd _ rfl)]; exact e
      have hp4 := dn _ _ hp3 (fun _ z => nomatch z)
      refine ⟨_, _, cx hp4, cx hp4, bi (dU ok), bi (dU ok), nR _, Sel.mk (fun t => (iz t rfl).elim) (fun t => ?_)⟩
      refine ⟨_, _, g3, bT kvs v (.ref p), rfl, ?_, s3.keep (Nat.le_refl _) (fun b o e nd _ => dn b o e nd), sub', ag, Nat.le_trans (dE _ _ _) (by omega), fun j a hj ha => ?_, fun w x e => ?_⟩
      · intro b o nb e
        rw [ak (ar e hd)]
        exact kp3 _ _ nb e
      · by_cases e : j = i
        · subst e; rw [hk] at ha; cases ha
          exact ⟨v, p, gv, by rw [gQ, if_pos rfl], hp4⟩
        · obtain ⟨w, r, e1, e2, e3⟩ := J1 j a (by omega) ha
          exact ⟨w, r, e1, by rw [gQ, if_neg (fun z => by subst z; rw [ev] at e2; cases e2)]; exact e2, dn _ _ e3 (fun _ z => nomatch z)⟩
      · rw [gQ] at e
        by_cases ew : w = v
        · subst ew
          rw [if_pos rfl] at e; cases e
          exact ⟨i, k, p, by omega, hk, rfl, hp4, ok, gv⟩
        · rw [if_neg ew] at e
          obtain ⟨j, a, r, e1, e2, e3, e4, e5⟩ := J2 w x e
          exact ⟨j, a, r, by omega, e2, e3, dn _ _ e4 (fun _ z => nomatch z), e5⟩
  · rintro σ H' ⟨x3, x4, g', kvs, rfl, kp, s', sub, hd', hl, I1, I2⟩
    have el : (ps.map V.ref).length = ks.length := by rw [List.length_map, pl]
    rw [el] at s' I1
    refine q _ _ g' none kp s' sub rfl fun h hh => ?_
    exact fun j k a b h1 h2 h3 h4 => noc ks.length H' g' kvs I1 h hh j k a b h1 (List.getElem?_eq_some_iff.mp h3).1 h2 h3 h4
end Rs
namespace Rs
open PySem PySem.Spec PyProof.Rows L2
variable {K : W.Frag} {mg : Str → Option Value} {A : Adr}
theorem iE {H : Hp} {Q : VK} {a b : Addr} {k l : List Key} (ha : H a = some (.tup (k.map kV))) (hb : H b = some (.tup (l.map kV))) (q : Q (.bl (decide (k = l))) H) : bh K (.ref a) (.ref b) H Q := by
 refine .inl ⟨a, b, _, _, rfl, rfl, SqT.of ha, SqT.of hb, lE _, lE _, ?_⟩
 by_cases e : k = l
 · subst e; rw [decide_eq_true rfl] at q ⊢; exact q
 · rw [decide_eq_false e] at q; rw [decide_eq_false fun z => e (ge z)]; exact q
theorem oE {K : W.Frag} {H : Hp} {ps : List Addr} {tt : List (List Key)} (h : PK H ps tt) : DatVs K H (ps.map V.ref) (tt.map fun t => PyData.tuple (t.map bA)) := by
 induction h with
 | nil => exact .nil
 | cons r _ ih => exact .cons (cx r.1) ih
theorem sW {H : Hp} {ps : List Addr} {tt : List (List Key)} (h : PK H ps tt) : PyData.canLayAll0 (tt.map fun t => PyData.tuple (t.map bA)) = true ∧ PyData.depthAll (tt.map fun t => PyData.tuple (t.map bA)) ≤ 1 := by
  induction h with
  | nil => exact ⟨rfl, Nat.zero_le _⟩
  | @cons p t l1 l2 r _ ih =>
    refine ⟨?_, ?_⟩
    · show (PyData.canLayAll0 (t.map bA) && PyData.canLayAll0 _) = true
      rw [bi (dU r.2), ih.1]; rfl
    · show max (PyData.depthAll (t.map bA) + 1) (PyData.depthAll _) ≤ 1
      rw [ef]; have := ih.2; omega
theorem sE {tt : List (List Key)} {t : List Key} (h : t ∈ tt) : ((tt.map fun t => PyData.tuple (t.map bA)).any fun e => e.eqv (PyData.tuple (t.map bA))) = true := by
 rw [List.any_eq_true]
 refine ⟨_, List.mem_map.mpr ⟨t, h, rfl⟩, ?_⟩
 show PyData.eqvAll (t.map bA) (t.map bA) = true
 rw [eT]; exact decide_eq_true rfl
theorem zo (K : W.Frag) (A : Adr) : Ln (jF K A) 2 := by rintro vs H Q E ⟨L, M, ps, rs, tt, rfl, _⟩; rfl
theorem BG (T : Txt K mg A) : Rd (jF K A) (Ed K A) ["_law_found", "_law_due", "_law_one", "_law_other"] := by
 intro vs H Q E h
 obtain ⟨L, M, ps, rs, tt, rfl, hL, hM, w1, w2, hl, q⟩ := h
 have l1 := bO w1
 have l2 := bO w2
 have ty : tyN H (.ref L) = some "list" := by unfold tyN; dsimp only; rw [hL]
 refine ⟨by decide, "list", ty, Sel.no rfl (.inl (.inl ⟨_, SqL.of hL, .inl (.inl ⟨_, SqL.of hM, ?_⟩)⟩))⟩
 refine Sel.no (by simp; omega) (.inr ⟨L, M, ps.map V.ref, rs.map V.ref, rfl, SqL.of hL, SqL.of hM, ?_⟩)
 refine uq (xs := ps.map V.ref) (ys := rs.map V.ref) (fun i σ H' => ∃ x2 x3, σ = [some (.ref L), some (.ref M), x2, x3] ∧ ao H H') ⟨none, none, rfl, .refl H⟩ (fun i σ H' _ h => ?_) (by simp; omega) (fun i x y σ H' t hx hy h ht => ?_) (fun σ H' h => ?_)
 · obtain ⟨_, _, _, S⟩ := h
   exact ⟨SqL.of (S _ _ hL), SqL.of (S _ _ hM)⟩
 · obtain ⟨x2, x3, rfl, S⟩ := h
   obtain ⟨p, hp, rfl⟩ := dS hx
   obtain ⟨r, hr, rfl⟩ := dS hy
   obtain ⟨k, hk, hpk, ok⟩ := qU w1 hp
   obtain ⟨k', hk', hrk, ok'⟩ := qU w2 hr
   obtain rfl : k = k' := Option.some.inj (hk.symm.trans hk')
   have S1 := S.trans (ao.upd (o := .tup [.ref p, .ref r]) ht)
   have hp1 := S1 _ _ hpk
   have hr1 := S1 _ _ hrk
   have ht1 : upd H' t (.tup [.ref p, .ref r]) t = some (.tup [.ref p, .ref r]) := ag
   generalize upd H' t (.tup [.ref p, .ref r]) = H1 at S1 hp1 hr1 ht1
   have ty1 : tyN H1 (.ref p) = some "tuple" := by unfold tyN; dsimp only; rw [hp1]
   refine ⟨t, [.ref p, .ref r], rfl, SqT.of ht1, rfl, _, _, rfl, _, _, rfl, rfl, by decide, "tuple", ty1, Sel.no rfl ⟨_, _, cx hp1, cx hr1, bi (dU ok), bi (dU ok), nR _, Sel.mk (fun z => (iz z rfl).elim) (fun _ => ?_)⟩⟩
   refine ⟨p, rfl, .inr ⟨⟨_, SqT.of hp1⟩, fun D hD => ?_⟩⟩
   have hne : p ≠ D := ar hp1 hD
   refine fu (dY.tuple (xs := k.map kV) .non) (fun i ys H2 => ys = [] ∧ H2 = upd H1 D (.lst [])) (fun i ys H2 hi ⟨_, e2⟩ => ?_) ⟨rfl, rfl⟩ (fun i ys H2 hi ⟨e1, e2⟩ => ?_) (fun ys H2 ⟨e1, e2⟩ => ?_)
   · rw [e2]; exact SqT.of (by rw [ak hne]; exact hp1)
   · subst e1 e2
     have hi' : i < k.length := by rw [List.length_map] at hi; exact hi
     obtain ⟨x, hx⟩ : ∃ x, k[i]? = some x := ⟨_, List.getElem?_eq_getElem hi'⟩
     have hg : (k.map kV).getD i .non = kV x := by rw [List.getD_eq_getElem?_getD, List.getElem?_map, hx]; rfl
     rw [hg]
     cases x with
     | inl n => exact ⟨by decide, "int", rfl, (by show if false = true then _ else _; exact CWd.next hi ⟨rfl, rfl⟩)⟩
     | inr z => exact ⟨by decide, "str", rfl, (by show if false = true then _ else _; exact CWd.next hi ⟨rfl, rfl⟩)⟩
   · subst e1 e2
     refine ⟨ax (n := 0) (by decide), fun D2 hD2 => ⟨_, _, .lst (SqL.of (ao.upd hD2 _ _ ag)) .nil, .lst (SqL.of ag) .nil, rfl, rfl, by decide, Sel.no rfl ⟨_, _, rfl, S1.trans ((ao.upd hD).trans (ao.upd hD2))⟩⟩⟩
 · obtain ⟨x2, x3, rfl, S⟩ := h
   exact q H' S
theorem yg (K : W.Frag) (A : Adr) : Ln (jQ K A) 3 := by rintro vs H Q E ⟨f, b, L, d, ps, ks, r, v, g, n, rfl, _⟩; rfl
theorem BR (T : Txt K mg A) : Rd (jQ K A) (EV K A) ["_law_stamper_here", "_law_terms", "_law_found"] := by
 intro vs H Q E h
 obtain ⟨f, b, L, d, ps, ks, r, v, g, n, rfl, s, hL, pk, hk9, hn, ⟨p, a1, a2, rfl, hp, h1, h2, ok1, ok2⟩, m1, m2, ne, eqh, q⟩ := h
 have ty : tyN H (.ref p) = some "tuple" := by unfold tyN; dsimp only; rw [hp]
 obtain ⟨cl, dl⟩ := sW pk
 have no : ∀ (a : Addr) (k : List Key) (R : VK), H a = some (.tup (k.map kV)) → okT k = true → k ∈ ks → R (.bl false) H → fv K (.ref a) (.ref L) H R := fun a k R ha ok hm hR =>
  .inr ⟨_, _, cx ha, .inl (.lst (SqL.of hL) (oE pk)), cl, bi (dU ok), by show PyData.depthAll (k.map bA) + 1 ≤ 140; rw [ef]; decide, by rw [sE hm]; exact hR⟩
 refine ⟨by decide, "tuple", ty, Sel.no rfl (.inl (.inr (.inl ⟨_, SqT.of hp, Sel.no rfl ?_⟩)))⟩
 refine ixT (j := 0) hp rfl rfl (ixT (j := 1) hp rfl rfl (iE h1 h2 (Sel.no (decide_eq_false ne) ?_)))
 refine ixT (j := 0) hp rfl rfl (no _ _ _ h1 ok1 m1 (Sel.no rfl (ixT (j := 1) hp rfl rfl (no _ _ _ h2 ok2 m2 (Sel.no rfl ?_)))))
 refine ⟨f, rfl, s.clo, ixT (j := 0) hp rfl rfl ?_⟩
 dsimp only [af]
 refine cF s (by omega) h1 ok1 fun v1 H1 g1 kb1 s1 sub1 gv1 st1 => ?_
 have hp1 := kb1.obj s.bb hp (fun _ z => nomatch z)
 refine ⟨f, rfl, s1.clo, ixT (j := 1) hp1 rfl rfl ?_⟩
 dsimp only [af]
 refine cF s1 (by omega) (kb1.obj s.bb h2 (fun _ z => nomatch z)) ok2 fun v2 H2 g2 kb2 s2 sub2 gv2 st2 => ?_
 have e : v1 = v2 := by
  have x := Ext.refl' g2
  rw [← x _ _ (sub2 _ _ gv1), ← x _ _ gv2]
  exact eqh _ (Ext.of (sub1.trans sub2) x)
 subst e
 refine vo ?_
 rw [decide_eq_true rfl]; exact q _
end Rs
namespace Rs
open PySem PySem.Spec PyProof.Rows L2
variable {K : W.Frag} {mg : Str → Option Value} {A : Adr}
def dig (m : Nat) : List Nat := (Nat.toDigits 10 m).map Char.toNat
theorem mU {n : Int} (h0 : 0 ≤ n) : (((toString n : String) : Str)).cps.toList = dig n.toNat := by
 obtain ⟨m, rfl⟩ := Int.eq_ofNat_of_zero_le h0
 exact W.KIN.signs_num m
theorem pF (m : Nat) : ∀ d ∈ dig m, 48 ≤ d ∧ d ≤ 57 := fun d hd => by
 obtain ⟨ch, hch, e⟩ := List.mem_map.mp hd
 rw [← e]
 exact digit_range (Nat.isDigit_of_mem_toDigits (by decide) (by decide) hch)
theorem pN (m : Nat) : PySem.NumText.digitsVal (dig m) = m := W.KIN.val_back m
theorem xX {m n : Nat} (h : dig m = dig n) : m = n := by rw [← pN m, h, pN n]
theorem xm (z : Str) : z.length = z.cps.toList.length := by rw [Array.length_toList]; rfl
theorem xZ {x y : Str} (h : x.cps.toList = y.cps.toList) : x = y := by
 cases x; cases y
 simp only [Str.mk.injEq] at h ⊢
 exact Array.toList_inj.mp h
theorem eE (a b : Str) : (a ++ b).cps.toList = a.cps.toList ++ b.cps.toList := by
 rw [show (a ++ b).cps = a.cps ++ b.cps from rfl, Array.toList_append]
theorem rk {a b : List Nat} {c d : Nat} {t u : List Nat} (ha : ∀ x ∈ a, 48 ≤ x ∧ x ≤ 57) (hb : ∀ x ∈ b, 48 ≤ x ∧ x ≤ 57) (hc : c = 58 ∨ c = 59) (hd : d = 58 ∨ d = 59) (h : a ++ c :: t = b ++ d :: u) : a = b ∧ c = d ∧ t = u := by
  induction a generalizing b with
  | nil =>
    cases b with
    | nil => exact ⟨rfl, (List.cons.inj h).1, (List.cons.inj h).2⟩
    | cons y r =>
      have e := (List.cons.inj h).1
      have := hb y List.mem_cons_self
      omega
  | cons x r ih =>
    cases b with
    | nil =>
      have e := (List.cons.inj h).1
      have := ha x List.mem_cons_self
      omega
    | cons y r' =>
      obtain ⟨e1, e2⟩ := List.cons.inj h
      obtain ⟨i1, i2, i3⟩ := ih (fun z hz => ha z (List.mem_cons_of_mem _ hz)) (fun z hz => hb z (List.mem_cons_of_mem _ hz)) e2
      exact ⟨by rw [e1, i1], i2, i3⟩
theorem gS (v : Key) (h : okP v = true) : ∃ (m c : Nat) (w : List Nat), (cn v).cps.toList = dig m ++ c :: w ∧ ((c = 59 ∧ w = [] ∧ v = .inl (m : Int)) ∨ (c = 58 ∧ m = w.length ∧ v = .inr ⟨w.toArray⟩)) := by
  cases v with
  | inl i =>
    have h0 : 0 ≤ i := (of_decide_eq_true h).1
    refine ⟨i.toNat, 59, [], ?_, .inl ⟨rfl, rfl, by rw [Int.toNat_of_nonneg h0]⟩⟩
    show (((toString i : String) : Str) ++ ((";" : String) : Str)).cps.toList = _
    rw [eE, mU h0]; rfl
  | inr z =>
    refine ⟨z.length, 58, z.cps.toList, ?_, .inr ⟨rfl, xm z, rfl⟩⟩
    show (((toString (z.length : Int) : String) : Str) ++ ((":" : String) : Str) ++ z).cps.toList = _
    rw [eE, eE, mU (by omega), Int.toNat_natCast, List.append_assoc]; rfl
theorem rA {x y : Key} {t u : List Nat} (hx : okP x = true) (hy : okP y = true) (h : (cn x).cps.toList ++ t = (cn y).cps.toList ++ u) : x = y ∧ t = u := by
 obtain ⟨m, c, w, e, hv⟩ := gS x hx
 obtain ⟨m', c', w', e', hv'⟩ := gS y hy
 rw [e, e', List.append_assoc, List.append_assoc] at h
 obtain ⟨h1, h2, h3⟩ := rk (pF m) (pF m') (by rcases hv with ⟨q, _⟩ | ⟨q, _⟩; exact .inr q; exact .inl q) (by rcases hv' with ⟨q, _⟩ | ⟨q, _⟩; exact .inr q; exact .inl q) h
 have hm := xX h1
 subst hm h2
 rcases hv with ⟨q1, q2, q3⟩ | ⟨q1, q2, q3⟩ <;> rcases hv' with ⟨r1, r2, r3⟩ | ⟨r1, r2, r3⟩
 · subst q2 r2
   exact ⟨q3.trans r3.symm, by simpa using h3⟩
 · omega
 · omega
 · have hl : w.length = w'.length := by omega
   obtain ⟨a1, a2⟩ := List.append_inj h3 hl
   subst a1
   exact ⟨q3.trans r3.symm, a2⟩
theorem ls {x : Key} (h : okP x = true) : (cn x).cps.toList ≠ [] := by
 obtain ⟨m, c, w, e, _⟩ := gS x h
 rw [e]; simp
theorem lr : ∀ {xs ys : List Key}, xs.all okP = true → ys.all okP = true → cb xs = cb ys → xs = ys
  | [], [], _, _, _ => rfl
  | [], y :: r, _, hy, h => by
    rw [List.all_cons, Bool.and_eq_true] at hy
    have e := congrArg (fun s : Str => s.cps.toList) h
    have e2 : (cb (y :: r)).cps.toList = (cn y).cps.toList ++ (cb r).cps.toList := eE _ _
    have e : ([] : List Nat) = (cb (y :: r)).cps.toList := e
    rw [e2] at e
    exact absurd (List.append_eq_nil_iff.mp e.symm).1 (ls hy.1)
  | x :: r, [], hx, _, h => by
    rw [List.all_cons, Bool.and_eq_true] at hx
    have e := congrArg (fun s : Str => s.cps.toList) h
    have e2 : (cb (x :: r)).cps.toList = (cn x).cps.toList ++ (cb r).cps.toList := eE _ _
    have e : (cb (x :: r)).cps.toList = ([] : List Nat) := e
    rw [e2] at e
    exact absurd (List.append_eq_nil_iff.mp e).1 (ls hx.1)
  | x :: r, y :: r', hx, hy, h => by
    rw [List.all_cons, Bool.and_eq_true] at hx hy
    have e : (cn x).cps.toList ++ (cb r).cps.toList = (cn y).cps.toList ++ (cb r').cps.toList := by
      rw [← eE, ← eE]; exact congrArg (fun s : Str => s.cps.toList) h
    obtain ⟨h1, h2⟩ := rA hx.1 hy.1 e
    rw [h1, lr hx.2 hy.2 (xZ h2)]
theorem Stp.inj {H : Hp} {f b : Addr} {d : Kd} {g : List Key → Option Key} {n : Nat} (s : Stp A H f b d g n) (hd : d.sure) {k k' : List Key} {v : Key} (ok : okT k = true) (ok' : okT k' = true) (h : g k = some v) (h' : g k' = some v) : k = k' := by
  cases s with
  | wri hc hb hg ed =>
    subst hg
    have e : (Sum.inr (cb k) : Key) = Sum.inr (cb k') := (Option.some.inj h).trans (Option.some.inj h').symm
    exact lr (eF ok) (eF ok') (Sum.inr.inj e)
  | cnt q x kvs hc num hl hs st hg ed => subst hg; exact st.inj (by decide) h h'
  | wea q m h1 h2 hc hb hg ed => subst ed; exact hd.elim
  | pla q0 q1 q2 D j j0 j1 kvs al hc hb ha bD hl hs st hg ed =>
    subst ed
    have hd : al = none := hd
    subst hd hg
    exact st.inj j0 h h'
end Rs
namespace Rs
open PySem PySem.Spec PyProof.Rows L2
variable {K : W.Frag} {mg : Str → Option Value} {A : Adr}
theorem yp {k : Key} (h : okP k = true) : gj k = true := by
 cases k with
 | inl i => rfl
 | inr z => exact sq (Bool.and_eq_true_iff.mp h).1
theorem oO {ks : List Key} (h : ∀ k ∈ ks, okP k = true) : ks.all gj = true := List.all_eq_true.mpr fun k hk => yp (h k hk)
theorem uC {g : List Key → Option Key} (inj : ∀ k k' v, okT k = true → okT k' = true → g k = some v → g k' = some v → k = k') {ks : List (List Key)} (okk : ∀ k ∈ ks, okT k = true) {r : Option (List Key × List Key)} (hd : ∀ h, Ext g h → qX h ks r) : r = none := by
  cases r with
  | none => rfl
  | some r =>
    exfalso
    obtain ⟨a, b⟩ := r
    have all : ∀ h, Ext g h → a ∈ ks ∧ b ∈ ks ∧ a ≠ b ∧ h a = h b := fun h eh => by
      obtain ⟨j, k, _, h1, h2, h3, h4, _⟩ := hd h eh
      exact ⟨List.mem_of_getElem? h1, List.mem_of_getElem? h2, h3, h4⟩
    have ext : ∀ (f : List Key → Key), Ext g (fun k => (g k).getD (f k)) := fun f k v e => by show (g k).getD _ = v; rw [e]; rfl
    have d1 := all _ (ext fun k => if k = a then .inl 0 else if k = b then .inl 1 else .inl 3)
    have d2 := all _ (ext fun k => if k = a then .inl 2 else if k = b then .inl 4 else .inl 3)
    obtain ⟨ma, mb, ne, e1⟩ := d1
    obtain ⟨_, _, _, e2⟩ := d2
    rw [if_pos rfl, if_neg (Ne.symm ne), if_pos rfl] at e1 e2
    cases ga : g a with
    | none =>
      cases gb : g b with
      | none => rw [ga, gb] at e1; cases e1
      | some v =>
        rw [ga, gb] at e1 e2
        have e1 : (Sum.inl 0 : Key) = v := e1
        have e2 : (Sum.inl 2 : Key) = v := e2
        rw [← e1] at e2; cases e2
    | some u =>
      cases gb : g b with
      | none =>
        rw [ga, gb] at e1 e2
        have e1 : u = (Sum.inl 1 : Key) := e1
        have e2 : u = (Sum.inl 4 : Key) := e2
        rw [e1] at e2; cases e2
      | some v =>
        rw [ga, gb] at e1
        have e1 : u = v := e1
        subst e1
        exact ne (inj a b u (okk a ma) (okk b mb) ga gb)
theorem fB {H : Hp} : ∀ {ps rs : List Addr} {tt ss : List (List Key)}, PK H ps tt → PK H rs ss → PK H (ps ++ rs) (tt ++ ss)
 | _, _, _, _, .nil, h => h
 | _, _, _, _, .cons r t, h => .cons r (fB t h)
theorem Bd {H : Hp} {ps : List Addr} {tt : List (List Key)} (h : PK H ps tt) : ∀ k ∈ tt, okT k = true := by
  induction h with
  | nil => intro k hk; cases hk
  | cons r _ ih =>
    intro k hk
    rcases List.mem_cons.mp hk with rfl | hk
    · exact r.2
    · exact ih k hk
end Rs
namespace Rs
open PySem PySem.Spec PyProof.Rows L2
theorem nB {f c el : Nat} (h : el = 0 ∨ c ≤ el) : grF f c el = [] := by
 cases f with
 | zero => rfl
 | succ f => rw [grF, if_pos h]
theorem oG {f c el : Nat} (h : ¬ (el = 0 ∨ c ≤ el)) : grF (f + 1) c el = if el ≤ bg c then 0 :: grF f (bg c) el else 1 :: grF f (c - bg c) (el - bg c) := by rw [grF, if_neg h]
theorem nE : ∀ f c el, (grF f c el).length ≤ f
  | 0, _, _ => Nat.le_refl _
  | f + 1, c, el => by
    rw [grF]
    split
    · exact Nat.zero_le _
    · split
      · have := nE f (bg c) el; simp; omega
      · have := nE f (c - bg c) (el - bg c); simp; omega
theorem vS : ∀ (f c el : Nat), ∀ t ∈ grF f c el, t = 0 ∨ t = 1
  | 0, _, _, t, h => nomatch h
  | f + 1, c, el, t, h => by
    rw [grF] at h
    split at h
    · cases h
    · split at h
      · rcases List.mem_cons.mp h with rfl | h
        · exact .inl rfl
        · exact vS f _ _ t h
      · rcases List.mem_cons.mp h with rfl | h
        · exact .inr rfl
        · exact vS f _ _ t h
variable {K : W.Frag} {mg : Str → Option Value} {A : Adr}
theorem AH (K : W.Frag) (A : Adr) : Ln (mf K A) 2 := by rintro vs H Q E ⟨c, e, rfl, _⟩; rfl
theorem AX (T : Txt K mg A) : Rd (mf K A) (DL K A) ["count", "elder", "turns", "early", "rest", "ahead"] := by
 intro vs H Q E h
 obtain ⟨c, el, rfl, c1, ec, c2, q⟩ := h
 refine ⟨Nat.zero_le _, fun L hL => ?_⟩
 have q' := q L hL
 refine ⟨fun e σ H' => ∃ (acc : List Int) (d r : Nat) (x5 : Option V), σ = [some (.int (c : Int)), some (.int (el : Int)), some (.ref L), some (.int (d : Int)), some (.int (r : Int)), x5] ∧ H' = upd H L (.lst (acc.map V.int)) ∧ acc ++ grF e r d = aC c el ∧ d ≤ r ∧ r ≤ 2 ^ e ∧ acc.length + e = 60,
   ⟨60, [], el, c, none, rfl, rfl, by rw [List.nil_append], ec, c2, rfl⟩, ?_⟩
 rintro e σ H' ⟨acc, d, r, x5, rfl, rfl, ht, hd, hr, hl⟩
 have fin : (d = 0 ∨ r ≤ d) → Q (.ref L) (upd H L (.lst (acc.map V.int))) := fun h => by
   rw [nB h, List.append_nil] at ht
   rw [ht]; exact q'
 have lt : (acc.map V.int).length < sizeLine := by rw [List.length_map]; exact bj (by omega)
 have ap : ∀ t : Int, upd (upd H L (.lst (acc.map V.int))) L (.lst (acc.map V.int ++ [.int t])) = upd H L (.lst ((acc ++ [t]).map V.int)) := fun t => by rw [eN, List.map_append]; rfl
 refine Sel.dec (fun h0 => ?_) (fun h0 => ?_)
 · refine dm (Sel.dec (fun h1 => ?_) (fun h1 => ?_))
   · have h2 : 2 ≤ r := by omega
     have b1 := nA h2
     have b2 := mO h2
     cases e with
     | zero => simp at hr; omega
     | succ e =>
     have b3 := nN h2 hr
     have c60 : r ≤ 2 ^ 60 := Nat.le_trans hr (Nat.pow_le_pow_right (by decide) (by omega))
     rw [oG (by omega)] at ht
     refine ⟨fun σ H' => ∃ (acc : List Int) (d r : Nat) (x5 : Option V), σ = [some (.int (c : Int)), some (.int (el : Int)), some (.ref L), some (.int (d : Int)), some (.int (r : Int)), x5] ∧ H' = upd H L (.lst (acc.map V.int)) ∧ acc ++ grF e r d = aC c el ∧ d ≤ r ∧ r ≤ 2 ^ e ∧ acc.length + e = 60, fun σ' H' hh => ⟨e, by omega, hh⟩, ?_⟩
     refine ⟨r, rfl, h2, c60, Sel.dec (fun h => ?_) (fun h => ?_)⟩
     · rw [if_pos (by omega)] at ht
       refine ⟨.inl ⟨rfl, _, SqL.of ag⟩, L, _, _, rfl, rfl, ag, lt, ?_⟩
       exact ⟨acc ++ [0], d, bg r, _, rfl, ap 0, by rw [List.append_assoc]; exact ht, by omega, b3, by rw [List.length_append]; show _ + 1 + _ = _; omega⟩
     · rw [if_neg (by omega)] at ht
       refine ⟨.inl ⟨rfl, _, SqL.of ag⟩, L, _, _, rfl, rfl, ag, lt, ?_⟩
       refine ⟨acc ++ [1], d - bg r, r - bg r, some (.int ((bg r : Nat) : Int)), ?_, ap 1, by rw [List.append_assoc]; exact ht, by omega, by omega, by rw [List.length_append]; show _ + 1 + _ = _; omega⟩
       rw [Int.ofNat_sub (by omega), Int.ofNat_sub (by omega)]; rfl
   · exact fin (.inr (by omega))
 · exact fin (.inl (by omega))
theorem Az (K : W.Frag) (A : Adr) : Ln (mz K A) 2 := by rintro vs H Q E ⟨c, e, rfl, _⟩; rfl
theorem Cg (T : Txt K mg A) : Rd (mz K A) (Fg K A) ["_law_count", "_law_elder", "_law_steps_here", "_law_cut"] := by
 intro vs H Q E h
 obtain ⟨c0, el, rfl, c1, ec, c2, q⟩ := h
 refine ⟨by show 0 ≤ sizeLine; decide, fun D hD => ?_⟩
 have q' := q D hD
 refine ⟨⟨by decide, by decide, by decide⟩, ?_⟩
 refine ⟨fun e σ H2 => ∃ (r f c : Nat) (ts : List Int), σ = [some (.int (r : Int)), some (.int (f : Int)), some (.ref D), some (.int ((2 ^ c : Nat) : Int))] ∧ H2 = upd H D (.lst (ts.map V.int)) ∧
   f ≤ r ∧ r ≤ 2 ^ e ∧ r ≤ 2 ^ c ∧ e ≤ 60 ∧ ts.length + e = 60 ∧ ts ++ grF e r f = aC c0 el, ⟨60, c0, el, 60, [], rfl, rfl, ec, c2, c2, Nat.le_refl _, rfl, by rw [List.nil_append]⟩, ?_⟩
 rintro e σ H2 ⟨r, f, c, ts, rfl, rfl, hf, he, hc, h60, hl, hw⟩
 have fin : (f = 0 ∨ r ≤ f) → Q (.ref D) (upd H D (.lst (ts.map V.int))) := fun h => by
   rw [nB h, List.append_nil] at hw
   rw [hw]; exact q'
 refine Sel.dec (fun h0 => ?_) (fun h0 => fin (.inl (by omega)))
 refine dm (Sel.dec (fun h => ?_) (fun h => fin (.inr (by omega))))
 have h2 : 2 ≤ r := by omega
 cases e with
 | zero => simp at he; omega
 | succ e =>
 have b1 := nA h2
 have b2 := mO h2
 have b3 := nN h2 he
 obtain ⟨k, ek, hk⟩ := iB h2 hc
 rw [oG (by omega)] at hw
 refine ⟨fun σ' H' => ∃ (r f c : Nat) (ts : List Int), σ' = [some (.int (r : Int)), some (.int (f : Int)), some (.ref D), some (.int ((2 ^ c : Nat) : Int))] ∧ H' = upd H D (.lst (ts.map V.int)) ∧
   f ≤ r ∧ r ≤ 2 ^ e ∧ r ≤ 2 ^ c ∧ e ≤ 60 ∧ ts.length + e = 60 ∧ ts ++ grF e r f = aC c0 el, fun σ' H' w => ⟨e, by omega, w⟩, ?_⟩
 refine ⟨fun g σ' H' => ∃ d : Nat, σ' = [some (.int (r : Int)), some (.int (f : Int)), some (.ref D), some (.int ((2 ^ d : Nat) : Int))] ∧ H' = upd H D (.lst (ts.map V.int)) ∧ g = d ∧ k ≤ d, ⟨c, c, rfl, rfl, rfl, by omega⟩, ?_⟩
 rintro g σ' H' ⟨d, rfl, rfl, rfl, hd⟩
 refine EC (fun h => ?_) (fun h => ?_)
 · have h : (r : Int) ≤ ((2 ^ g : Nat) : Int) := h
   have hkd : k < g := by
     rcases Nat.lt_or_ge k g with h' | h'
     · exact h'
     · have : k = g := by omega
       subst this
       omega
   cases g with
   | zero => omega
   | succ g =>
   refine ⟨fun σ'' H'' => ∃ d : Nat, σ'' = [some (.int (r : Int)), some (.int (f : Int)), some (.ref D), some (.int ((2 ^ d : Nat) : Int))] ∧ H'' = upd H D (.lst (ts.map V.int)) ∧ g = d ∧ k ≤ d, fun _ _ w => ⟨g, by omega, w⟩, ?_⟩
   refine ⟨⟨by decide, by decide⟩, g, ?_, rfl, rfl, by omega⟩
   have hp2 : 2 ^ (g + 1) = 2 * 2 ^ g := by rw [Nat.pow_succ]; omega
   show [some (V.int r), some (V.int f), some (V.ref D), some (V.int (((2 ^ (g + 1) : Nat) : Int) / 2))] = _
   rw [show (((2 ^ (g + 1) : Nat) : Int) / 2) = ((2 ^ g : Nat) : Int) by omega]
 · have h : ¬ (r : Int) ≤ ((2 ^ g : Nat) : Int) := h
   have hgk : g = k := by
     rcases Nat.lt_or_ge k g with h' | h'
     · have : 2 ^ (k + 1) ≤ 2 ^ g := Nat.pow_le_pow_right (by decide) h'
       rw [Nat.pow_succ] at this
       omega
     · omega
   subst hgk
   rw [← ek] at h ⊢
   refine ⟨.inl ⟨rfl, _, SqL.of ag⟩, D, _, _, rfl, rfl, ag, by rw [List.length_map]; exact bj (by omega), ?_⟩
   refine Sel.dec (fun hlt => ?_) (fun hlt => ?_)
   · have hlt : ((bg r : Nat) : Int) < (f : Int) := hlt
     rw [if_neg (by omega)] at hw
     refine ⟨r - bg r, f - bg r, g, ts ++ [1], ?_, ?_, by omega, by omega, by omega, by omega, by rw [List.length_append]; simp; omega, by rw [List.append_assoc]; exact hw⟩
     · rw [← ek]
       show [some (V.int ((r : Int) - (bg r : Int))), some (V.int ((f : Int) - (bg r : Int))), some (V.ref D), some (V.int (bg r))] = _
       rw [show ((f : Int) - (bg r : Int)) = ((f - bg r : Nat) : Int) by omega, show ((r : Int) - (bg r : Int)) = ((r - bg r : Nat) : Int) by omega]
     · rw [eN, List.map_append, decide_eq_true hlt]; rfl
   · have hlt : ¬ ((bg r : Nat) : Int) < (f : Int) := hlt
     rw [if_pos (by omega)] at hw
     refine ⟨bg r, f, g, ts ++ [0], by rw [ek]; rfl, ?_, by omega, b3, by omega, by omega, by rw [List.length_append]; simp; omega, by rw [List.append_assoc]; exact hw⟩
     · rw [eN, List.map_append, decide_eq_false hlt]; rfl
theorem zr (K : W.Frag) (A : Adr) : Ln (lX K A) 2 := by rintro vs H Q E ⟨i, j, rfl, _⟩; rfl
theorem Du (T : Txt K mg A) : Rd (lX K A) (EN K A) ["count", "elder"] := by
 intro vs H Q E h
 obtain ⟨c, p, rfl, h0, h1, h2, q⟩ := h
 refine ⟨c, rfl, by omega, h2, Sel.t ⟨_, _, rfl, .int p, Sel.t (Sel.yes (decide_eq_true h0) ?_)⟩⟩
 show Q (.bl (decide (p ≤ c))) H
 rw [decide_eq_true h1]; exact q
theorem Bk (K : W.Frag) (A : Adr) : Ln (qh K A) 2 := by rintro vs H Q E ⟨z, c, rfl, _⟩; rfl
theorem ES (T : Txt K mg A) : Rd (qh K A) (T_9 K A) ["_law_cell", "_law_count"] := by
 intro vs H Q E h
 obtain ⟨z, c, rfl, q⟩ := h
 refine ⟨by decide, Sel.dec (fun h => ?_) (fun h => ?_)⟩
 · refine ⟨ax (show 2 ≤ 1000000 by decide), fun p hp => ⟨⟨by decide, by decide⟩, by decide, ?_⟩⟩
   have e : z / 4 % 2 = 0 ∨ z / 4 % 2 = 1 := by omega
   rcases e with e | e
   · rw [e]; exact ixL (j := 0) ag rfl rfl (q 0 _ (ao.upd hp) (Nat.zero_le _))
   · rw [e]; exact ixL (j := 1) ag rfl rfl (q c _ (ao.upd hp) (Nat.le_refl _))
 · refine ⟨⟨by decide, by decide⟩, by omega, ?_⟩
   have r0 := Int.emod_nonneg (z / 4) (b := (c : Int) + 1) (by omega)
   have r1 := Int.emod_lt_of_pos (z / 4) (b := (c : Int) + 1) (by omega)
   obtain ⟨el, he⟩ := Int.eq_ofNat_of_zero_le r0
   rw [he]
   exact q el H (.refl H) (by omega)
theorem gE : okT [.inr "void"] = true := jN okW.1 (fun _ h => nomatch h) (by decide)
theorem gg {c : Nat} {y : Key} (hc : c < 2 ^ 60) (hy : okP y = true) : okT [.inr "row", .inl (c : Int), y] = true := jN okW.2.2.2 (fun z hz => by
 rcases List.mem_cons.mp hz with rfl | hz
 · exact okC hc
 · rw [List.mem_singleton.mp hz]; exact hy) (show 2 ≤ 7 by decide)
theorem yS (K : W.Frag) (A : Adr) : Ln (jW K A) 1 := by rintro vs H Q E ⟨f, b, d, g, n, rfl, _⟩; rfl
theorem Bl (T : Txt K mg A) : Rd (jW K A) (DS K A) ["stamper"] := by
 intro vs H Q E h
 obtain ⟨f, b, d, g, n, rfl, s, hn, q⟩ := h
 refine ⟨ax (show 1 ≤ 1000000 by decide), fun p1 hp1 => ?_⟩
 have S1 : ao H (upd H p1 (.tup [.str "void"])) := ao.upd hp1
 have s1 := s.same (Nat.le_refl _) S1
 have hp11 : upd H p1 (.tup [.str "void"]) p1 = some (.tup (([.inr "void"] : List Key).map kV)) := ag
 generalize upd H p1 (.tup [.str "void"]) = H1 at S1 s1 hp11
 refine ⟨f, rfl, s1.clo, ax (show 1 ≤ 1000000 by decide), fun p0 hp0 => ?_⟩
 have S2 : ao H1 (upd H1 p0 (.tup [.str "void"])) := ao.upd hp0
 have s2 := s1.same (Nat.le_refl _) S2
 have hk2 : upd H1 p0 (.tup [.str "void"]) p0 = some (.tup (([.inr "void"] : List Key).map kV)) := ag
 generalize upd H1 p0 (.tup [.str "void"]) = H2 at S2 s2 hk2
 dsimp only [af]
 refine cF s2 (by omega) hk2 gE fun w H3 g3 kb s3 sub3 gv st => ⟨ax (show 3 ≤ 1000000 by decide), fun p2 hp2 => ⟨ax (show 2 ≤ 1000000 by decide), fun L hL => ?_⟩⟩
 have S4 : ao H3 (upd (upd H3 p2 (.tup [.str "row", .int 0, kV w])) L (.lst [.ref p1, .ref p2])) := (ao.upd hp2).trans (ao.upd hL)
 have okv := dW st (by rw [sz1, szW.1]; decide)
 refine q L [p1, p2] w g3 _ (((aB.same S1).trans (aB.same S2)).trans (kb.trans (aB.same S4))) (s3.same (Nat.le_refl _) S4) sub3 gv okv (Nat.le_trans (iP st) (by rw [sz1, szW.1]; decide)) ag (.cons ⟨?_, gE⟩ (.cons ⟨?_, gg (c := 0) (by decide) okv⟩ .nil))
 · exact S4 _ _ (kb.obj s2.bb (S2 _ _ hp11) (fun _ z => nomatch z))
 · rw [ak (Ne.symm (cG hL).1)]; exact ag
end Rs
namespace Rs
open PySem PySem.Spec PyProof.Rows L2
theorem dy {ts : List Int} {ds : List Key} (h : ds.length = ts.length + 1) : (stR ts ds).length = ts.length := by unfold stR; simp [List.length_zip, h]
theorem jp {ts : List Int} {ds : List Key} (h : ds.length = ts.length + 1) {i : Nat} (hi : i < ts.length) : ∃ t k, ts[ts.length - 1 - i]? = some t ∧ ds[ts.length - 1 - i]? = some k ∧ (stR ts ds)[i]? = some (t, k) := by
 refine ⟨ts[ts.length - 1 - i]'(by omega), ds[ts.length - 1 - i]'(by omega), List.getElem?_eq_getElem (by omega), List.getElem?_eq_getElem (by omega), ?_⟩
 unfold stR
 rw [List.getElem?_reverse (by rw [List.length_zip]; omega)]
 have e : (ts.zip ds).length - 1 - i = ts.length - 1 - i := by rw [List.length_zip]; omega
 rw [e, List.getElem?_eq_getElem (by rw [List.length_zip]; omega), List.getElem_zip]
theorem wX {ts : List Int} {ks ds : List Key} (h : dl ts 0 ks.length ks = ds.map some) : bx ts ks = ds := by
 unfold bx; rw [h, List.map_map]
 have : ((fun x : Option Key => x.getD (.inl 0)) ∘ some) = id := rfl
 rw [this, List.map_id]
structure Dg (ts : List Int) (ks acc : List Key) (i lo hi : Nat) : Prop where
 al : acc.length = i
 hl : hi ≤ ks.length
 w : hi = lo + (ts.length - i) + 1
 eq : acc.map some ++ dl (ts.drop i) lo hi ks = dl ts 0 ks.length ks
theorem Dg.start {ts : List Int} {ks : List Key} (h : ks.length = ts.length + 1) : Dg ts ks [] 0 0 ks.length := ⟨rfl, Nat.le_refl _, by omega, by rw [List.drop_zero]; rfl⟩
theorem Dg.one {ts : List Int} {ks acc : List Key} {i lo hi : Nat} {k : Key} (d : Dg ts ks acc i lo hi) (ht : ts[i]? = some 1) (hk : ks[lo]? = some k) : Dg ts ks (acc ++ [k]) (i + 1) (lo + 1) hi := by
 have hi' := (List.getElem?_eq_some_iff.mp ht).1
 have e : ts.drop i = 1 :: ts.drop (i + 1) := by rw [List.drop_eq_getElem_cons hi', (List.getElem?_eq_some_iff.mp ht).2]
 refine ⟨by rw [List.length_append, d.al]; rfl, d.hl, by have := d.w; omega, ?_⟩
 rw [← d.eq, e, dl, if_pos rfl, hk, List.map_append, List.append_assoc]; rfl
theorem Dg.nul {ts : List Int} {ks acc : List Key} {i lo hi : Nat} {k : Key} {t : Int} (d : Dg ts ks acc i lo hi) (ht : ts[i]? = some t) (t1 : t ≠ 1) (hk : ks[hi - 1]? = some k) : Dg ts ks (acc ++ [k]) (i + 1) lo (hi - 1) := by
 have hi' := (List.getElem?_eq_some_iff.mp ht).1
 have e : ts.drop i = t :: ts.drop (i + 1) := by rw [List.drop_eq_getElem_cons hi', (List.getElem?_eq_some_iff.mp ht).2]
 refine ⟨by rw [List.length_append, d.al]; rfl, by have := d.hl; omega, by have := d.w; omega, ?_⟩
 rw [← d.eq, e, dl, if_neg t1, hk, List.map_append, List.append_assoc]; rfl
theorem Dg.done {ts : List Int} {ks acc : List Key} {i lo hi : Nat} {k : Key} (d : Dg ts ks acc i lo hi) (hi' : i = ts.length) (hk : ks[lo]? = some k) : bx ts ks = acc ++ [k] := by
 subst hi'
 refine wX ?_
 rw [← d.eq, List.drop_length, dl, hk, List.map_append]; rfl
theorem Dg.lo {ts : List Int} {ks acc : List Key} {i lo hi : Nat} (d : Dg ts ks acc i lo hi) (h : ks.length = ts.length + 1) (hi' : i ≤ ts.length) : lo < ks.length ∧ 1 ≤ hi ∧ hi - 1 < ks.length := by
 have := d.hl; have := d.w; omega
variable {K : W.Frag} {mg : Str → Option Value} {A : Adr}
theorem CA (K : W.Frag) (A : Adr) : Ln (qR K A) 2 := by rintro vs H Q E ⟨L, P, ts, ks, rfl, _⟩; rfl
theorem EF (T : Txt K mg A) : Rd (qR K A) (T_8 K A) ["_law_steps_here", "_law_marks", "_law_dealt_here", "_law_low", "_law_high", "_law_step"] := by
 intro vs H Q E h
 obtain ⟨L, P, ts, ks, rfl, hL, hP, kl, tl, t01, q⟩ := h
 refine ⟨Nat.zero_le _, fun D hD => ?_⟩
 have S1 : ao H (upd H D (.lst [])) := ao.upd hD
 have hD1 : upd H D (.lst []) D = some (.lst (([] : List Key).map kV)) := ag
 generalize upd H D (.lst []) = H1 at S1 hD1
 refine .inl (.inr (.inl ⟨_, SqT.of (S1 _ _ hP), ?_⟩))
 rw [List.length_map]
 refine ⟨L, rfl, .inl ⟨⟨_, SqL.of (S1 _ _ hL)⟩, ?_⟩⟩
 refine fy (xs := ts.map V.int) (fun i σ H' => ∃ (acc : List Key) (lo hi : Nat) (x5 : Option V), σ = [some (.ref L), some (.ref P), some (.ref D), some (.int (lo : Int)), some (.int (hi : Int)), x5] ∧ ao H H' ∧ H' D = some (.lst (acc.map kV)) ∧ Dg ts ks acc i lo hi)
   ⟨[], 0, ks.length, none, rfl, S1, hD1, Dg.start kl⟩ ?_ ?_ ?_
 · rintro i σ H' _ ⟨_, _, _, _, _, S, _⟩; exact SqL.of (S _ _ hL)
 · rintro i x σ H' hx ⟨acc, lo, hi, x5, rfl, S, hD', d⟩
   obtain ⟨t, ht, rfl⟩ := dS hx
   have hi' := (List.getElem?_eq_some_iff.mp ht).1
   obtain ⟨b1, b2, b3⟩ := d.lo kl (by omega)
   have lt : (acc.map kV).length < sizeLine := by rw [List.length_map, d.al]; exact bj (by omega)
   have ap : ∀ k : Key, upd H' D (.lst (acc.map kV ++ [kV k])) D = some (.lst ((acc ++ [k]).map kV)) := fun k => by rw [ag, List.map_append]; rfl
   have Sx : ∀ o, ao H (upd H' D o) := fun o z u ez => by rw [ak (ar ez hD)]; exact S _ _ ez
   refine Sel.dec (fun h => ?_) (fun h => ?_)
   · have h : t = 1 := h
     subst h
     obtain ⟨k, hk⟩ : ∃ k, ks[lo]? = some k := ⟨_, List.getElem?_eq_getElem b1⟩
     refine ⟨.inl ⟨rfl, _, SqL.of hD'⟩, ixT (j := lo) (S _ _ hP) rfl (by rw [List.getElem?_map, hk]; rfl) ⟨D, _, _, rfl, rfl, hD', lt, ?_⟩⟩
     exact ⟨acc ++ [k], lo + 1, hi, _, rfl, Sx _, ap k, d.one ht hk⟩
   · have h : ¬ t = 1 := h
     obtain ⟨k, hk⟩ : ∃ k, ks[hi - 1]? = some k := ⟨_, List.getElem?_eq_getElem b3⟩
     refine ⟨.inl ⟨rfl, _, SqL.of hD'⟩, ixT (j := hi - 1) (S _ _ hP) (by omega) (by rw [List.getElem?_map, hk]; rfl) ⟨D, _, _, rfl, rfl, hD', lt, ?_⟩⟩
     refine ⟨acc ++ [k], lo, hi - 1, some (.int t), ?_, Sx _, ap k, d.nul ht h hk⟩
     rw [Int.ofNat_sub (by omega)]; rfl
 · rintro σ H' ⟨acc, lo, hi, x5, rfl, S, hD', d⟩
   rw [List.length_map] at d
   obtain ⟨b1, b2, b3⟩ := d.lo kl (by omega)
   obtain ⟨k, hk⟩ : ∃ k, ks[lo]? = some k := ⟨_, List.getElem?_eq_getElem b1⟩
   refine ixT (j := lo) (S _ _ hP) rfl (by rw [List.getElem?_map, hk]; rfl) ⟨ax (show 1 ≤ 1000000 by decide), fun N hN => ?_⟩
   refine .inl ⟨D, N, _, _, rfl, rfl, ao.upd hN _ _ hD', ag, by rw [List.length_map, d.al]; exact Nat.le_of_lt (ax (by simp; omega)), fun M hM => ?_⟩
   refine q M _ (S.trans ((ao.upd hN).trans (ao.upd hM))) ?_ ?_
   · have h1 := (cG hM).2
     cases z : H M with
     | none => rfl
     | some o => rw [S _ _ z] at h1; cases h1
   · rw [ag, d.done rfl hk, List.map_append]; rfl
theorem Fk {K : W.Frag} {H : Hp} {Q : VK} {a : Addr} {xs : List V} {x : V} {i : Nat} (ha : H a = some (.lst xs)) (hi : i + 1 < xs.length) (hx : xs[xs.length - 2 - i]? = some x) (q : Q x H) : aA K (.ref a) (.int (-2 - (i : Int))) H Q := by
 rw [show (-2 - (i : Int)) = -1 - ((i + 1 : Nat) : Int) by omega]
 exact ixB (i := i + 1) ha hi (by rw [show xs.length - 1 - (i + 1) = xs.length - 2 - i by omega]; exact hx) q
theorem yJ (K : W.Frag) (A : Adr) : Ln (iO K A) 5 := by rintro vs H Q E ⟨c, k, L, M, ts, ds, v, rfl, _⟩; rfl
theorem Ck (T : Txt K mg A) : Rd (iO K A) (Er K A) ["_law_count", "_law_steps_here", "_law_dealt_here", "_law_height", "_law_top"] := by
 intro vs H Q E h
 obtain ⟨c, k, L, M, ts, ds, v, rfl, hL, hM, dlen, kt, t01, q⟩ := h
 refine .inl (.inl ⟨_, SqL.of hL, ?_⟩)
 rw [List.length_map]
 refine Sel.dec (fun h => ?_) (fun h => ?_)
 · have h : (k : Int) = (ts.length : Int) := h
   have e0 : (stR ts ds)[k]? = none := List.getElem?_eq_none (by rw [dy dlen]; omega)
   have en : be c (stR ts ds) k v = [.inr "row", .inl (c : Int), v] := by unfold be; rw [e0]
   rw [en] at q
   exact ⟨ax (show 3 ≤ 1000000 by decide), q⟩
 · have h : ¬ (k : Int) = (ts.length : Int) := h
   obtain ⟨tn, m, h1, h2, h3⟩ := jp dlen (i := k) (by omega)
   have en : be c (stR ts ds) k v = jtT tn v m := by unfold be; rw [h3]
   rw [en] at q
   have ix : ∀ {R : VK}, R (kV m) H → aA K (.ref M) (.int (-2 - (k : Int))) H R := fun r => Fk (i := k) hM (by rw [List.length_map]; omega) (by rw [List.length_map, List.getElem?_map, show ds.length - 2 - k = ts.length - 1 - k by omega, h2]; rfl) r
   refine ixB (i := k) hL (by rw [List.length_map]; omega) (x := .int tn) (by rw [List.length_map, List.getElem?_map, h1]; rfl) ?_
   refine Sel.dec (fun h5 => ?_) (fun h5 => ?_)
   · have h5 : tn = 1 := h5
     unfold jtT at q
     rw [if_neg (by omega)] at q
     exact ix ⟨ax (show 3 ≤ 1000000 by decide), q⟩
   · have h5 : ¬ tn = 1 := h5
     have t0 : tn = 0 := (t01 tn (List.mem_of_getElem? h1)).resolve_right h5
     unfold jtT at q
     rw [if_pos t0] at q
     exact ix ⟨ax (show 3 ≤ 1000000 by decide), q⟩
theorem AK (K : W.Frag) (A : Adr) : Ln (lY K A) 2 := by rintro vs H Q E ⟨L, P, ts, ks, rfl, _⟩; rfl
theorem CN (T : Txt K mg A) : Rd (lY K A) (EA K A) ["turns", "marks", "steps", "first", "last", "turn"] := by
 intro vs H Q E h
 obtain ⟨L, P, ts, ks, rfl, hL, hP, kl, tl, t01, q⟩ := h
 refine ⟨Nat.zero_le _, fun D hD => ?_⟩
 have S1 : ao H (upd H D (.lst [])) := ao.upd hD
 have hD1 : upd H D (.lst []) D = some (.lst (([] : List Addr).map V.ref)) := ag
 generalize upd H D (.lst []) = H1 at S1 hD1
 refine .inl (.inr (.inl ⟨_, SqT.of (S1 _ _ hP), ?_⟩))
 rw [List.length_map]
 refine ⟨L, rfl, .inl ⟨⟨_, SqL.of (S1 _ _ hL)⟩, ?_⟩⟩
 refine fy (xs := ts.map V.int) (fun i σ H' => ∃ (acc : List Key) (ps : List Addr) (lo hi : Nat) (x5 : Option V), σ = [some (.ref L), some (.ref P), some (.ref D), some (.int (lo : Int)), some (.int ((hi : Int) - 1)), x5] ∧ ao H H' ∧ H' D = some (.lst (ps.map V.ref)) ∧ ps.length = i ∧ Dg ts ks acc i lo hi ∧ ∀ (j : Nat) (p : Addr) (t : Int) (k : Key), ps[j]? = some p → ts[j]? = some t → acc[j]? = some k → H' p = some (.tup [.int t, kV k]))
   ⟨[], [], 0, ks.length, none, rfl, S1, hD1, rfl, Dg.start kl, fun j p t k h => nomatch h⟩ ?_ ?_ ?_
 · rintro i σ H' _ ⟨_, _, _, _, _, _, S, _⟩; exact SqL.of (S _ _ hL)
 · rintro i x σ H' hx ⟨acc, ps, lo, hi, x5, rfl, S, hD', pl, d, hp⟩
   obtain ⟨t, ht, rfl⟩ := dS hx
   have hi' := (List.getElem?_eq_some_iff.mp ht).1
   obtain ⟨b1, b2, b3⟩ := d.lo kl (by omega)
   have lt : (ps.map V.ref).length < sizeLine := by rw [List.length_map, pl]; exact bj (by omega)
   have al := d.al
   have nx : ∀ (k : Key) (p7 : Addr), H' p7 = none → ∀ (lo' hi' : Nat), Dg ts ks (acc ++ [k]) (i + 1) lo' hi' → ao H (upd (upd H' p7 (.tup [.int t, kV k])) D (.lst (ps.map V.ref ++ [.ref p7]))) ∧ upd (upd H' p7 (.tup [.int t, kV k])) D (.lst (ps.map V.ref ++ [.ref p7])) D = some (.lst ((ps ++ [p7]).map V.ref)) ∧ (ps ++ [p7]).length = i + 1 ∧ ∀ (j : Nat) (p : Addr) (t' : Int) (k' : Key), (ps ++ [p7])[j]? = some p → ts[j]? = some t' → (acc ++ [k])[j]? = some k' → upd (upd H' p7 (.tup [.int t, kV k])) D (.lst (ps.map V.ref ++ [.ref p7])) p = some (.tup [.int t', kV k']) := by
     intro k p7 hp7 lo' hi' d'
     have Dn : p7 ≠ D := Ne.symm (ar hD' hp7)
     refine ⟨fun z u ez => ?_, by rw [ag, List.map_append]; rfl, by rw [List.length_append, pl]; rfl, fun j p t' k' h1 h2 h3 => ?_⟩
     · rw [ak (ar ez hD)]; exact ao.upd hp7 _ _ (S _ _ ez)
     · rcases Nat.lt_trichotomy j i with hj | hj | hj
       · rw [List.getElem?_append_left (by omega)] at h1 h3
         have := hp j p t' k' h1 h2 h3
         rw [ak (bE this hD' (fun z => nomatch z))]
         rw [ak (ar this hp7)]; exact this
       · subst hj
         rw [List.getElem?_append_right (by omega), pl, Nat.sub_self] at h1
         rw [List.getElem?_append_right (by omega), al, Nat.sub_self] at h3
         cases h1; cases h3
         rw [ht] at h2; cases h2
         rw [ak Dn]; exact ag
       · rw [List.getElem?_eq_none (by rw [List.length_append, pl]; show i + 1 ≤ j; omega)] at h1; cases h1
   refine Sel.dec (fun h => ?_) (fun h => ?_)
   · have h : t = 0 := h
     obtain ⟨k, hk⟩ : ∃ k, ks[hi - 1]? = some k := ⟨_, List.getElem?_eq_getElem b3⟩
     refine ⟨.inl ⟨rfl, _, SqL.of hD'⟩, ixT (j := hi - 1) (S _ _ hP) (by omega) (by rw [List.getElem?_map, hk]; rfl) ⟨ax (show 2 ≤ 1000000 by decide), fun p7 hp7 => ⟨D, _, _, rfl, rfl, ao.upd hp7 _ _ hD', lt, ?_⟩⟩⟩
     have d' := d.nul ht (by omega) hk
     obtain ⟨a1, a2, a3, a4⟩ := nx k p7 hp7 lo (hi - 1) d'
     refine ⟨acc ++ [k], ps ++ [p7], lo, hi - 1, some (.int t), ?_, a1, a2, a3, d', a4⟩
     rw [Int.ofNat_sub (by omega)]; rfl
   · have h : ¬ t = 0 := h
     have t1 : t = 1 := (t01 t (List.mem_of_getElem? ht)).resolve_left h
     obtain ⟨k, hk⟩ : ∃ k, ks[lo]? = some k := ⟨_, List.getElem?_eq_getElem b1⟩
     refine ⟨.inl ⟨rfl, _, SqL.of hD'⟩, ixT (j := lo) (S _ _ hP) rfl (by rw [List.getElem?_map, hk]; rfl) ⟨ax (show 2 ≤ 1000000 by decide), fun p7 hp7 => ⟨D, _, _, rfl, rfl, ao.upd hp7 _ _ hD', lt, ?_⟩⟩⟩
     have d' := d.one (t1 ▸ ht) hk
     obtain ⟨a1, a2, a3, a4⟩ := nx k p7 hp7 (lo + 1) hi d'
     exact ⟨acc ++ [k], ps ++ [p7], lo + 1, hi, _, rfl, a1, a2, a3, d', a4⟩
 · rintro σ H' ⟨acc, ps, lo, hi, x5, rfl, S, hD', pl, d, hp⟩
   rw [List.length_map] at d pl
   obtain ⟨b1, b2, b3⟩ := d.lo kl (by omega)
   obtain ⟨k, hk⟩ : ∃ k, ks[lo]? = some k := ⟨_, List.getElem?_eq_getElem b1⟩
   have ed := d.done rfl hk
   have al := d.al
   have em : inM ts ks = k := by
     unfold inM; rw [ed, List.getElem?_append_right (by omega), al, Nat.sub_self]; rfl
   have dlen : (bx ts ks).length = ts.length + 1 := by rw [ed, List.length_append, al]; rfl
   refine ixT (j := lo) (S _ _ hP) rfl (by rw [List.getElem?_map, hk]; rfl) ⟨D, _, rfl, SqL.of hD', fun Z hZ => ⟨ax (show 2 ≤ 1000000 by decide), fun R hR => ?_⟩⟩
   have S2 := (ao.upd (o := .lst (ps.map V.ref).reverse) hZ).trans (ao.upd (o := .tup [kV k, .ref Z]) hR)
   refine q R Z ps.reverse _ (S.trans S2) (by rw [ag, em]) (by rw [ao.upd hR _ _ ag, List.map_reverse]) (by rw [List.length_reverse, pl]) fun j p x h1 h2 => ?_
   have hj : j < ts.length := by
     have := (List.getElem?_eq_some_iff.mp h1).1
     rw [List.length_reverse, pl] at this; exact this
   obtain ⟨tn, m, g1, g2, g3⟩ := jp dlen hj
   have h2 : (stR ts (bx ts ks))[j]? = some x := h2
   rw [g3] at h2
   cases h2
   rw [List.getElem?_reverse (by omega), pl] at h1
   rw [ed, List.getElem?_append_left (by omega)] at g2
   exact S2 _ _ (hp _ _ _ _ h1 g1 g2)
end Rs
namespace Rs
open PySem PySem.Spec PyProof.Rows L2
def Ac (h : List Key → Key) (c : Int) (m : Key) (st : List (Int × Key)) : Nat → Key
 | 0 => m
 | i + 1 => h (cB h c m st i)
theorem jg (h : List Key → Key) (c : Int) (m : Key) (st : List (Int × Key)) (i : Nat) : cB h c m st i = be c st i (Ac h c m st i) := by cases i <;> rfl
theorem fb (h : List Key → Key) (c : Int) (m : Key) (st : List (Int × Key)) (k : Nat) : cY h c m st (k + 1) = cY h c m st k ++ [cB h c m st k] := by
 unfold cY; rw [List.range_succ, List.map_append]; rfl
variable {K : W.Frag} {mg : Str → Option Value} {A : Adr}
structure Gy (A : Adr) (H H' : Hp) (f b Y O : Addr) (d : Kd) (c : Nat) (m : Key) (st : List (Int × Key)) (iy io : Nat) (g g' : List Key → Option Key) (n : Nat) (py po : List Addr) (ty to : List (List Key)) (v u : Key) : Prop where
 kb : aB b H H'
 s : Stp A H' f b d g' (n + iy + io)
 sub : Sub g g'
 nY : H Y = none
 nO : H O = none
 yo : Y ≠ O
 hY : H' Y = some (.lst (py.map V.ref))
 hO : H' O = some (.lst (po.map V.ref))
 ky : PK H' py ty
 ko : PK H' po to
 ly : ty.length = iy
 lo : to.length ≤ io
 ov : okP v = true
 sv : szK v ≤ 200 * iy + 100
 ou : okP u = true
 su : szK u ≤ 200 * io + 100
 sy : ∀ k ∈ ty, szT k ≤ 20000
 so : ∀ k ∈ to, szT k ≤ 20000
 eq : ∀ h, Ext g' h → ty = cY h c m st iy ∧ v = Ac h c m st iy ∧ to = (dX h m st io).1 ∧ u = (dX h m st io).2
section
variable {H H' : Hp} {f b Y O : Addr} {d : Kd} {c : Nat} {m : Key} {st : List (Int × Key)} {iy io : Nat} {g g' : List Key → Option Key} {n : Nat} {py po : List Addr} {ty to : List (List Key)} {v u : Key} {R : VK}
theorem Gy.nb (l : Gy A H H' f b Y O d c m st iy io g g' n py po ty to v u) : Y ≠ b ∧ O ≠ b := ⟨l.s.nb l.hY (fun _ z => nomatch z) (fun _ z => nomatch z), l.s.nb l.hO (fun _ z => nomatch z) (fun _ z => nomatch z)⟩
theorem Gy.young (l : Gy A H H' f b Y O d c m st iy io g g' n py po ty to v u) (hc : c < 2 ^ 60) (hm : ∀ x ∈ st, enK x.2) (i60 : iy ≤ 60) (o60 : io ≤ 60) (hn : n ≤ 40000) {p7 : Addr} (hp7 : H' p7 = none)
   (q : ∀ (v' : Key) (H8 : Hp) (g8 : List Key → Option Key), (∀ z o, z ≠ b → z ≠ Y → H' z = some o → H8 z = some o) → Gy A H H8 f b Y O d c m st (iy + 1) io g g8 n (py ++ [p7]) po (ty ++ [be c st iy v]) to v' u → R (kV v') H8) :
   mw (cz K A) f [.ref p7] (upd (upd H' p7 (.tup ((be c st iy v).map kV))) Y (.lst (py.map V.ref ++ [.ref p7]))) R E0 := by
 obtain ⟨nYb, nOb⟩ := l.nb
 have Y7 : p7 ≠ Y := Ne.symm (ar l.hY hp7)
 have hY7 : upd H' p7 (.tup ((be c st iy v).map kV)) Y = some (.lst (py.map V.ref)) := ao.upd hp7 _ _ l.hY
 have kx : ∀ z o, z ≠ Y → H' z = some o → upd (upd H' p7 (.tup ((be c st iy v).map kV))) Y (.lst (py.map V.ref ++ [.ref p7])) z = some o := fun z o nz ez => by rw [ak nz]; exact ao.upd hp7 _ _ ez
 have s7 : Stp A (upd (upd H' p7 (.tup ((be c st iy v).map kV))) Y (.lst (py.map V.ref ++ [.ref p7]))) f b d g' (n + iy + io) := (l.s.same (Nat.le_refl _) (ao.upd hp7)).setL hY7
 obtain ⟨ok7, sz7⟩ := rW (i := iy) (B := 200 * iy + 38) hc hm l.ov (by have := l.sv; omega)
 have hp77 : upd (upd H' p7 (.tup ((be c st iy v).map kV))) Y (.lst (py.map V.ref ++ [.ref p7])) p7 = some (.tup ((be c st iy v).map kV)) := by rw [ak Y7]; exact ag
 have hYY : upd (upd H' p7 (.tup ((be c st iy v).map kV))) Y (.lst (py.map V.ref ++ [.ref p7])) Y = some (.lst ((py ++ [p7]).map V.ref)) := by rw [ag, List.map_append]; rfl
 have kt : ∀ x xs, H' x = some (.tup xs) → upd (upd H' p7 (.tup ((be c st iy v).map kV))) Y (.lst (py.map V.ref ++ [.ref p7])) x = some (.tup xs) := fun x xs ex => kx _ _ (bE ex l.hY (fun z => nomatch z)) ex
 have hO7 := kx _ _ (Ne.symm l.yo) l.hO
 have kb7 : aB b H (upd (upd H' p7 (.tup ((be c st iy v).map kV))) Y (.lst (py.map V.ref ++ [.ref p7]))) := fun z o nz ez => kx _ _ (ar ez l.nY) (l.kb _ _ nz ez)
 generalize upd (upd H' p7 (.tup ((be c st iy v).map kV))) Y (.lst (py.map V.ref ++ [.ref p7])) = H7 at kx s7 hp77 hYY kt hO7 kb7
 refine cF s7 (by omega) hp77 ok7 fun v' H8 g8 kb8 s8 sub8 gv st8 => ?_
 have sv := iP st8
 refine q v' H8 g8 (fun z o nz ny ez => kb8 _ _ nz (kx _ _ ny ez)) ⟨kb7.trans kb8, s8.same (by omega) (.refl _), l.sub.trans sub8, l.nY, l.nO, l.yo, kb8 _ _ nYb hYY, kb8 _ _ nOb hO7, cX ((l.ky.keep kt).keep (aB.tup s7 kb8)) ⟨kb8.obj s7.bb hp77 (fun _ z => nomatch z), ok7⟩, (l.ko.keep kt).keep (aB.tup s7 kb8), by rw [List.length_append, l.ly]; rfl, l.lo, dW st8 (by omega), by omega, l.ou, l.su, fun k hk => ?_, l.so, fun h eh => ?_⟩
 · rcases List.mem_append.mp hk with h | h
   · exact l.sy k h
   · rw [List.mem_singleton.mp h]; omega
 · obtain ⟨e1, e2, e3, e4⟩ := l.eq h (Ext.of sub8 eh)
   have e5 : be c st iy v = cB h c m st iy := by rw [jg, e2]
   refine ⟨by rw [fb, ← e1, e5], ?_, e3, e4⟩
   show v' = h (cB h c m st iy)
   rw [← e5, eh _ _ gv]
theorem Gy.old (l : Gy A H H' f b Y O d c m st iy io g g' n py po ty to v u) (hm : ∀ x ∈ st, enK x.2) (i60 : iy ≤ 61) (o60 : io ≤ 60) (hn : n ≤ 40000) {x : Int × Key} (hx : st[io]? = some x) (x1 : x.1 = 1) {p7 : Addr} (hp7 : H' p7 = none)
   (q : ∀ (u' : Key) (H8 : Hp) (g8 : List Key → Option Key), (∀ z o, z ≠ b → z ≠ O → H' z = some o → H8 z = some o) → Gy A H H8 f b Y O d c m st iy (io + 1) g g8 n py (po ++ [p7]) ty (to ++ [jtT x.1 u x.2]) v u' → R (kV u') H8) :
   mw (cz K A) f [.ref p7] (upd (upd H' p7 (.tup ((jtT x.1 u x.2).map kV))) O (.lst (po.map V.ref ++ [.ref p7]))) R E0 := by
 obtain ⟨nYb, nOb⟩ := l.nb
 have O7 : p7 ≠ O := Ne.symm (ar l.hO hp7)
 have hO7 : upd H' p7 (.tup ((jtT x.1 u x.2).map kV)) O = some (.lst (po.map V.ref)) := ao.upd hp7 _ _ l.hO
 have kx : ∀ z o, z ≠ O → H' z = some o → upd (upd H' p7 (.tup ((jtT x.1 u x.2).map kV))) O (.lst (po.map V.ref ++ [.ref p7])) z = some o := fun z o nz ez => by rw [ak nz]; exact ao.upd hp7 _ _ ez
 have s7 : Stp A (upd (upd H' p7 (.tup ((jtT x.1 u x.2).map kV))) O (.lst (po.map V.ref ++ [.ref p7]))) f b d g' (n + iy + io) := (l.s.same (Nat.le_refl _) (ao.upd hp7)).setL hO7
 have hxe := hm x (List.mem_of_getElem? hx)
 have ok7 : okT (jtT x.1 u x.2) = true := vZ l.ou hxe.1
 have sz7 : szT (jtT x.1 u x.2) ≤ 200 * io + 237 := by rw [wz]; have := l.su; have := hxe.2; omega
 have hp77 : upd (upd H' p7 (.tup ((jtT x.1 u x.2).map kV))) O (.lst (po.map V.ref ++ [.ref p7])) p7 = some (.tup ((jtT x.1 u x.2).map kV)) := by rw [ak O7]; exact ag
 have hOO : upd (upd H' p7 (.tup ((jtT x.1 u x.2).map kV))) O (.lst (po.map V.ref ++ [.ref p7])) O = some (.lst ((po ++ [p7]).map V.ref)) := by rw [ag, List.map_append]; rfl
 have kt : ∀ z xs, H' z = some (.tup xs) → upd (upd H' p7 (.tup ((jtT x.1 u x.2).map kV))) O (.lst (po.map V.ref ++ [.ref p7])) z = some (.tup xs) := fun z xs ex => kx _ _ (bE ex l.hO (fun z => nomatch z)) ex
 have hY7 := kx _ _ l.yo l.hY
 have kb7 : aB b H (upd (upd H' p7 (.tup ((jtT x.1 u x.2).map kV))) O (.lst (po.map V.ref ++ [.ref p7]))) := fun z o nz ez => kx _ _ (ar ez l.nO) (l.kb _ _ nz ez)
 generalize upd (upd H' p7 (.tup ((jtT x.1 u x.2).map kV))) O (.lst (po.map V.ref ++ [.ref p7])) = H7 at kx s7 hp77 hOO kt hY7 kb7
 refine cF s7 (by omega) hp77 ok7 fun u' H8 g8 kb8 s8 sub8 gv st8 => ?_
 have sv := iP st8
 refine q u' H8 g8 (fun z o nz ny ez => kb8 _ _ nz (kx _ _ ny ez)) ⟨kb7.trans kb8, s8.same (by omega) (.refl _), l.sub.trans sub8, l.nY, l.nO, l.yo, kb8 _ _ nYb hY7, kb8 _ _ nOb hOO, (l.ky.keep kt).keep (aB.tup s7 kb8), cX ((l.ko.keep kt).keep (aB.tup s7 kb8)) ⟨kb8.obj s7.bb hp77 (fun _ z => nomatch z), ok7⟩, l.ly, by rw [List.length_append]; have := l.lo; show _ + 1 ≤ _; omega, l.ov, l.sv, dW st8 (by omega), by omega, l.sy, fun k hk => ?_, fun h eh => ?_⟩
 · rcases List.mem_append.mp hk with h | h
   · exact l.so k h
   · rw [List.mem_singleton.mp h]; omega
 · obtain ⟨e1, e2, e3, e4⟩ := l.eq h (Ext.of sub8 eh)
   refine ⟨e1, e2, ?_, ?_⟩
   · rw [dX, hx]; dsimp only; rw [if_pos x1, ← e3, ← e4]
   · rw [dX, hx]; dsimp only; rw [if_pos x1, ← e4, eh _ _ gv]
theorem Gy.skip (l : Gy A H H' f b Y O d c m st iy io g g' n py po ty to v u) {x : Int × Key} (hx : st[io]? = some x) (x1 : x.1 ≠ 1) : Gy A H H' f b Y O d c m st iy (io + 1) g g' n py po ty to v u := by
 have e : ∀ h, dX h m st (io + 1) = dX h m st io := fun h => by rw [dX, hx]; dsimp only; rw [if_neg x1]
 exact { l with
  s := l.s.same (by omega) (.refl _)
  lo := Nat.le_succ_of_le l.lo
  su := Nat.le_trans l.su (by omega)
  eq := fun h eh => ⟨(l.eq h eh).1, (l.eq h eh).2.1, by rw [e]; exact (l.eq h eh).2.2.1, by rw [e]; exact (l.eq h eh).2.2.2⟩ }
end
end Rs
namespace Rs
open PySem PySem.Spec PyProof.Rows L2
variable {K : W.Frag} {mg : Str → Option Value} {A : Adr}
theorem AF (K : W.Frag) (A : Adr) : Ln (md K A) 4 := by rintro vs H Q E ⟨f, b, R, Z, d, c, el, m, st, ps, g, n, rfl, _⟩; rfl
theorem gD (ps : List Addr) (p : Addr) : (ps ++ [p]).map V.ref = ps.map V.ref ++ [.ref p] := by rw [List.map_append]; rfl
theorem DK (T : Txt K mg A) : Rd (md K A) (DN K A) ["stamper", "count", "elder", "steps", "younger", "older", "top", "older_top", "step"] := by
 intro vs H Q E h
 obtain ⟨f, b, R, Z, d, c, el, m, st, ps, g, n, rfl, s, hn, e1, ec, c2, hR, hZ, pl, hp, s60, em, sx, q⟩ := h
 have hm : ∀ x ∈ st, enK x.2 := fun x hx => (sx x hx).2
 refine ⟨Nat.zero_le _, fun Y hY => ⟨Nat.zero_le _, fun O hO => ?_⟩⟩
 have S1 : ao H (upd (upd H Y (.lst [])) O (.lst [])) := (ao.upd hY).trans (ao.upd hO)
 have hY1 : upd (upd H Y (.lst [])) O (.lst []) Y = some (.lst (([] : List Addr).map V.ref)) := ao.upd hO _ _ ag
 have hO1 : upd (upd H Y (.lst [])) O (.lst []) O = some (.lst (([] : List Addr).map V.ref)) := ag
 have OY : O ≠ Y := (cG hO).1
 have hOn : H O = none := (cG hO).2
 generalize upd (upd H Y (.lst [])) O (.lst []) = H1 at S1 hY1 hO1
 have l0 : Gy A H H1 f b Y O d c m st 0 0 g g n [] [] [] [] m m := ⟨aB.same S1, s.same (Nat.le_refl _) S1, Sub.rfl', hY, hOn, Ne.symm OY, hY1, hO1, .nil, .nil, rfl, Nat.le_refl _, em.1, by have := em.2; omega, em.1, by have := em.2; omega, (fun _ h => nomatch h), (fun _ h => nomatch h), fun h _ => ⟨rfl, rfl, rfl, rfl⟩⟩
 have hR1 := S1 _ _ hR
 refine ixT (j := 0) hR1 rfl rfl (ixT (j := 0) hR1 rfl rfl (ixT (j := 1) hR1 rfl rfl ⟨Z, rfl, .inl ⟨⟨_, SqL.of (S1 _ _ hZ)⟩, ?_⟩⟩))
 have nZ : Z ≠ b := s.nb hZ (fun _ z => nomatch z) (fun _ z => nomatch z)
 refine fy (xs := ps.map V.ref) (fun i σ H' => ∃ (x8 : Option V) (g' : List Key → Option Key) (py po : List Addr) (ty to : List (List Key)) (v u : Key), σ = [some (.ref f), some (.int (c : Int)), some (.int (el : Int)), some (.ref R), some (.ref Y), some (.ref O), some (kV v), some (kV u), x8] ∧ Gy A H H' f b Y O d c m st i i g g' n py po ty to v u)
   ⟨none, g, [], [], [], [], m, m, rfl, l0⟩ ?_ ?_ ?_
 · rintro i σ H' _ ⟨_, _, _, _, _, _, _, _, _, l⟩; exact SqL.of (l.kb _ _ nZ hZ)
 · rintro i x σ H' hx ⟨x8, g', py, po, ty, to, v, u, rfl, l⟩
   obtain ⟨pj, hpj, rfl⟩ := dS hx
   have hi : i < st.length := by rw [← pl]; exact (List.getElem?_eq_some_iff.mp hpj).1
   obtain ⟨x, hxs⟩ : ∃ x, st[i]? = some x := ⟨_, List.getElem?_eq_getElem hi⟩
   have hpp := hp i pj x hpj hxs
   have npj : pj ≠ b := s.nb hpp (fun _ z => nomatch z) (fun _ z => nomatch z)
   have hp' := l.kb _ _ npj hpp
   have en : ∀ w, be c st i w = jtT x.1 w x.2 := fun w => by unfold be; rw [hxs]
   have llen := l.ly
   have lolen := l.lo
   have plen := bO l.ky
   have polen := bO l.ko
   refine ⟨.inl ⟨rfl, _, SqL.of l.hY⟩, ixT (j := 0) hp' rfl rfl (ixT (j := 1) hp' rfl rfl ⟨x.1, v, x.2, rfl, fun p7 hp7 => ⟨Y, _, _, rfl, rfl, ao.upd hp7 _ _ l.hY, by rw [List.length_map]; exact bj (by omega), ?_⟩⟩)⟩
   refine ⟨f, rfl, ?_, cE ag ?_⟩
   · have hY7 : upd H' p7 (.tup ((jtT x.1 v x.2).map kV)) Y = some (.lst (py.map V.ref)) := ao.upd hp7 _ _ l.hY
     exact ((l.s.same (Nat.le_refl _) (ao.upd hp7)).setL hY7).clo
   dsimp only [af]
   rw [← en v]
   refine l.young c2 hm (by omega) (by omega) (by omega) hp7 fun v' H8 g8 kx l8 => ?_
   have pjY : pj ≠ Y := ar hpp hY
   have hp8 := kx _ _ npj pjY hp'
   refine ixT (j := 0) hp8 rfl rfl (Sel.dec (fun h1 => ?_) (fun h1 => ?_))
   · have h1 : x.1 = 1 := h1
     refine ⟨.inl ⟨rfl, _, SqL.of l8.hO⟩, ixT (j := 0) hp8 rfl rfl (ixT (j := 1) hp8 rfl rfl ⟨x.1, u, x.2, rfl, fun p9 hp9 => ⟨O, _, _, rfl, rfl, ao.upd hp9 _ _ l8.hO, by rw [List.length_map]; exact bj (by omega), ?_⟩⟩)⟩
     refine ⟨f, rfl, ?_, cE ag ?_⟩
     · have hO9 : upd H8 p9 (.tup ((jtT x.1 u x.2).map kV)) O = some (.lst (po.map V.ref)) := ao.upd hp9 _ _ l8.hO
       exact ((l8.s.same (Nat.le_refl _) (ao.upd hp9)).setL hO9).clo
     dsimp only [af]
     exact l8.old hm (by omega) (by omega) (by omega) hxs h1 hp9 fun u' H10 g10 kx10 l10 => ⟨_, g10, _, _, _, _, v', u', rfl, l10⟩
   · have h1 : ¬ x.1 = 1 := h1
     exact ⟨_, g8, _, _, _, _, v', u, rfl, l8.skip hxs h1⟩
 · rintro σ H' ⟨x8, g', py, po, ty, to, v, u, rfl, l⟩
   rw [List.length_map, pl] at l
   have llen := l.ly
   have lolen := l.lo
   have plen := bO l.ky
   have polen := bO l.ko
   obtain ⟨nYb, nOb⟩ := l.nb
   refine ⟨.inl ⟨rfl, _, SqL.of l.hY⟩, ax (show 3 ≤ 1000000 by decide), fun p7 hp7 => ⟨Y, _, _, rfl, rfl, ao.upd hp7 _ _ l.hY, by rw [List.length_map]; exact bj (by omega), ?_⟩⟩
   have Y7 : p7 ≠ Y := Ne.symm (ar l.hY hp7)
   have kx : ∀ z o, z ≠ Y → H' z = some o → upd (upd H' p7 (.tup [.str "row", .int (c : Int), kV v])) Y (.lst (py.map V.ref ++ [.ref p7])) z = some o := fun z o nz ez => by rw [ak nz]; exact ao.upd hp7 _ _ ez
   have s7 : Stp A (upd (upd H' p7 (.tup [.str "row", .int (c : Int), kV v])) Y (.lst (py.map V.ref ++ [.ref p7]))) f b d g' (n + st.length + st.length) := (l.s.same (Nat.le_refl _) (ao.upd hp7)).setL (ao.upd hp7 _ _ l.hY)
   have hp77 : upd (upd H' p7 (.tup [.str "row", .int (c : Int), kV v])) Y (.lst (py.map V.ref ++ [.ref p7])) p7 = some (.tup (([.inr "row", .inl (c : Int), v] : List Key).map kV)) := by rw [ak Y7]; exact ag
   have hYY : upd (upd H' p7 (.tup [.str "row", .int (c : Int), kV v])) Y (.lst (py.map V.ref ++ [.ref p7])) Y = some (.lst ((py ++ [p7]).map V.ref)) := by rw [ag, gD]
   generalize upd (upd H' p7 (.tup [.str "row", .int (c : Int), kV v])) Y (.lst (py.map V.ref ++ [.ref p7])) = H7 at kx s7 hp77 hYY
   have hO7 := kx _ _ (Ne.symm l.yo) l.hO
   have kt7 : ∀ x xs, H' x = some (.tup xs) → H7 x = some (.tup xs) := fun x xs ex => kx _ _ (bE ex l.hY (fun z => nomatch z)) ex
   refine ⟨.inl ⟨rfl, _, SqL.of hO7⟩, ax (show 3 ≤ 1000000 by decide), fun p9 hp9 => ⟨O, _, _, rfl, rfl, ao.upd hp9 _ _ hO7, by rw [List.length_map]; exact bj (by omega), ?_⟩⟩
   have O9 : p9 ≠ O := Ne.symm (ar hO7 hp9)
   have kz : ∀ z o, z ≠ O → H7 z = some o → upd (upd H7 p9 (.tup [.str "row", .int (el : Int), kV u])) O (.lst (po.map V.ref ++ [.ref p9])) z = some o := fun z o nz ez => by rw [ak nz]; exact ao.upd hp9 _ _ ez
   have s9 : Stp A (upd (upd H7 p9 (.tup [.str "row", .int (el : Int), kV u])) O (.lst (po.map V.ref ++ [.ref p9]))) f b d g' (n + st.length + st.length) := (s7.same (Nat.le_refl _) (ao.upd hp9)).setL (ao.upd hp9 _ _ hO7)
   have hp99 : upd (upd H7 p9 (.tup [.str "row", .int (el : Int), kV u])) O (.lst (po.map V.ref ++ [.ref p9])) p9 = some (.tup (([.inr "row", .inl (el : Int), u] : List Key).map kV)) := by rw [ak O9]; exact ag
   have hOO : upd (upd H7 p9 (.tup [.str "row", .int (el : Int), kV u])) O (.lst (po.map V.ref ++ [.ref p9])) O = some (.lst ((po ++ [p9]).map V.ref)) := by rw [ag, gD]
   generalize upd (upd H7 p9 (.tup [.str "row", .int (el : Int), kV u])) O (.lst (po.map V.ref ++ [.ref p9])) = H9 at kz s9 hp99 hOO
   have kt9 : ∀ x xs, H7 x = some (.tup xs) → H9 x = some (.tup xs) := fun x xs ex => kz _ _ (bE ex hO7 (fun z => nomatch z)) ex
   have okc := gg c2 l.ov
   have oke := gg (c := el) (by omega) l.ou
   have sv := l.sv
   have su := l.su
   have szc : szT [.inr "row", .inl (c : Int), v] ≤ 20000 := by rw [sz3, szW.2.2.2]; show 65 + (62 + szK v) ≤ _; omega
   have sze : szT [.inr "row", .inl (el : Int), u] ≤ 20000 := by rw [sz3, szW.2.2.2]; show 65 + (62 + szK u) ≤ _; omega
   refine ⟨ax (show 2 ≤ 1000000 by decide), q Y O (py ++ [p7]) (po ++ [p9]) (ty ++ [[.inr "row", .inl (c : Int), v]]) (to ++ [[.inr "row", .inl (el : Int), u]]) g' H9 (fun z o nz ez => kz _ _ (ar ez l.nO) (kx _ _ (ar ez l.nY) (l.kb _ _ nz ez))) (s9.same (by omega) (.refl _)) l.sub (kz _ _ l.yo hYY) hOO (cX ((l.ky.keep kt7).keep kt9) ⟨kt9 _ _ hp77, okc⟩) (cX ((l.ko.keep kt7).keep kt9) ⟨hp99, oke⟩) (by rw [List.length_append, llen]; rfl) (by rw [List.length_append]; show 1 ≤ _ + 1; omega) (by rw [List.length_append]; show _ + 1 ≤ _; omega) (fun k hk => ?_) (fun k hk => ?_) fun h eh => ?_⟩
   · rcases List.mem_append.mp hk with h | h
     · exact l.sy k h
     · rw [List.mem_singleton.mp h]; exact szc
   · rcases List.mem_append.mp hk with h | h
     · exact l.so k h
     · rw [List.mem_singleton.mp h]; exact sze
   · obtain ⟨a1, a2, a3, a4⟩ := l.eq h eh
     refine ⟨?_, ?_⟩
     · rw [fb, ← a1, jg, ← a2]
       unfold be; rw [List.getElem?_eq_none (Nat.le_refl _)]
     · unfold eX gy; rw [if_neg (by omega), if_neg (by omega), ← a3, ← a4]
end Rs
namespace Rs
open PySem PySem.Spec PyProof.Rows L2
theorem nj : ∀ (ts : List Int) (lo hi : Nat) (ks : List Key), (dl ts lo hi ks).length = ts.length + 1
  | [], _, _, _ => rfl
  | t :: r, lo, hi, ks => by
    rw [dl]; split
    · rw [List.length_cons, nj r]; rfl
    · rw [List.length_cons, nj r]; rfl
theorem jI : ∀ (ts : List Int) (lo hi : Nat) (ks : List Key), hi = lo + ts.length + 1 → hi ≤ ks.length → ∀ x ∈ dl ts lo hi ks, ∃ k ∈ ks, x = some k
  | [], lo, hi, ks, h1, h2, x, hx => by
    rw [dl] at hx
    rw [List.mem_singleton.mp hx]
    have : lo < ks.length := by simp at h1; omega
    exact ⟨ks[lo], List.getElem_mem _, List.getElem?_eq_getElem this⟩
  | t :: r, lo, hi, ks, h1, h2, x, hx => by
    rw [List.length_cons] at h1
    rw [dl] at hx
    split at hx
    · rcases List.mem_cons.mp hx with rfl | hx
      · have : lo < ks.length := by omega
        exact ⟨ks[lo], List.getElem_mem _, List.getElem?_eq_getElem this⟩
      · exact jI r (lo + 1) hi ks (by omega) h2 x hx
    · rcases List.mem_cons.mp hx with rfl | hx
      · have : hi - 1 < ks.length := by omega
        exact ⟨ks[hi - 1], List.getElem_mem _, List.getElem?_eq_getElem this⟩
      · exact jI r lo (hi - 1) ks (by omega) (by omega) x hx
theorem cv (ts : List Int) (ks : List Key) : (bx ts ks).length = ts.length + 1 := by unfold bx; rw [List.length_map, nj]
theorem mH {ts : List Int} {ks : List Key} (kl : ks.length = ts.length + 1) : ∀ k ∈ bx ts ks, k ∈ ks := fun k hk => by
 unfold bx at hk
 obtain ⟨x, hx, rfl⟩ := List.mem_map.mp hk
 obtain ⟨k', hk', rfl⟩ := jI ts 0 ks.length ks (by omega) (Nat.le_refl _) x hx
 exact hk'
theorem pH {ts : List Int} {ks : List Key} (kl : ks.length = ts.length + 1) : inM ts ks ∈ ks := by
 unfold inM
 have h := cv ts ks
 have e : (bx ts ks)[ts.length]? = some ((bx ts ks)[ts.length]'(by omega)) := List.getElem?_eq_getElem (by omega)
 rw [e]
 exact mH kl _ (List.getElem_mem _)
theorem rE {ts : List Int} {ks : List Key} (kl : ks.length = ts.length + 1) (t01 : ∀ t ∈ ts, t = 0 ∨ t = 1) (ke : ∀ k ∈ ks, enK k) : ∀ x ∈ stG ts ks, (x.1 = 0 ∨ x.1 = 1) ∧ enK x.2 := fun x hx => ⟨t01 _ (pL hx).1, ke _ (mH kl _ (pL hx).2)⟩
variable {K : W.Frag} {mg : Str → Option Value} {A : Adr}
theorem zB (K : W.Frag) (A : Adr) : Ln (iX K A) 4 := by rintro vs H Q E ⟨f, b, P, d, c, el, ks, g, n, rfl, _⟩; rfl
theorem Ca (T : Txt K mg A) : Rd (iX K A) (Fq K A) ["stamper", "count", "elder", "marks", "turns", "younger"] := by
 intro vs H Q E h
 obtain ⟨f, b, P, d, c, el, ks, g, n, rfl, ⟨s, hn, c1, c2, ec, tl, t01, z0, kl, ke, hP⟩, q⟩ := h
 refine ⟨_, _, rfl, by omega, by omega, by omega, Sel.no rfl ⟨c, el, rfl, c1, ec, by omega, fun W hWn => ?_⟩⟩
 have S1 : ao H (upd H W (.lst ((aC c el).map V.int))) := ao.upd hWn
 have hW : upd H W (.lst ((aC c el).map V.int)) W = some (.lst ((aC c el).map V.int)) := ag
 generalize upd H W (.lst ((aC c el).map V.int)) = H1 at S1 hW
 generalize aC c el = ts at *
 refine Sel.dec (fun h => by omega) (fun _ => .inl (.inl ⟨_, SqL.of hW, ?_⟩))
 rw [List.length_map]
 refine ⟨P, ks, by rw [kl]; rfl, S1 _ _ hP, fun k hk => (ke k hk).1, by omega, fun H2 S2 => Sel.no rfl ?_⟩
 have S12 := S1.trans S2
 have hP2 := S12 _ _ hP
 have s2 := s.same (Nat.le_refl _) S12
 refine Sel.dec (fun h => ?_) (fun h => ?_)
 · have e0 : el = 0 := by have h : (el : Int) = 0 := h; omega
   have ets := z0 e0
   subst ets
   have k1 : ks.length = 1 := kl
   obtain ⟨m, hm⟩ : ∃ m, ks[0]? = some m := ⟨_, List.getElem?_eq_getElem (by omega)⟩
   have em : inM [] ks = m := by
     unfold inM bx dl
     rw [hm]; rfl
   have enm := ke m (List.mem_of_getElem? hm)
   refine Sel.dec (fun h => by omega) (fun _ => ?_)
   refine ixT (j := 0) hP2 rfl (by rw [List.getElem?_map, hm]; rfl) ⟨ax (show 3 ≤ 1000000 by decide), fun p1 hp1 => ⟨ax (show 1 ≤ 1000000 by decide), fun Y hY => ?_⟩⟩
   have S3 : ao H2 (upd (upd H2 p1 (.tup [.str "row", .int (c : Int), kV m])) Y (.lst [.ref p1])) := (ao.upd hp1).trans (ao.upd hY)
   have hY3 : upd (upd H2 p1 (.tup [.str "row", .int (c : Int), kV m])) Y (.lst [.ref p1]) Y = some (.lst (([p1] : List Addr).map V.ref)) := ag
   have hp3 : upd (upd H2 p1 (.tup [.str "row", .int (c : Int), kV m])) Y (.lst [.ref p1]) p1 = some (.tup (([.inr "row", .inl (c : Int), m] : List Key).map kV)) := ao.upd hY _ _ ag
   generalize upd (upd H2 p1 (.tup [.str "row", .int (c : Int), kV m])) Y (.lst [.ref p1]) = H3 at S3 hY3 hp3
   have s3 := s2.same (Nat.le_refl _) S3
   refine ⟨f, b, d, g, n, rfl, s3, by omega, fun O po v g4 H4 kb4 s4 sub4 gv okv svo hO pk => ⟨ax (show 2 ≤ 1000000 by decide), ?_⟩⟩
   have szv : szT [.inr "row", .inl (0 : Int), v] ≤ 20000 := by rw [sz3, szW.2.2.2]; show 65 + (62 + szK v) ≤ _; omega
   refine q Y O [p1] po [[.inr "row", .inl (c : Int), m]] _ g4 H4 ((aB.same (S12.trans S3)).trans kb4) (s4.same (by omega) (.refl _)) sub4 (kb4.obj s3.bb hY3 (fun _ z => nomatch z)) hO (.cons ⟨kb4.obj s3.bb hp3 (fun _ z => nomatch z), gg c2 enm.1⟩ .nil) pk rfl (by show 1 ≤ 2; decide) (by show 2 ≤ 70; decide) (fun k hk => ?_) (fun k hk => ?_) fun h eh => ?_
   · rw [List.mem_singleton.mp hk, sz3, szW.2.2.2]; show 65 + (62 + szK m) ≤ _; have := enm.2; omega
   · rcases List.mem_cons.mp hk with rfl | hk
     · rw [sz1, szW.1]; decide
     · rw [List.mem_singleton.mp hk]; exact szv
   · refine ⟨by rw [em]; rfl, ?_⟩
     unfold eX gy
     rw [if_pos e0, if_pos e0, eh _ _ gv, e0]; rfl
 · have e0 : 1 ≤ el := by have h : ¬ (el : Int) = 0 := h; omega
   refine ⟨W, P, ts, ks, rfl, S2 _ _ hW, hP2, kl, tl, t01, fun R Z ps H3 S3 hR hZ pl hp => ?_⟩
   have S13 := S12.trans S3
   have slen : (stG ts ks).length = ts.length := dy (cv ts ks)
   refine ⟨f, b, R, Z, d, c, el, inM ts ks, stG ts ks, ps, g, n, rfl, s2.same (Nat.le_refl _) S3, hn, e0, ec, c2, hR, hZ, by rw [slen]; exact pl, hp, by omega, ke _ (pH kl), rE kl t01 ke, ?_⟩
   intro Y O py po ty to g' H' kb' s' sub' hY hO ky ko ly l1 l70 sy so eq
   exact q Y O py po ty to g' H' ((aB.same S13).trans kb') s' sub' hY hO ky ko ly l1 l70 sy so eq
end Rs
namespace Rs
open PySem PySem.Spec PyProof.Rows L2
variable {K : W.Frag} {mg : Str → Option Value} {A : Adr}
theorem gT {h : List Key → Key} {c : Int} {m : Key} {st : List (Int × Key)} {r : List (List Key)} {t : List Key} {k : Nat} (e : r ++ [t] = cY h c m st (k + 1)) : t = cB h c m st k := by
 rw [fb] at e
 exact List.singleton_inj.mp (List.append_inj' e rfl).2
theorem iu {h : List Key → Key} {el : Nat} {m : Key} {st : List (Int × Key)} {r : List (List Key)} {t : List Key} (e : r ++ [t] = eX h el m st) : t = gy h el m st := by
 unfold eX at e
 exact List.singleton_inj.mp (List.append_inj' e rfl).2
theorem gC {tt : List (List Key)} (h : 1 ≤ tt.length) : ∃ r t, tt = r ++ [t] := LadQ.last (m := tt.length - 1) (by omega)
theorem cU.same {H H' : Hp} {f b P : Addr} {d : Kd} {c el : Nat} {ts : List Int} {ks : List Key} {g : List Key → Option Key} {n : Nat} (p : cU A H f b P d c el ts ks g n) (S : ao H H') : cU A H' f b P d c el ts ks g n :=
 ⟨p.s.same (Nat.le_refl _) S, p.hn, p.c1, p.c2, p.ec, p.tl, p.t01, p.z, p.kl, p.ke, S _ _ p.w⟩
theorem cU.kb {H H' : Hp} {f b P : Addr} {d : Kd} {c el : Nat} {ts : List Int} {ks : List Key} {g g' : List Key → Option Key} {n m : Nat} (p : cU A H f b P d c el ts ks g n) (k : aB b H H') (s : Stp A H' f b d g' m) (hm : m + 400 ≤ 40000) : cU A H' f b P d c el ts ks g' m :=
 ⟨s, hm, p.c1, p.c2, p.ec, p.tl, p.t01, p.z, p.kl, p.ke, k.obj p.s.bb p.w (fun _ z => nomatch z)⟩
theorem yx (K : W.Frag) (A : Adr) : Ln (mj K A) 4 := by rintro vs H Q E ⟨f, b, hd, P, d, c, el, ks, mk, g, n, rfl, _⟩; rfl
theorem Dh (T : Txt K mg A) (vs : List V) (H : Hp) (Q : VK) (E : XK) (h : mj K A vs H Q E) : zv K A E { nx := fun _ H' => Q .non H', rt := Q } (L2.start ["stamper", "head", "elder", "marks", "terms", "came"] vs) H := by
 obtain ⟨f, b, hd, P, d, c, el, ks, mk, g, n, rfl, pp, hh, okm, q⟩ := h
 have hn := pp.hn
 have slen : (stG (aC c el) ks).length = (aC c el).length := dy (cv _ ks)
 refine ⟨hd, c, mk, rfl, hh, pp.c2, okm, ixT (j := 0) hh rfl rfl ?_⟩
 refine ⟨f, b, P, d, c, el, ks, g, n, rfl, pp, fun Y O py po ty to g1 H1 kb1 s1 sub1 hY hO ky ko ly l1 l70 sy so eq p hp => ?_⟩
 obtain ⟨ry, t, rfl⟩ := gC (tt := ty) (by omega)
 obtain ⟨ro, t2, rfl⟩ := gC (tt := to) l1
 obtain ⟨qy, py1, rfl, ky'⟩ := dO ky
 obtain ⟨qo, po1, rfl, ko'⟩ := dO ko
 obtain ⟨hpy, oky⟩ := dR (eG ky') ky'
 obtain ⟨hpo, oko⟩ := dR (eG ko') ko'
 have S2 := ao.upd (o := .tup [.ref Y, .ref O]) hp
 have s2 := s1.same (Nat.le_refl _) S2
 have hT2 : upd H1 p (.tup [.ref Y, .ref O]) p = some (.tup [.ref Y, .ref O]) := ag
 have hY2 := S2 _ _ hY
 have hO2 := S2 _ _ hO
 have hpy2 := S2 _ _ hpy
 have hpo2 := S2 _ _ hpo
 have hh2 := S2 _ _ (kb1.obj pp.s.bb hh (fun _ z => nomatch z))
 generalize upd H1 p (.tup [.ref Y, .ref O]) = H2 at S2 s2 hT2 hY2 hO2 hpy2 hpo2 hh2
 rw [List.map_append] at hY2 hO2
 refine ⟨f, rfl, s2.clo, ixT (j := 0) hT2 rfl rfl (cE hY2 ?_)⟩
 dsimp only [af]
 refine cF s2 (by omega) hpy2 oky fun w H3 g3 kb3 s3 sub3 gv st3 => ?_
 have szt := sy t (by simp)
 obtain ⟨q1, q2⟩ := q w g3 H3 ((kb1.trans (aB.same S2)).trans kb3) s3 (sub1.trans sub3) (dW st3 (by omega)) (fun h eh => by
   have e := gT (eq h (Ext.of sub3 eh)).1
   rw [slen] at e
   rw [← e, eh _ _ gv])
 have hh3 := kb3.obj s2.bb hh2 (fun _ z => nomatch z)
 refine ixT (j := 1) hh3 rfl rfl (lF ?_)
 by_cases ewm : w = mk
 · refine Sel.no (by rw [decide_eq_true ewm]; rfl) ?_
   refine ⟨f, rfl, s3.clo, ixT (j := 1) (kb3.obj s2.bb hT2 (fun _ z => nomatch z)) rfl rfl (cE (kb3.obj s2.bb hO2 (fun _ z => nomatch z)) ?_)⟩
   dsimp only [af]
   refine cF s3 (by omega) (kb3.obj s2.bb hpo2 (fun _ z => nomatch z)) oko fun u H4 g4 kb4 s4 sub4 gu st4 => ?_
   have szo := so t2 (by simp)
   exact q1 ewm u g4 H4 kb4 s4 sub4 (dW st4 (by omega)) fun h eh => by
     rw [← iu (eq h (Ext.of sub3 (Ext.of sub4 eh))).2, eh _ _ gu]
 · refine Sel.yes (by rw [decide_eq_false ewm]; rfl) ?_
   refine ixT (j := 1) hh3 rfl rfl fun a ha => ⟨a, kV mk, kV w, rfl, ag, fun dx hdx => ⟨rfl, some dx, ?_, ?_⟩⟩
   · obtain ⟨nd, _⟩ := cG hdx
     rw [ak (Ne.symm nd), ak (Ne.symm nd)]; exact ag
   · obtain ⟨nd, hd0⟩ := cG hdx
     refine q2 ewm dx _ (fun z o ez => ?_) (by rw [dA nd]; exact ag)
     have na := ar ez ha
     have nz := ar ez hd0
     rw [dA na, ak nz, ak nz, ak na, ak na]; exact ez
theorem zl (K : W.Frag) (A : Adr) : Ln (gH K A) 4 := by rintro vs H Q E ⟨f, b, hd, P, d, c, el, ks, mk, g, n, rfl, _⟩; rfl
theorem BO (T : Txt K mg A) : Rd (gH K A) (Ea K A) ["_law_stamper_here", "_law_head", "_law_elder", "_law_marks", "_law_caught", "_law_answer", "e"] := by
 intro vs H Q E h
 obtain ⟨f, b, hd, P, d, c, el, ks, mk, g, n, rfl, pp, hh, okm, q⟩ := h
 refine ⟨f, b, hd, P, d, c, el, ks, mk, g, n, rfl, pp, hh, okm, fun w g1 H1 k1 s1 sub1 okw ew => ⟨fun em u g2 H2 k2 s2 sub2 oku eu => ?_, fun em dx H2 S2 hdx => ?_⟩⟩
 · refine Sel.yes rfl ⟨ax (show 2 ≤ 1000000 by decide), fun r hr => ?_⟩
   exact (q w g1 H1 k1 s1 sub1 okw ew).1 em r u g2 _ (k2.trans (aB.same (ao.upd hr))) (s2.same (Nat.le_refl _) (ao.upd hr)) sub2 oku eu ag
 · refine ⟨A.c_Broken, rfl, T.eo_Broken, true, T.sb_Broken_Broken, Sel.t fun a ha => ?_⟩
   have nd : dx ≠ a := ar hdx ha
   have hx : upd H2 a (ki A.c_Broken (some dx) a) dx = some (fV (da "came" (kV w) [("due", kV mk)]) dx) := by rw [ak nd]; exact hdx
   refine Sel.no rfl ⟨a, A.c_Broken, dx, _, kV mk, rfl, ag, hx, T.ef_Broken_due, rfl, a, A.c_Broken, dx, _, kV w, rfl, ag, hx, T.ef_Broken_came, rfl, ax (show 3 ≤ 1000000 by decide), fun r hr => ?_⟩
   exact (q w g1 H1 k1 s1 sub1 okw ew).2 em r _ (S2.trans ((ao.upd ha).trans (ao.upd hr))) ag
theorem Bc (K : W.Frag) (A : Adr) : Ln (mL K A) 2 := by rintro vs H Q E ⟨R, S, Y, O, Y2, O2, py, po, py2, po2, ty, to, rfl, _⟩; rfl
theorem DW (T : Txt K mg A) : Rd (mL K A) (T_3 K A) ["_law_found", "_law_due"] := by
 intro vs H Q E h
 obtain ⟨R, S, Y, O, Y2, O2, py, po, py2, po2, ty, to, rfl, hR, hS, hY, hO, hY2, hO2, ky, ko, ky2, ko2, ly, lo, q⟩ := h
 have ty1 : tyN H (.ref R) = some "tuple" := by unfold tyN; dsimp only; rw [hR]
 refine ⟨by decide, "tuple", ty1, Sel.no rfl (.inl (.inr (.inl ⟨_, SqT.of hR, Sel.no rfl ?_⟩)))⟩
 refine ixT (j := 0) hR rfl rfl (ixL (j := 0) hS rfl rfl ⟨Y, Y2, py, py2, ty, rfl, hY, hY2, ky, ky2, ly, fun H1 S1 => Sel.t ?_⟩)
 refine ixT (j := 1) (S1 _ _ hR) rfl rfl (ixL (j := 1) (S1 _ _ hS) rfl rfl ⟨O, O2, po, po2, to, rfl, S1 _ _ hO, S1 _ _ hO2, ko.keep (fun x xs ex => S1 _ _ ex), ko2.keep (fun x xs ex => S1 _ _ ex), lo, fun H2 S2 => q H2 (S1.trans S2)⟩)
end Rs
namespace Rs
open PySem PySem.Spec PyProof.Rows L2
variable {K : W.Frag} {mg : Str → Option Value} {A : Adr}
theorem uO (ts : List Int) (ks : List Key) : ∃ r, bx ts ks = r ++ [inM ts ks] := by
  have h := cv ts ks
  cases e : (bx ts ks).reverse with
  | nil => have := congrArg List.length e; rw [List.length_reverse, h] at this; simp at this
  | cons x r =>
    have e2 : bx ts ks = r.reverse ++ [x] := by rw [← List.reverse_reverse (bx ts ks), e, List.reverse_cons]
    refine ⟨r.reverse, ?_⟩
    have hl : r.reverse.length = ts.length := by rw [e2, List.length_append] at h; simp at h; simp; exact h
    have : inM ts ks = x := by
      unfold inM; rw [e2, List.getElem?_append_right (by omega), hl, Nat.sub_self]; rfl
    rw [this]; exact e2
theorem Bg (K : W.Frag) (A : Adr) : Ln (gJ K A) 6 := by rintro vs H Q E ⟨f, b, L, P, d, c, el, ts, ks, g, n, j, rfl, _⟩; rfl
theorem Ex (T : Txt K mg A) : Rd (gJ K A) (T_6 K A) ["_law_stamper_here", "_law_count", "_law_elder", "_law_steps_here", "_law_marks", "_law_height", "_law_dealt_here", "_law_younger", "_law_older", "_law_young", "_law_old", "_law_k"] := by
 intro vs H Q E h
 obtain ⟨f, b, L, P, d, c, el, ts, ks, g, n, j, rfl, ⟨s, hn, c1, c2, ec, tl, t01, z0, kl, ke, hP⟩, hL, hj, q⟩ := h
 have dlen := cv ts ks
 have slen : (stG ts ks).length = ts.length := dy dlen
 have sx := rE kl t01 ke
 have hm : ∀ x ∈ stG ts ks, enK x.2 := fun x hx => (sx x hx).2
 have em := ke _ (pH kl)
 obtain ⟨dr, edr⟩ := uO ts ks
 refine ⟨L, P, ts, ks, rfl, hL, hP, kl, tl, t01, fun M H0 S0 hMn hM => ⟨Nat.zero_le _, fun Y hY => ⟨Nat.zero_le _, fun O hO => ?_⟩⟩⟩
 have S1 : ao H0 (upd (upd H0 Y (.lst [])) O (.lst [])) := (ao.upd hY).trans (ao.upd hO)
 have hY1 : upd (upd H0 Y (.lst [])) O (.lst []) Y = some (.lst (([] : List Addr).map V.ref)) := ao.upd hO _ _ ag
 have hO1 : upd (upd H0 Y (.lst [])) O (.lst []) O = some (.lst (([] : List Addr).map V.ref)) := ag
 have OY : O ≠ Y := (cG hO).1
 have hOn0 : H0 O = none := (cG hO).2
 generalize upd (upd H0 Y (.lst [])) O (.lst []) = H1 at S1 hY1 hO1
 have s0 := s.same (Nat.le_refl _) S0
 have l0 : Gy A H0 H1 f b Y O d c (inM ts ks) (stG ts ks) 0 0 g g n [] [] [] [] (inM ts ks) (inM ts ks) := ⟨aB.same S1, s0.same (Nat.le_refl _) S1, Sub.rfl', hY, hOn0, Ne.symm OY, hY1, hO1, .nil, .nil, rfl, Nat.le_refl _, em.1, by have := em.2; omega, em.1, by have := em.2; omega, (fun _ h => nomatch h), (fun _ h => nomatch h), fun h _ => ⟨rfl, rfl, rfl, rfl⟩⟩
 have hM1 : H1 M = some (.lst (dr.map kV ++ [kV (inM ts ks)])) := by rw [S1 _ _ hM, edr, List.map_append]; rfl
 refine cE hM1 (cE hM1 ⟨_, rfl, by omega, by omega, ?_⟩)
 rw [Int.toNat_natCast]
 have hL0 := S0 _ _ hL
 have nL : L ≠ b := s.nb hL (fun _ z => nomatch z) (fun _ z => nomatch z)
 have nM : M ≠ b := s0.nb hM (fun _ z => nomatch z) (fun _ z => nomatch z)
 refine sm (fun i σ H' => ∃ (x11 : Option V) (g' : List Key → Option Key) (py po : List Addr) (ty to : List (List Key)) (v u : Key), σ = [some (.ref f), some (.int (c : Int)), some (.int (el : Int)), some (.ref L), some (.ref P), some (.int (j : Int)), some (.ref M), some (.ref Y), some (.ref O), some (kV v), some (kV u), x11] ∧ Gy A H0 H' f b Y O d c (inM ts ks) (stG ts ks) i i g g' n py po ty to v u)
   ⟨none, g, [], [], [], [], inM ts ks, inM ts ks, rfl, l0⟩ ?_ ?_
 · rintro i σ H' hi ⟨x11, g', py, po, ty, to, v, u, rfl, l⟩
   rw [show (0 : Int) + (i : Int) = (i : Int) by omega]
   have hL' := l.kb _ _ nL hL0
   have hM' := l.kb _ _ nM hM
   have llen := l.ly
   have lolen := l.lo
   have plen := bO l.ky
   have polen := bO l.ko
   obtain ⟨tn, a, h1, h2, h3⟩ := jp dlen (i := i) (by omega)
   have en : ∀ w, be c (stG ts ks) i w = jtT tn w a := fun w => by unfold be; rw [h3]
   refine ⟨.inl ⟨rfl, _, SqL.of l.hY⟩, c, i, L, M, ts, bx ts ks, v, rfl, hL', hM', dlen, by omega, t01, fun p7 hp7 => ⟨Y, _, _, rfl, rfl, ao.upd hp7 _ _ l.hY, by rw [List.length_map]; exact bj (by omega), ?_⟩⟩
   refine ⟨f, rfl, ((l.s.same (Nat.le_refl _) (ao.upd hp7)).setL (ao.upd hp7 _ _ l.hY)).clo, cE ag ?_⟩
   dsimp only [af]
   refine l.young c2 hm (by omega) (by omega) (by omega) hp7 fun v' H8 g8 kx l8 => ?_
   have hL8 := l8.kb _ _ nL hL0
   have hM8 := l8.kb _ _ nM hM
   refine ixB (i := i) hL8 (by rw [List.length_map]; omega) (x := .int tn) (by rw [List.length_map, List.getElem?_map, h1]; rfl) ?_
   refine Sel.dec (fun t1 => ?_) (fun t1 => ?_)
   · have t1 : tn = 1 := t1
     refine ⟨.inl ⟨rfl, _, SqL.of l8.hO⟩, c, i, L, M, ts, bx ts ks, u, rfl, hL8, hM8, dlen, by omega, t01, fun p9 hp9 => ⟨O, _, _, rfl, rfl, ao.upd hp9 _ _ l8.hO, by rw [List.length_map]; exact bj (by omega), ?_⟩⟩
     refine ⟨f, rfl, ((l8.s.same (Nat.le_refl _) (ao.upd hp9)).setL (ao.upd hp9 _ _ l8.hO)).clo, cE ag ?_⟩
     dsimp only [af]
     have eu : be c (stR ts (bx ts ks)) i u = jtT tn u a := en u
     rw [eu]
     exact l8.old (x := (tn, a)) hm (by omega) (by omega) (by omega) h3 t1 hp9 fun u' H10 g10 kx10 l10 => ⟨_, g10, _, _, _, _, v', u', rfl, l10⟩
   · have t1 : ¬ tn = 1 := t1
     exact ⟨_, g8, _, _, _, _, v', u, rfl, l8.skip (x := (tn, a)) h3 t1⟩
 · rintro σ H' ⟨x11, g', py, po, ty, to, v, u, rfl, l⟩
   have hL' := l.kb _ _ nL hL0
   have hM' := l.kb _ _ nM hM
   have llen := l.ly
   have lolen := l.lo
   have plen := bO l.ky
   have polen := bO l.ko
   have lsv := l.sv
   have lsu := l.su
   obtain ⟨nYb, nOb⟩ := l.nb
   refine ⟨.inl ⟨rfl, _, SqL.of l.hY⟩, c, j, L, M, ts, bx ts ks, v, rfl, hL', hM', dlen, hj, t01, fun p7 hp7 => ⟨Y, _, _, rfl, rfl, ao.upd hp7 _ _ l.hY, by rw [List.length_map]; exact bj (by omega), ?_⟩⟩
   obtain ⟨ok7, sz7⟩ := rW (i := j) (B := 200 * j + 38) (st := stG ts ks) c2 hm l.ov (by omega)
   have Y7 : p7 ≠ Y := Ne.symm (ar l.hY hp7)
   have kx : ∀ z o, z ≠ Y → H' z = some o → upd (upd H' p7 (.tup ((be c (stR ts (bx ts ks)) j v).map kV))) Y (.lst (py.map V.ref ++ [.ref p7])) z = some o := fun z o nz ez => by rw [ak nz]; exact ao.upd hp7 _ _ ez
   have s7 : Stp A (upd (upd H' p7 (.tup ((be c (stR ts (bx ts ks)) j v).map kV))) Y (.lst (py.map V.ref ++ [.ref p7]))) f b d g' (n + j + j) := (l.s.same (Nat.le_refl _) (ao.upd hp7)).setL (ao.upd hp7 _ _ l.hY)
   have hp77 : upd (upd H' p7 (.tup ((be c (stR ts (bx ts ks)) j v).map kV))) Y (.lst (py.map V.ref ++ [.ref p7])) p7 = some (.tup ((be c (stG ts ks) j v).map kV)) := by rw [ak Y7]; exact ag
   have hYY : upd (upd H' p7 (.tup ((be c (stR ts (bx ts ks)) j v).map kV))) Y (.lst (py.map V.ref ++ [.ref p7])) Y = some (.lst ((py ++ [p7]).map V.ref)) := by rw [ag, gD]
   generalize upd (upd H' p7 (.tup ((be c (stR ts (bx ts ks)) j v).map kV))) Y (.lst (py.map V.ref ++ [.ref p7])) = H7 at kx s7 hp77 hYY
   have hO7 := kx _ _ (Ne.symm l.yo) l.hO
   have kt7 : ∀ x xs, H' x = some (.tup xs) → H7 x = some (.tup xs) := fun x xs ex => kx _ _ (bE ex l.hY (fun z => nomatch z)) ex
   have kb7 : aB b H0 H7 := fun z o nz ez => kx _ _ (ar ez l.nY) (l.kb _ _ nz ez)
   have ky7 : PK H7 (py ++ [p7]) (ty ++ [be c (stG ts ks) j v]) := cX (l.ky.keep kt7) ⟨hp77, ok7⟩
   have ko7 := l.ko.keep kt7
   have sy7 : ∀ k ∈ ty ++ [be c (stG ts ks) j v], szT k ≤ 20000 := fun k hk => by
     rcases List.mem_append.mp hk with h | h
     · exact l.sy k h
     · rw [List.mem_singleton.mp h]; omega
   have ey7 : ∀ h, Ext g' h → ty ++ [be c (stG ts ks) j v] = cY h c (inM ts ks) (stG ts ks) (j + 1) := fun h eh => by
     obtain ⟨a1, a2, _⟩ := l.eq h eh
     rw [fb, ← a1, jg, ← a2]
   have fin : ∀ (Hx : Hp) (gx : List Key → Option Key) (pox : List Addr) (tox : List (List Key)) (ux : Key) (x11 : Option V), aB b H0 Hx → Stp A Hx f b d gx (n + 125) → Sub g gx → Hx Y = some (.lst ((py ++ [p7]).map V.ref)) → Hx O = some (.lst (pox.map V.ref)) → PK Hx (py ++ [p7]) (ty ++ [be c (stG ts ks) j v]) → PK Hx pox tox → tox.length ≤ 65 → okP ux = true → szK ux ≤ 15000 → (∀ k ∈ tox, szT k ≤ 20000) → (∀ h, Ext gx h → ty ++ [be c (stG ts ks) j v] = cY h c (inM ts ks) (stG ts ks) (j + 1) ∧ (j = ts.length → tox ++ [[.inr "row", .inl (el : Int), ux]] = eX h el (inM ts ks) (stG ts ks))) →
       aH (cM (ad (ac 7) (ad (tOp (ba K) (ac 8) (cM (ad (bf (ad (tC (.str "row")) (ad (ac 2) (ad (ac 10) (af))))) (af)))) (af)))) { nx := fun _ H' => Q .non H', rt := Q } [some (.ref f), some (.int (c : Int)), some (.int (el : Int)), some (.ref L), some (.ref P), some (.int (j : Int)), some (.ref M), some (.ref Y), some (.ref O), some (kV v), some (kV ux), x11] Hx := by
     intro Hx gx pox tox ux x11 kbx sx' subx hYx hOx kyx kox lx oux sux sox eqx
     refine ⟨ax (show 3 ≤ 1000000 by decide), fun p9 hp9 => ⟨ax (show 1 ≤ 1000000 by decide), fun N hN => ?_⟩⟩
     have S9 : ao Hx (upd (upd Hx p9 (.tup [.str "row", .int (el : Int), kV ux])) N (.lst [.ref p9])) := (ao.upd hp9).trans (ao.upd hN)
     have hp99 : upd (upd Hx p9 (.tup [.str "row", .int (el : Int), kV ux])) N (.lst [.ref p9]) p9 = some (.tup (([.inr "row", .inl (el : Int), ux] : List Key).map kV)) := ao.upd hN _ _ ag
     have hN9 : upd (upd Hx p9 (.tup [.str "row", .int (el : Int), kV ux])) N (.lst [.ref p9]) N = some (.lst [.ref p9]) := ag
     generalize upd (upd Hx p9 (.tup [.str "row", .int (el : Int), kV ux])) N (.lst [.ref p9]) = H9 at S9 hp99 hN9
     have pxl := bO kox
     refine .inl ⟨O, N, _, _, rfl, rfl, S9 _ _ hOx, hN9, by rw [List.length_map]; exact Nat.le_of_lt (ax (by show pox.length + 1 + 1 ≤ _; omega)), fun O2 hO2 => ⟨ax (show 2 ≤ 1000000 by decide), fun R hR => ?_⟩⟩
     have S11 : ao Hx (upd (upd H9 O2 (.lst (pox.map V.ref ++ [.ref p9]))) R (.lst [.ref Y, .ref O2])) := S9.trans ((ao.upd hO2).trans (ao.upd hR))
     have hOO : upd (upd H9 O2 (.lst (pox.map V.ref ++ [.ref p9]))) R (.lst [.ref Y, .ref O2]) O2 = some (.lst ((pox ++ [p9]).map V.ref)) := by rw [ao.upd hR _ _ ag, gD]
     have hp11 : upd (upd H9 O2 (.lst (pox.map V.ref ++ [.ref p9]))) R (.lst [.ref Y, .ref O2]) p9 = some (.tup (([.inr "row", .inl (el : Int), ux] : List Key).map kV)) := ao.upd hR _ _ (ao.upd hO2 _ _ hp99)
     have sze : szT [.inr "row", .inl (el : Int), ux] ≤ 20000 := by rw [sz3, szW.2.2.2]; show 65 + (62 + szK ux) ≤ _; omega
     refine q R Y O2 (py ++ [p7]) (pox ++ [p9]) (ty ++ [be c (stG ts ks) j v]) (tox ++ [[.inr "row", .inl (el : Int), ux]]) gx _ (((aB.same S0).trans kbx).trans (aB.same S11)) (sx'.same (by omega) S11) subx ag (S11 _ _ hYx) hOO (kyx.keep fun x xs ex => S11 _ _ ex) (cX (kox.keep fun x xs ex => S11 _ _ ex) ⟨hp11, gg (c := el) (by omega) oux⟩) (by rw [List.length_append, llen]; rfl) (by rw [List.length_append]; show 1 ≤ _ + 1; omega) (by rw [List.length_append]; show _ + 1 ≤ _; omega) sy7 (fun k hk => ?_) eqx
     rcases List.mem_append.mp hk with h | h
     · exact sox k h
     · rw [List.mem_singleton.mp h]; exact sze
   refine Sel.dec (fun h => ?_) (fun h => ?_)
   · have e0 : el = 0 := by have h : (el : Int) = 0 := h; omega
     have ets := z0 e0
     have j0 : j = 0 := by rw [ets] at hj; exact Nat.le_zero.mp hj
     have to0 : to = [] := List.length_eq_zero_iff.mp (by omega)
     have po0 : po = [] := List.length_eq_zero_iff.mp (by rw [polen, to0]; rfl)
     refine ⟨.inl ⟨rfl, _, SqL.of hO7⟩, ax (show 1 ≤ 1000000 by decide), fun p9 hp9 => ⟨O, _, _, rfl, rfl, ao.upd hp9 _ _ hO7, by rw [List.length_map]; exact bj (by omega), ?_⟩⟩
     have O9 : p9 ≠ O := Ne.symm (ar hO7 hp9)
     have kz : ∀ z o, z ≠ O → H7 z = some o → upd (upd H7 p9 (.tup [.str "void"])) O (.lst (po.map V.ref ++ [.ref p9])) z = some o := fun z o nz ez => by rw [ak nz]; exact ao.upd hp9 _ _ ez
     have s9 : Stp A (upd (upd H7 p9 (.tup [.str "void"])) O (.lst (po.map V.ref ++ [.ref p9]))) f b d g' (n + j + j) := (s7.same (Nat.le_refl _) (ao.upd hp9)).setL (ao.upd hp9 _ _ hO7)
     have hp99 : upd (upd H7 p9 (.tup [.str "void"])) O (.lst (po.map V.ref ++ [.ref p9])) p9 = some (.tup (([.inr "void"] : List Key).map kV)) := by rw [ak O9]; exact ag
     have hOO : upd (upd H7 p9 (.tup [.str "void"])) O (.lst (po.map V.ref ++ [.ref p9])) O = some (.lst (([p9] : List Addr).map V.ref)) := by rw [ag, po0]; rfl
     generalize upd (upd H7 p9 (.tup [.str "void"])) O (.lst (po.map V.ref ++ [.ref p9])) = H9 at kz s9 hp99 hOO
     have kt9 : ∀ x xs, H7 x = some (.tup xs) → H9 x = some (.tup xs) := fun x xs ex => kz _ _ (bE ex hO7 (fun z => nomatch z)) ex
     have kb9 : aB b H0 H9 := fun z o nz ez => kz _ _ (ar ez l.nO) (kb7 _ _ nz ez)
     have hY9 := kz _ _ l.yo hYY
     refine ⟨f, rfl, s9.clo, ax (show 1 ≤ 1000000 by decide), fun p10 hp10 => ?_⟩
     have S10 := ao.upd (o := .tup [.str "void"]) hp10
     have s10 := s9.same (Nat.le_refl _) S10
     have hk10 : upd H9 p10 (.tup [.str "void"]) p10 = some (.tup (([.inr "void"] : List Key).map kV)) := ag
     have hY10 := S10 _ _ hY9
     have hO10 := S10 _ _ hOO
     have hp10' := S10 _ _ hp99
     have ky10 := (ky7.keep kt9).keep (fun x xs ex => S10 _ _ ex)
     generalize upd H9 p10 (.tup [.str "void"]) = H10 at S10 s10 hk10 hY10 hO10 hp10' ky10
     dsimp only [af]
     refine cF s10 (by omega) hk10 gE fun ux H12 g12 kb12 s12 sub12 gv st12 => ?_
     have svx := iP st12
     have szv : szT ([.inr "void"] : List Key) = 66 := by rw [sz1, szW.1]
     refine fin H12 g12 [p9] [[.inr "void"]] ux _ ((kb9.trans (aB.same S10)).trans kb12) (s12.same (by omega) (.refl _)) (l.sub.trans sub12) (kb12.obj s10.bb hY10 (fun _ z => nomatch z)) (kb12.obj s10.bb hO10 (fun _ z => nomatch z)) (ky10.keep (aB.tup s10 kb12)) (.cons ⟨kb12.obj s10.bb hp10' (fun _ z => nomatch z), gE⟩ .nil) (by decide) (dW st12 (by omega)) (by omega) (fun k hk => by rw [List.mem_singleton.mp hk]; omega) fun h eh => ⟨ey7 h (Ext.of sub12 eh), fun _ => ?_⟩
     unfold eX gy
     rw [if_pos e0, if_pos e0, eh _ _ gv]
   · have e0 : ¬ el = 0 := by have h : ¬ (el : Int) = 0 := h; omega
     refine fin H7 g' po to u _ kb7 (s7.same (by omega) (.refl _)) l.sub hYY hO7 ky7 ko7 (by omega) l.ou (by omega) l.so fun h eh => ⟨ey7 h eh, fun ej => ?_⟩
     obtain ⟨_, _, a3, a4⟩ := l.eq h eh
     unfold eX gy
     rw [if_neg e0, if_neg e0, slen, ← ej, ← a3, ← a4]
end Rs
namespace Rs
open PySem PySem.Spec PyProof.Rows L2
variable {K : W.Frag} {mg : Str → Option Value} {A : Adr}
theorem Cu (K : W.Frag) (A : Adr) : Ln (nV K A) 3 := by rintro vs H Q E ⟨k, c, P, ks, rfl, _⟩; rfl
theorem El (T : Txt K mg A) : Rd (nV K A) (T_5 K A) ["_law_kind", "_law_cell", "_law_marks", "_law_spot", "_law_thing", "_law_found"] := by
 intro vs H Q E h
 obtain ⟨k, c, P, ks, rfl, hP, ke, l1, l61, q⟩ := h
 have lz : ∀ m : Nat, m ≤ 200 → m ≤ sizeLine := fun m hm => Nat.le_of_lt (ax (by omega))
 have ll : (ks.map kV).length = ks.length := List.length_map ..
 refine .inl (.inr (.inl ⟨_, SqT.of hP, ?_⟩))
 rw [List.length_map]
 have r0 := Int.emod_nonneg c (b := (ks.length : Int)) (by omega)
 have r1 := Int.emod_lt_of_pos c (b := (ks.length : Int)) (by omega)
 refine ⟨by omega, ?_⟩
 obtain ⟨sp, hsp⟩ := Int.eq_ofNat_of_zero_le r0
 rw [hsp]
 have spl : sp < ks.length := by omega
 refine Sel.dec (fun h => ?_) (fun h0 => ?_)
 · refine ⟨1, rfl, .inl (.inr ⟨P, _, rfl, hP, fun p1 H2 S2 hp1 => ?_⟩)⟩
   refine ⟨1, rfl, .inl (.inr ⟨P, _, rfl, S2 _ _ hP, fun p2 H3 S3 hp2 => ?_⟩)⟩
   have hp1 : H3 p1 = some (.tup ((ks.drop 1).map kV)) := by rw [S3 _ _ hp1, List.map_drop]; exact congrArg (fun z => some (HO.tup z)) (jh _ 1 (by omega))
   have hp2 : H3 p2 = some (.tup ((ks.take 1).map kV)) := by rw [hp2, List.map_take]; exact congrArg (fun z => some (HO.tup z)) (lc _ 1 (by omega))
   refine .inr ⟨p1, p2, _, _, rfl, rfl, hp1, hp2, lz _ (by simp; omega), fun p3 H4 S4 hp3 => ?_⟩
   rw [← List.map_append] at hp3
   refine q p3 _ H4 ((S2.trans S3).trans S4) hp3 (fun x hx => ?_) (by simp; omega)
   rcases List.mem_append.mp hx with h | h
   · exact ke x (List.mem_of_mem_drop h)
   · exact ke x (List.mem_of_mem_take h)
 refine Sel.dec (fun h => ?_) (fun h1 => ?_)
 · refine ⟨P, _, rfl, SqT.of hP, fun l hl => ?_⟩
   exact q l ks.reverse _ (ao.upd hl) (by rw [ag, List.map_reverse]) (fun x hx => ke x (List.mem_reverse.mp hx)) (List.length_reverse ..)
 obtain ⟨kk, hkk⟩ : ∃ kk, ks[sp]? = some kk := ⟨_, List.getElem?_eq_getElem spl⟩
 have ekk := ke kk (List.mem_of_getElem? hkk)
 refine ixT (j := sp) hP rfl (by rw [List.getElem?_map, hkk]; rfl) ⟨kk, rfl, ekk, fun t1 H1 S1 et1 => ?_⟩
 have mid : ∀ {H2 : Hp} (t : Key), ao H H2 → enK t → Bh K A { nx := fun _ H' => Q .non H', rt := Q } [some (.int k), some (.int c), some (.ref P), some (.int (sp : Int)), some (kV t), none] H2 := by
   intro H2 t S2 et
   refine ⟨(sp : Int), rfl, .inl (.inr ⟨P, _, rfl, S2 _ _ hP, fun p1 H3 S3 hp1 => ?_⟩)⟩
   refine ⟨by show 1 ≤ sizeLine; decide, fun t4 h4 => ?_⟩
   have S4 := ao.upd (o := .tup [kV t]) h4
   have hp1 : upd H3 t4 (.tup [kV t]) p1 = some (.tup ((ks.take sp).map kV)) := by rw [S4 _ _ hp1, List.map_take]; exact congrArg (fun z => some (HO.tup z)) (lc _ sp (by omega))
   refine .inr ⟨p1, t4, _, [kV t], rfl, rfl, hp1, ag, lz _ (by simp; omega), fun p5 H5 S5 hp5 => ?_⟩
   have S15 := (((S2.trans S3).trans S4).trans S5)
   refine ⟨(sp : Int) + 1, rfl, .inl (.inr ⟨P, _, rfl, S15 _ _ hP, fun p6 H6 S6 hp6 => ?_⟩)⟩
   have hp6 : H6 p6 = some (.tup ((ks.drop (sp + 1)).map kV)) := by rw [hp6, List.map_drop]; exact congrArg (fun z => some (HO.tup z)) (jh _ (sp + 1) (by omega))
   refine .inr ⟨p5, p6, _, _, rfl, rfl, S6 _ _ hp5, hp6, lz _ (by simp; omega), fun p7 H7 S7 hp7 => ?_⟩
   have e7 : (ks.take sp).map kV ++ [kV t] ++ (ks.drop (sp + 1)).map kV = (ks.take sp ++ [t] ++ ks.drop (sp + 1)).map kV := by simp
   rw [e7] at hp7
   have S17 := (S15.trans S6).trans S7
   have kf : ∀ x ∈ ks.take sp ++ [t] ++ ks.drop (sp + 1), enK x := fun x hx => by
     rcases List.mem_append.mp hx with h | h
     · rcases List.mem_append.mp h with h | h
       · exact ke x (List.mem_of_mem_take h)
       · rw [List.mem_singleton.mp h]; exact et
     · exact ke x (List.mem_of_mem_drop h)
   have lf : (ks.take sp ++ [t] ++ ks.drop (sp + 1)).length = ks.length := by simp; omega
   generalize ks.take sp ++ [t] ++ ks.drop (sp + 1) = fs at hp7 kf lf
   refine Sel.dec (fun h => ?_) (fun h => q p7 fs H7 S17 hp7 kf lf)
   obtain ⟨k0, hk0⟩ : ∃ k0, ks[0]? = some k0 := ⟨_, List.getElem?_eq_getElem (by omega)⟩
   refine ixT (j := 0) (S17 _ _ hP) rfl (by rw [List.getElem?_map, hk0]; rfl) ⟨k0, rfl, ke k0 (List.mem_of_getElem? hk0), fun e0 H8 S8 ee0 => ⟨by show 1 ≤ sizeLine; decide, fun t9 h9 => ?_⟩⟩
   have S9 := ao.upd (o := .tup [kV e0]) h9
   have ht9 : upd H8 t9 (.tup [kV e0]) t9 = some (.tup [kV e0]) := ag
   refine ⟨1, rfl, .inl (.inr ⟨p7, _, rfl, S9 _ _ (S8 _ _ hp7), fun p10 H10 S10 hp10 => ?_⟩)⟩
   have hp10 : H10 p10 = some (.tup ((fs.drop 1).map kV)) := by rw [hp10, List.map_drop]; exact congrArg (fun z => some (HO.tup z)) (jh _ 1 (by rw [List.length_map]; omega))
   refine .inr ⟨t9, p10, [kV e0], _, rfl, rfl, S10 _ _ ht9, hp10, lz _ (by simp; omega), fun p11 H11 S11 hp11 => ?_⟩
   refine q p11 (e0 :: fs.drop 1) H11 (((((S17.trans S8).trans S9).trans S10).trans S11)) (by rw [hp11]; rfl) (fun x hx => ?_) (by simp; omega)
   rcases List.mem_cons.mp hx with rfl | h
   · exact ee0
   · exact kf x (List.mem_of_mem_drop h)
 refine Sel.dec (fun h => ?_) (fun h => ?_)
 · exact ⟨⟨by decide, by decide⟩, _, rfl, fun t2 H2 S2 et2 => mid t2 (S1.trans S2) et2⟩
 · exact mid t1 S1 et1
theorem nJ : ∀ (ts : List Int) (lo hi : Nat) (ks ks' : List Key), hi = lo + ts.length + 1 → dl ts lo hi ks = dl ts lo hi ks' → ∀ i, lo ≤ i → i < hi → ks[i]? = ks'[i]?
  | [], lo, hi, ks, ks', h, e, i, h1, h2 => by
    rw [dl, dl] at e
    have : i = lo := by simp at h; omega
    subst this
    exact (List.cons.inj e).1
  | t :: r, lo, hi, ks, ks', h, e, i, h1, h2 => by
    rw [List.length_cons] at h
    rw [dl, dl] at e
    split at e
    · obtain ⟨e1, e2⟩ := List.cons.inj e
      by_cases hi' : i = lo
      · subst hi'; exact e1
      · exact nJ r (lo + 1) hi ks ks' (by omega) e2 i (by omega) h2
    · obtain ⟨e1, e2⟩ := List.cons.inj e
      by_cases hi' : i = hi - 1
      · subst hi'; exact e1
      · exact nJ r lo (hi - 1) ks ks' (by omega) e2 i h1 (by omega)
theorem lp {ts : List Int} {ks : List Key} (kl : ks.length = ts.length + 1) : dl ts 0 ks.length ks = (bx ts ks).map some := by
 unfold bx
 rw [List.map_map]
 conv => lhs; rw [← List.map_id (dl ts 0 ks.length ks)]
 refine List.map_congr_left fun x hx => ?_
 obtain ⟨k, _, rfl⟩ := jI ts 0 ks.length ks (by omega) (Nat.le_refl _) x hx
 rfl
theorem vL {ts : List Int} {ks ks' : List Key} (l1 : ks.length = ts.length + 1) (l2 : ks'.length = ts.length + 1) (e : bx ts ks = bx ts ks') : ks = ks' := by
 have e1 : dl ts 0 ks.length ks = dl ts 0 ks.length ks' := by rw [lp l1, e, ← lp l2, l1, l2]
 refine List.ext_getElem? fun i => ?_
 by_cases hi : i < ks.length
 · exact nJ ts 0 ks.length ks ks' (by omega) e1 i (Nat.zero_le _) hi
 · rw [List.getElem?_eq_none (by omega), List.getElem?_eq_none (by omega)]
theorem tW {h : List Key → Key} {c : Int} {m m' : Key} {st st' : List (Int × Key)} (ht : st.map (·.1) = st'.map (·.1)) (n : Nat) (hn : n ≤ st.length)
    (hc : ∀ i, i < n → h (cB h c m st i) = h (cB h c m' st' i) → cB h c m st i = cB h c m' st' i) (hl : cB h c m st n = cB h c m' st' n) : m = m' ∧ ∀ j, j ≤ n → st[j]? = st'[j]? := by
  have hlen : st.length = st'.length := by have := congrArg List.length ht; simpa using this
  have step : ∀ n v v', n ≤ st.length → be c st n v = be c st' n v' → v = v' ∧ st[n]? = st'[n]? := by
    intro n v v' hn hl
    by_cases hn2 : n < st.length
    · have e1 : st[n]? = some st[n] := List.getElem?_eq_getElem hn2
      have e2 : st'[n]? = some (st'[n]'(by omega)) := List.getElem?_eq_getElem (by omega)
      have et : (st[n]).1 = (st'[n]'(by omega)).1 := by
        have := congrArg (fun l => l[n]?) ht
        simp only [List.getElem?_map, e1, e2, Option.map_some, Option.some.injEq] at this
        exact this
      unfold be at hl
      rw [e1, e2] at hl
      dsimp only at hl
      rw [← et] at hl
      obtain ⟨hv, ha⟩ := zg hl
      exact ⟨hv, by rw [e1, e2]; exact congrArg some (Prod.ext et ha)⟩
    · have e1 : st[n]? = none := List.getElem?_eq_none (by omega)
      have e2 : st'[n]? = none := List.getElem?_eq_none (by omega)
      unfold be at hl
      rw [e1, e2] at hl
      exact ⟨by injection hl with _ hl; injection hl with _ hl; injection hl, by rw [e1, e2]⟩
  induction n with
  | zero =>
    obtain ⟨a, b⟩ := step 0 m m' hn hl
    exact ⟨a, fun j hj => by rw [Nat.le_zero.mp hj]; exact b⟩
  | succ n ih =>
    obtain ⟨a, b⟩ := step (n + 1) _ _ hn hl
    obtain ⟨r1, r2⟩ := ih (by omega) (fun i hi => hc i (by omega)) (hc n (by omega) a)
    refine ⟨r1, fun j hj => ?_⟩
    by_cases e : j = n + 1
    · rw [e]; exact b
    · exact r2 j (by omega)
theorem pM (ts : List Int) (ks : List Key) : (stG ts ks).map (·.1) = ts.reverse := by
 unfold stG stR
 rw [List.map_reverse, show (fun x : Int × Key => x.1) = Prod.fst from rfl, List.map_fst_zip (by rw [cv]; omega)]
theorem qm {h : List Key → Key} {c : Int} {ts : List Int} {ks ks' : List Key} (l1 : ks.length = ts.length + 1) (l2 : ks'.length = ts.length + 1)
   (hc : ∀ a b, a ∈ cY h c (inM ts ks) (stG ts ks) (ts.length + 1) → b ∈ cY h c (inM ts ks') (stG ts ks') (ts.length + 1) → h a = h b → a = b)
   (hl : h (cB h c (inM ts ks) (stG ts ks) ts.length) = h (cB h c (inM ts ks') (stG ts ks') ts.length)) : ks = ks' := by
 have s1 : (stG ts ks).length = ts.length := dy (cv ts ks)
 have s2 : (stG ts ks').length = ts.length := dy (cv ts ks')
 have m : ∀ (ks : List Key) (i : Nat), i ≤ ts.length → cB h c (inM ts ks) (stG ts ks) i ∈ cY h c (inM ts ks) (stG ts ks) (ts.length + 1) := fun ks i hi => by
   unfold cY; exact List.mem_map.mpr ⟨i, List.mem_range.mpr (by omega), rfl⟩
 obtain ⟨r1, r2⟩ := tW (by rw [pM, pM]) ts.length (by omega) (fun i hi q => hc _ _ (m _ i (by omega)) (m _ i (by omega)) q) (hc _ _ (m _ _ (Nat.le_refl _)) (m _ _ (Nat.le_refl _)) hl)
 refine vL l1 l2 ?_
 have es : stG ts ks = stG ts ks' := List.ext_getElem? fun j => by
   by_cases hj : j ≤ ts.length
   · exact r2 j hj
   · rw [List.getElem?_eq_none (by omega), List.getElem?_eq_none (by omega)]
 have ez : ts.zip (bx ts ks) = ts.zip (bx ts ks') := by unfold stG stR at es; exact List.reverse_inj.mp es
 refine List.ext_getElem? fun i => ?_
 have d1 := cv ts ks
 have d2 := cv ts ks'
 rcases Nat.lt_trichotomy i ts.length with hi | hi | hi
 · have z : ∀ (l : List Key), i < l.length → ((ts.zip l)[i]?).map (·.2) = l[i]? := fun l hl => by
     rw [List.getElem?_eq_getElem (by rw [List.length_zip]; omega), List.getElem_zip, List.getElem?_eq_getElem hl]; rfl
   rw [← z _ (by omega), ← z _ (by omega), ez]
 · subst hi
   have i1 : inM ts ks = (bx ts ks)[ts.length]'(by omega) := by unfold inM; rw [List.getElem?_eq_getElem (by omega)]; rfl
   have i2 : inM ts ks' = (bx ts ks')[ts.length]'(by omega) := by unfold inM; rw [List.getElem?_eq_getElem (by omega)]; rfl
   rw [List.getElem?_eq_getElem (by omega), List.getElem?_eq_getElem (by omega), ← i1, ← i2, r1]
 · rw [List.getElem?_eq_none (by omega), List.getElem?_eq_none (by omega)]
end Rs
namespace Rs
open PySem PySem.Spec PyProof.Rows L2
variable {K : W.Frag} {mg : Str → Option Value} {A : Adr}
structure Bo (H : Hp) (R Y O : Addr) (py po : List Addr) (ty to : List (List Key)) (k : Nat) : Prop where
 r : H R = some (.lst [.ref Y, .ref O])
 y : H Y = some (.lst (py.map V.ref))
 o : H O = some (.lst (po.map V.ref))
 ky : PK H py ty
 ko : PK H po to
 ly : ty.length = k + 1
 l1 : 1 ≤ to.length
 lo : to.length ≤ 70
 sy : ∀ k ∈ ty, szT k ≤ 20000
 so : ∀ k ∈ to, szT k ≤ 20000
structure Lw (A : Adr) (H : Hp) (f b P P2 R1 R2 : Addr) (d : Kd) (c el : Nat) (ks ks2 : List Key) (mk cm : Key) (Y1 O1 Y2 O2 : Addr) (py1 po1 py2 po2 : List Addr) (ty1 to1 ty2 to2 : List (List Key)) (g : List Key → Option Key) (n : Nat) : Prop where
 p1 : cU A H f b P d c el (aC c el) ks g n
 p2 : cU A H f b P2 d c el (aC c el) ks2 g n
 b1 : Bo H R1 Y1 O1 py1 po1 ty1 to1 (aC c el).length
 b2 : Bo H R2 Y2 O2 py2 po2 ty2 to2 (aC c el).length
 q1 : ∀ h, Ext g h → ty1 = cY h c (inM (aC c el) ks) (stG (aC c el) ks) ((aC c el).length + 1) ∧ to1 = eX h el (inM (aC c el) ks) (stG (aC c el) ks)
 q2 : ∀ h, Ext g h → ty2 = cY h c (inM (aC c el) ks2) (stG (aC c el) ks2) ((aC c el).length + 1) ∧ to2 = eX h el (inM (aC c el) ks2) (stG (aC c el) ks2)
 om : okP mk = true
 oc : okP cm = true
 em : ∀ h, Ext g h → mk = h (cB h c (inM (aC c el) ks) (stG (aC c el) ks) (aC c el).length)
 ec : ∀ h, Ext g h → cm = h (cB h c (inM (aC c el) ks2) (stG (aC c el) ks2) (aC c el).length)
theorem Bo.keep {H H' : Hp} {R Y O : Addr} {py po : List Addr} {ty to : List (List Key)} {k : Nat} (b : Bo H R Y O py po ty to k) (kt : ∀ x xs, H x = some (.tup xs) → H' x = some (.tup xs)) (kl : ∀ x xs, H x = some (.lst xs) → H' x = some (.lst xs)) : Bo H' R Y O py po ty to k :=
 ⟨kl _ _ b.r, kl _ _ b.y, kl _ _ b.o, b.ky.keep kt, b.ko.keep kt, b.ly, b.l1, b.lo, b.sy, b.so⟩
theorem aB.lst {H H' : Hp} {f b : Addr} {d : Kd} {g : List Key → Option Key} {n : Nat} (s : Stp A H f b d g n) (k : aB b H H') : ∀ x xs, H x = some (.lst xs) → H' x = some (.lst xs) := fun x xs e => k _ _ (s.nb e (fun _ z => nomatch z) (fun _ z => nomatch z)) e
section
variable {H H' : Hp} {f b P P2 R1 R2 Y1 O1 Y2 O2 : Addr} {d : Kd} {c el : Nat} {ks ks2 : List Key} {mk cm : Key} {py1 po1 py2 po2 : List Addr} {ty1 to1 ty2 to2 : List (List Key)} {g g' : List Key → Option Key} {n m : Nat}
theorem Lw.kb (l : Lw A H f b P P2 R1 R2 d c el ks ks2 mk cm Y1 O1 Y2 O2 py1 po1 py2 po2 ty1 to1 ty2 to2 g n) (k : aB b H H') (s : Stp A H' f b d g' m) (sub : Sub g g') (hm : m + 400 ≤ 40000) : Lw A H' f b P P2 R1 R2 d c el ks ks2 mk cm Y1 O1 Y2 O2 py1 po1 py2 po2 ty1 to1 ty2 to2 g' m :=
 ⟨l.p1.kb k s hm, l.p2.kb k s hm, l.b1.keep (aB.tup l.p1.s k) (aB.lst l.p1.s k), l.b2.keep (aB.tup l.p1.s k) (aB.lst l.p1.s k), fun h eh => l.q1 h (Ext.of sub eh), fun h eh => l.q2 h (Ext.of sub eh), l.om, l.oc, fun h eh => l.em h (Ext.of sub eh), fun h eh => l.ec h (Ext.of sub eh)⟩
theorem Lw.same (l : Lw A H f b P P2 R1 R2 d c el ks ks2 mk cm Y1 O1 Y2 O2 py1 po1 py2 po2 ty1 to1 ty2 to2 g n) (S : ao H H') : Lw A H' f b P P2 R1 R2 d c el ks ks2 mk cm Y1 O1 Y2 O2 py1 po1 py2 po2 ty1 to1 ty2 to2 g n :=
 l.kb (aB.same S) (l.p1.s.same (Nat.le_refl _) S) Sub.rfl' l.p1.hn
theorem Lw.one (l : Lw A H f b P P2 R1 R2 d c el ks ks2 mk cm Y1 O1 Y2 O2 py1 po1 py2 po2 ty1 to1 ty2 to2 g n) (em : cm = mk) {h : List Key → Key} (eh : Ext g h) (hd : qX h (((ty1 ++ to1) ++ ty2) ++ to2) none) : ks = ks2 := by
 have hl : h (cB h c (inM (aC c el) ks) (stG (aC c el) ks) (aC c el).length) = h (cB h c (inM (aC c el) ks2) (stG (aC c el) ks2) (aC c el).length) := by rw [← l.em h eh, ← l.ec h eh, em]
 refine qm (h := h) (c := c) l.p1.kl l.p2.kl (fun a b ha hb hab => ?_) hl
 rw [← (l.q1 h eh).1] at ha
 rw [← (l.q2 h eh).1] at hb
 obtain ⟨i, hi⟩ := List.mem_iff_getElem?.mp ha
 obtain ⟨j, hj⟩ := List.mem_iff_getElem?.mp hb
 have il := (List.getElem?_eq_some_iff.mp hi).1
 have jl := (List.getElem?_eq_some_iff.mp hj).1
 refine hd i ((ty1 ++ to1).length + j) a b (by rw [List.length_append]; omega) ?_ ?_ hab
 · rw [List.getElem?_append_left (by simp; omega), List.getElem?_append_left (by simp; omega), List.getElem?_append_left il]; exact hi
 · rw [List.getElem?_append_left (by simp; omega), List.getElem?_append_right (by omega), Nat.add_sub_cancel_left]; exact hj
variable {Q : VK} {a B D W N hd18 : Addr} {w : Int} {x12 x13 x16 x17 : Option V}
structure To (H : Hp) (r : Addr) (el c : Nat) (ks2 : List Key) (mk cm : Key) (g : List Key → Option Key) : Prop where
 y : cm = mk → ∃ u, okP u = true ∧ H r = some (.tup [.str "mark", kV u]) ∧ ∀ h, Ext g h → u = h (gy h el (inM (aC c el) ks2) (stG (aC c el) ks2))
 n : cm ≠ mk → H r = some (.tup [.str "broken", kV mk, kV cm])
theorem zH : okP (.inr "mark") = true := by decide +kernel
theorem wI (hq : ∀ H', Q (.bl true) H') (l : Lw A H f b P P2 R1 R2 d c el ks ks2 mk cm Y1 O1 Y2 O2 py1 po1 py2 po2 ty1 to1 ty2 to2 g n) (hn : n + 1000 ≤ 30000) (t : To H hd18 el c ks2 mk cm g) (w3 : w ≤ 3) (hdue : w = 3 → cm = mk → ks = ks2) (hN : H N = some (.lst (((py1 ++ po1) ++ py2 ++ po2).map V.ref))) :
    pb K A { nx := fun _ H' => Q .non H', rt := Q } [some (.ref a), some (.int w), some (.ref B), some (.ref D), some (.ref f), some (.int (c : Int)), some (.int (el : Int)), some (.ref W), some (.ref P), some (.ref R1), some (kV mk), some (.ref P2), x12, x13, some (.ref R2), some (kV cm), x16, x17, some (.ref hd18), some (.ref N)] H := by
  have tl60 := l.p1.tl
  refine lF ?_
  by_cases ec : cm = mk
  · refine Sel.no (by rw [decide_eq_true ec]; rfl) ?_
    obtain ⟨u, oku, h18, eu⟩ := t.y ec
    obtain ⟨ro, t2, eto⟩ := gC (tt := to2) l.b2.l1
    have ko2 := l.b2.ko
    have ho2 := l.b2.o
    have so2 := l.b2.so
    rw [eto] at ko2
    obtain ⟨qo, po', epo, ko'⟩ := dO ko2
    obtain ⟨hpo, oko⟩ := dR (eG ko') ko'
    rw [epo, List.map_append] at ho2
    refine ⟨f, rfl, l.p1.s.clo, ixL (j := 1) l.b2.r rfl rfl (cE ho2 ?_)⟩
    dsimp only [af]
    refine cF l.p1.s (by omega) hpo oko fun u' H1 g1 kb1 s1 sub1 gv st => ?_
    have l1 := l.kb kb1 s1 sub1 (by omega)
    have e1 : u = u' := by
      have x := Ext.refl' g1
      have eo := (l1.q2 _ x).2
      rw [eto] at eo
      rw [eu _ (Ext.of sub1 x), ← iu eo]
      exact x _ _ gv
    subst e1
    have h181 := kb1.obj l.p1.s.bb h18 (fun _ z => nomatch z)
    have hN1 := kb1.obj l.p1.s.bb hN (fun _ z => nomatch z)
    refine ⟨ax (show 2 ≤ 1000000 by decide), fun tt ht => ?_⟩
    have S2 := ao.upd (o := .tup [.str "mark", kV u]) ht
    have ht2 : upd H1 tt (.tup [.str "mark", kV u]) tt = some (.tup (([.inr "mark", u] : List Key).map kV)) := ag
    have h182 : upd H1 tt (.tup [.str "mark", kV u]) hd18 = some (.tup (([.inr "mark", u] : List Key).map kV)) := S2 _ _ h181
    have l2 := l1.same S2
    have hN2 := S2 _ _ hN1
    generalize upd H1 tt (.tup [.str "mark", kV u]) = H2 at S2 ht2 h182 l2 hN2
    have st2 : ([.inr "mark", u] : List Key).all gj = true := oO fun k hk => by
      rcases List.mem_cons.mp hk with rfl | hk
      · exact zH
      · rw [List.mem_singleton.mp hk]; exact oku
    refine ⟨_, _, cx h182, cx ht2, bi st2, bi st2, nR _, Sel.mk (fun z => (iz z rfl).elim) (fun _ => ?_)⟩
    refine ixT (j := 1) h182 rfl rfl ?_
    have fin : pC K A { nx := fun _ H' => Q .non H', rt := Q } [some (.ref a), some (.int w), some (.ref B), some (.ref D), some (.ref f), some (.int (c : Int)), some (.int (el : Int)), some (.ref W), some (.ref P), some (.ref R1), some (kV mk), some (.ref P2), x12, x13, some (.ref R2), some (kV cm), x16, x17, some (.ref hd18), some (.ref N)] H2 := by
      refine iE l2.p2.w l2.p1.w (Sel.dec (fun _ => hq _) (fun ne => ?_))
      have lt3 : w < 3 := by
        by_cases h : w < 3
        · exact h
        · exact absurd (hdue (by omega) ec).symm ne
      refine Sel.yes (decide_eq_true lt3) ?_
      have pk2 := fB (fB (fB l2.b1.ky l2.b1.ko) l2.b2.ky) l2.b2.ko
      have ll : (((ty1 ++ to1) ++ ty2) ++ to2).length ≤ 900 := by
        have := l.b1.ly; have := l.b2.ly; have := l.b1.lo; have := l.b2.lo
        simp; omega
      refine ⟨f, b, N, d, _, _, g1, n + 1, rfl, l2.p1.s, hN2, pk2, ll, by omega, fun v H3 g3 r kb3 s3 sub3 ret due => ?_⟩
      cases r with
      | none =>
        have x := Ext.refl' g3
        exact absurd (l2.one ec (Ext.of sub3 x) (due _ x)).symm ne
      | some r =>
        have hN3 := kb3.obj l2.p1.s.bb hN2 (fun _ z => nomatch z)
        have pk3 := pk2.keep (aB.tup l2.p1.s kb3)
        have mem : r.1 ∈ ((ty1 ++ to1) ++ ty2) ++ to2 ∧ r.2 ∈ ((ty1 ++ to1) ++ ty2) ++ to2 ∧ r.1 ≠ r.2 := by
          obtain ⟨j, k, _, h1, h2, h3, _⟩ := due _ (Ext.refl' g3)
          exact ⟨List.mem_of_getElem? h1, List.mem_of_getElem? h2, h3⟩
        exact ⟨f, b, N, d, _, _, r, v, g3, _, rfl, s3, hN3, pk3, ll, by omega, ret, mem.1, mem.2.1, mem.2.2, fun h eh => by
          obtain ⟨j, k, _, _, _, _, h4, _⟩ := due h eh
          exact h4, hq⟩
    cases u with
    | inl i => exact ⟨by decide, "int", rfl, Sel.no rfl fin⟩
    | inr z => exact ⟨by decide, "str", rfl, Sel.no rfl fin⟩
  · refine Sel.yes (by rw [decide_eq_false ec]; rfl) ?_
    have h18 := t.n ec
    refine ⟨ax (show 3 ≤ 1000000 by decide), fun tt ht => ?_⟩
    have S1 := ao.upd (o := .tup [.str "broken", kV mk, kV cm]) ht
    refine iE (k := [.inr "broken", mk, cm]) (l := [.inr "broken", mk, cm]) (S1 _ _ h18) ag ?_
    rw [decide_eq_true rfl]; exact hq _
theorem wj (hq : ∀ H', Q (.bl true) H') {x19 : Option V} (l : Lw A H f b P P2 R1 R2 d c el ks ks2 mk cm Y1 O1 Y2 O2 py1 po1 py2 po2 ty1 to1 ty2 to2 g n) (hn : n + 2000 ≤ 30000) (t : To H hd18 el c ks2 mk cm g) (w3 : w ≤ 3) (hs : w = 3 → d.sure) :
   oP K A { nx := fun _ H' => Q .non H', rt := Q } [some (.ref a), some (.int w), some (.ref B), some (.ref D), some (.ref f), some (.int (c : Int)), some (.int (el : Int)), some (.ref W), some (.ref P), some (.ref R1), some (kV mk), some (.ref P2), x12, x13, some (.ref R2), some (kV cm), x16, x17, some (.ref hd18), x19] H := by
 have tl60 := l.p1.tl
 have a1 := bO l.b1.ky; have a2 := bO l.b1.ko; have a3 := bO l.b2.ky; have a4 := bO l.b2.ko
 have b1 := l.b1.ly; have b2 := l.b2.ly; have b3 := l.b1.lo; have b4 := l.b2.lo
 have lz : ∀ m : Nat, m ≤ 900 → m ≤ sizeLine := fun m hm => Nat.le_of_lt (ax (by omega))
 refine ixL (j := 0) l.b1.r rfl rfl (ixL (j := 1) l.b1.r rfl rfl (.inl ⟨Y1, O1, _, _, rfl, rfl, l.b1.y, l.b1.o, lz _ (by simp; omega), fun n1 hn1 => ?_⟩))
 have S1 := ao.upd (o := .lst (py1.map V.ref ++ po1.map V.ref)) hn1
 have h1 : upd H n1 (.lst (py1.map V.ref ++ po1.map V.ref)) n1 = some (.lst (py1.map V.ref ++ po1.map V.ref)) := ag
 have l1 := l.same S1
 generalize upd H n1 (.lst (py1.map V.ref ++ po1.map V.ref)) = H1 at S1 h1 l1
 refine ixL (j := 0) l1.b2.r rfl rfl (.inl ⟨n1, Y2, _, _, rfl, rfl, h1, l1.b2.y, lz _ (by simp; omega), fun n2 hn2 => ?_⟩)
 have S2 := ao.upd (o := .lst (py1.map V.ref ++ po1.map V.ref ++ py2.map V.ref)) hn2
 have h2 : upd H1 n2 (.lst (py1.map V.ref ++ po1.map V.ref ++ py2.map V.ref)) n2 = some (.lst (py1.map V.ref ++ po1.map V.ref ++ py2.map V.ref)) := ag
 have l2 := l1.same S2
 generalize upd H1 n2 (.lst (py1.map V.ref ++ po1.map V.ref ++ py2.map V.ref)) = H2 at S2 h2 l2
 refine ixL (j := 1) l2.b2.r rfl rfl (.inl ⟨n2, O2, _, _, rfl, rfl, h2, l2.b2.o, lz _ (by simp; omega), fun N hN => ?_⟩)
 have S3 := ao.upd (o := .lst (py1.map V.ref ++ po1.map V.ref ++ py2.map V.ref ++ po2.map V.ref)) hN
 have h3 : upd H2 N (.lst (py1.map V.ref ++ po1.map V.ref ++ py2.map V.ref ++ po2.map V.ref)) N = some (.lst (((py1 ++ po1) ++ py2 ++ po2).map V.ref)) := by rw [ag]; simp
 have l3 := l2.same S3
 have S13 := S1.trans (S2.trans S3)
 have t3 : To (upd H2 N (.lst (py1.map V.ref ++ po1.map V.ref ++ py2.map V.ref ++ po2.map V.ref))) hd18 el c ks2 mk cm g := ⟨fun e => let ⟨u, o, hu, eu⟩ := t.y e; ⟨u, o, S13 _ _ hu, eu⟩, fun e => S13 _ _ (t.n e)⟩
 generalize upd H2 N (.lst (py1.map V.ref ++ po1.map V.ref ++ py2.map V.ref ++ po2.map V.ref)) = H3 at S3 h3 l3 t3
 refine Sel.dec (fun ew => ?_) (fun ew => ?_)
 · have ew : w = 3 := ew
   have pk2 := fB (fB (fB l3.b1.ky l3.b1.ko) l3.b2.ky) l3.b2.ko
   have ll : (((ty1 ++ to1) ++ ty2) ++ to2).length ≤ 900 := by simp; omega
   refine ⟨f, b, N, d, _, _, g, n, rfl, l3.p1.s, h3, pk2, ll, by omega, fun v H4 g4 r kb4 s4 sub4 ret due => ?_⟩
   have er : r = none := uC (fun k k' v o o' h h' => s4.inj (hs ew) o o' h h') (Bd (pk2.keep (aB.tup l3.p1.s kb4))) due
   subst er
   have ret : v = .non := ret
   subst ret
   refine Sel.no rfl ?_
   have l4 := l3.kb kb4 s4 sub4 (by omega)
   refine wI hq l4 (by omega) ⟨fun e => let ⟨u, o, hu, eu⟩ := t3.y e; ⟨u, o, kb4.obj l3.p1.s.bb hu (fun _ z => nomatch z), fun h eh => eu h (Ext.of sub4 eh)⟩, fun e => kb4.obj l3.p1.s.bb (t3.n e) (fun _ z => nomatch z)⟩ w3 (fun _ ec => ?_) (kb4.obj l3.p1.s.bb h3 (fun _ z => nomatch z))
   have x := Ext.refl' g4
   exact l4.one ec x (due _ x)
 · have ew : ¬ w = 3 := ew
   exact Sel.no rfl (wI hq l3 (by omega) t3 w3 (fun h => absurd h ew) h3)
end
end Rs
namespace Rs
open PySem PySem.Spec PyProof.Rows L2
variable {K : W.Frag} {mg : Str → Option Value} {A : Adr}
variable {H H' : Hp} {f b P P2 R1 R2 Y1 O1 Y2 O2 : Addr} {d : Kd} {c el : Nat} {ks ks2 : List Key} {mk cm : Key} {py1 po1 py2 po2 : List Addr} {ty1 to1 ty2 to2 : List (List Key)} {g g' : List Key → Option Key} {n m : Nat}
variable {Q : VK} {a B D W : Addr} {w : Int} {x12 x13 x16 x17 x18 x19 : Option V}
theorem Co (hq : ∀ H', Q (.bl true) H') (l : Lw A H f b P P2 R1 R2 d c el ks ks2 mk cm Y1 O1 Y2 O2 py1 po1 py2 po2 ty1 to1 ty2 to2 g n) (hn : n + 3000 ≤ 30000) (w3 : w ≤ 3) (hs : w = 3 → d.sure) :
   pA K A { nx := fun _ H' => Q .non H', rt := Q } [some (.ref a), some (.int w), some (.ref B), some (.ref D), some (.ref f), some (.int (c : Int)), some (.int (el : Int)), some (.ref W), some (.ref P), some (.ref R1), some (kV mk), some (.ref P2), x12, x13, some (.ref R2), some (kV cm), x16, x17, x18, x19] H := by
 refine ⟨ax (show 2 ≤ 1000000 by decide), fun hd hhd => ?_⟩
 have S1 := ao.upd (o := .tup [.int (c : Int), kV mk]) hhd
 have l1 := l.same S1
 have hd1 : upd H hd (.tup [.int (c : Int), kV mk]) hd = some (.tup [.int (c : Int), kV mk]) := ag
 generalize upd H hd (.tup [.int (c : Int), kV mk]) = H1 at S1 l1 hd1
 refine ⟨f, b, hd, P2, d, c, el, ks2, mk, g, n, rfl, l1.p2, hd1, l1.om, fun wv g2 H2 kb2 s2 sub2 okw ew => ?_⟩
 have ewc : wv = cm := by
   have x := Ext.refl' g2
   rw [ew _ x, l1.ec _ (Ext.of sub2 x)]
 subst ewc
 have l2 := l1.kb kb2 s2 sub2 (by omega)
 refine ⟨fun e r u g3 H3 kb3 s3 sub3 oku eu hr => ?_, fun ne r H3 S3 hr => ?_⟩
 · exact wj hq (l2.kb kb3 s3 sub3 (by omega)) (by omega) ⟨fun _ => ⟨u, oku, hr, eu⟩, fun ne => absurd e ne⟩ w3 hs
 · exact wj hq (l2.same S3) (by omega) ⟨fun e => absurd e ne, fun _ => hr⟩ w3 hs
theorem Cb (hq : ∀ H', Q (.bl true) H') (l : Lw A H f b P P2 R1 R2 d c el ks ks2 mk cm Y1 O1 Y2 O2 py1 po1 py2 po2 ty1 to1 ty2 to2 g n) (hn : n + 4000 ≤ 30000) (w3 : w ≤ 3) (hs : w = 3 → d.sure) :
  pJ K A { nx := fun _ H' => Q .non H', rt := Q } [some (.ref a), some (.int w), some (.ref B), some (.ref D), some (.ref f), some (.int (c : Int)), some (.int (el : Int)), some (.ref W), some (.ref P), some (.ref R1), some (kV mk), some (.ref P2), x12, x13, some (.ref R2), some (kV cm), x16, x17, x18, x19] H := by
 refine ⟨ax (show 2 ≤ 1000000 by decide), fun hd hhd => ?_⟩
 have S1 := ao.upd (o := .tup [.int (c : Int), kV mk]) hhd
 have l1 := l.same S1
 have hd1 : upd H hd (.tup [.int (c : Int), kV mk]) hd = some (.tup [.int (c : Int), kV mk]) := ag
 generalize upd H hd (.tup [.int (c : Int), kV mk]) = H1 at S1 l1 hd1
 refine ⟨f, b, hd, P, d, c, el, ks, mk, g, n, rfl, l1.p1, hd1, l1.om, fun wv g2 H2 kb2 s2 sub2 okw ew => ?_⟩
 have ewm : wv = mk := by
  have x := Ext.refl' g2
  rw [ew _ x, l1.em _ (Ext.of sub2 x)]
 subst ewm
 have l2 := l1.kb kb2 s2 sub2 (by omega)
 refine ⟨fun _ r u g3 H3 kb3 s3 sub3 oku eu hr => ?_, fun ne => absurd rfl ne⟩
 have l3 := l2.kb kb3 s3 sub3 (by omega)
 obtain ⟨ro, t2, eto⟩ := gC (tt := to1) l3.b1.l1
 have ko1 := l3.b1.ko
 have ho1 := l3.b1.o
 rw [eto] at ko1
 obtain ⟨qo, po', epo, ko'⟩ := dO ko1
 obtain ⟨hpo, oko⟩ := dR (eG ko') ko'
 rw [epo, List.map_append] at ho1
 refine ⟨f, rfl, s3.clo, ixL (j := 1) l3.b1.r rfl rfl (cE ho1 ?_)⟩
 dsimp only [af]
 refine cF s3 (by omega) hpo oko fun u' H4 g4 kb4 s4 sub4 gv st => ?_
 have l4 := l3.kb kb4 s4 sub4 (by omega)
 have e1 : u = u' := by
  have x := Ext.refl' g4
  have eo := (l4.q1 _ x).2
  rw [eto] at eo
  rw [eu _ (Ext.of sub4 x), ← iu eo]
  exact x _ _ gv
 subst e1
 have hr4 := kb4.obj s3.bb hr (fun _ z => nomatch z)
 refine ⟨ax (show 2 ≤ 1000000 by decide), fun tt ht => ?_⟩
 have S5 := ao.upd (o := .tup [.str "mark", kV u]) ht
 have ht5 : upd H4 tt (.tup [.str "mark", kV u]) tt = some (.tup (([.inr "mark", u] : List Key).map kV)) := ag
 have hr5 : upd H4 tt (.tup [.str "mark", kV u]) r = some (.tup (([.inr "mark", u] : List Key).map kV)) := S5 _ _ hr4
 have l5 := l4.same S5
 generalize upd H4 tt (.tup [.str "mark", kV u]) = H5 at S5 ht5 hr5 l5
 have st2 : ([.inr "mark", u] : List Key).all gj = true := oO fun k hk => by
  rcases List.mem_cons.mp hk with rfl | hk
  · exact zH
  · rw [List.mem_singleton.mp hk]; exact oku
 exact ⟨_, _, cx hr5, cx ht5, bi st2, bi st2, nR _, Sel.mk (fun z => (iz z rfl).elim) (fun _ => Co hq l5 (by omega) w3 hs)⟩
theorem Dj (hq : ∀ H', Q (.bl true) H') (l : Lw A H f b P P2 R1 R2 d c el ks ks2 mk cm Y1 O1 Y2 O2 py1 po1 py2 po2 ty1 to1 ty2 to2 g n) (hn : n + 5000 ≤ 30000) (w3 : w ≤ 3) (hs : w = 3 → d.sure) :
   pf K A { nx := fun _ H' => Q .non H', rt := Q } [some (.ref a), some (.int w), some (.ref B), some (.ref D), some (.ref f), some (.int (c : Int)), some (.int (el : Int)), some (.ref W), some (.ref P), some (.ref R1), some (kV mk), some (.ref P2), x12, x13, some (.ref R2), some (kV cm), x16, x17, x18, x19] H := by
 have tl60 := l.p1.tl
 refine ⟨ax (show 2 ≤ 1000000 by decide), fun q1 h1 => ⟨ax (show 2 ≤ 1000000 by decide), fun q2 h2 => ⟨ax (show 2 ≤ 1000000 by decide), fun Z hZ => ?_⟩⟩⟩
 have S1 : ao H (upd (upd (upd H q1 (.tup [.ref P, .ref R1])) q2 (.tup [.ref P2, .ref R2])) Z (.lst [.ref q1, .ref q2])) := (ao.upd h1).trans ((ao.upd h2).trans (ao.upd hZ))
 have hq1 : upd (upd (upd H q1 (.tup [.ref P, .ref R1])) q2 (.tup [.ref P2, .ref R2])) Z (.lst [.ref q1, .ref q2]) q1 = some (.tup [.ref P, .ref R1]) := ao.upd hZ _ _ (ao.upd h2 _ _ ag)
 have hq2 : upd (upd (upd H q1 (.tup [.ref P, .ref R1])) q2 (.tup [.ref P2, .ref R2])) Z (.lst [.ref q1, .ref q2]) q2 = some (.tup [.ref P2, .ref R2]) := ao.upd hZ _ _ ag
 have hZ1 : upd (upd (upd H q1 (.tup [.ref P, .ref R1])) q2 (.tup [.ref P2, .ref R2])) Z (.lst [.ref q1, .ref q2]) Z = some (.lst [.ref q1, .ref q2]) := ag
 have l1 := l.same S1
 generalize upd (upd (upd H q1 (.tup [.ref P, .ref R1])) q2 (.tup [.ref P2, .ref R2])) Z (.lst [.ref q1, .ref q2]) = H1 at S1 hq1 hq2 hZ1 l1
 refine ⟨Z, rfl, .inl ⟨⟨_, SqL.of hZ1⟩, ?_⟩⟩
 refine fy (xs := [V.ref q1, V.ref q2]) (fun i σ H' => ∃ (x16 x17 : Option V) (g' : List Key → Option Key), σ = [some (.ref a), some (.int w), some (.ref B), some (.ref D), some (.ref f), some (.int (c : Int)), some (.int (el : Int)), some (.ref W), some (.ref P), some (.ref R1), some (kV mk), some (.ref P2), x12, x13, some (.ref R2), some (kV cm), x16, x17, x18, x19] ∧ Lw A H' f b P P2 R1 R2 d c el ks ks2 mk cm Y1 O1 Y2 O2 py1 po1 py2 po2 ty1 to1 ty2 to2 g' (n + 200 * i) ∧ H' q1 = some (.tup [.ref P, .ref R1]) ∧ H' q2 = some (.tup [.ref P2, .ref R2]) ∧ H' Z = some (.lst [.ref q1, .ref q2]))
   ⟨x16, x17, g, rfl, l1, hq1, hq2, hZ1⟩ ?_ ?_ ?_
 · rintro i σ H' _ ⟨_, _, _, _, _, _, _, h⟩; exact SqL.of h
 · rintro i x σ H' hx ⟨y16, y17, g', rfl, l', e1, e2, eZ⟩
   have il : i < 2 := (List.getElem?_eq_some_iff.mp hx).1
   rcases Nat.lt_or_ge i 1 with h0 | h0
   · have i0 : i = 0 := by omega
     subst i0
     cases hx
     refine ⟨q1, [.ref P, .ref R1], rfl, SqT.of e1, rfl, _, _, rfl, _, _, rfl, rfl, ?_⟩
     refine ⟨f, b, P, d, c, el, ks, g', _, rfl, l'.p1, fun Yn On pyn pon tyn ton g3 H2 kb1 s1 sub3 hY hO ky ko ly l1 l70 sy so eq1 p hp => ?_⟩
     have slen : (stG (aC c el) ks).length = (aC c el).length := dy (cv _ ks)
     obtain ⟨ety, eto⟩ : tyn = ty1 ∧ ton = to1 := by
      have x := Ext.refl' g3
      obtain ⟨a1, a2⟩ := eq1 _ x
      obtain ⟨b1, b2⟩ := l'.q1 _ (Ext.of sub3 x)
      rw [slen] at a1
      exact ⟨a1.trans b1.symm, a2.trans b2.symm⟩
     rw [ety] at ky
     rw [eto] at ko
     have S2 := ao.upd (o := .tup [.ref Yn, .ref On]) hp
     have b1 := (l'.b1.keep (aB.tup l'.p1.s kb1) (aB.lst l'.p1.s kb1)).keep (fun x xs ex => S2 _ _ ex) (fun x xs ex => S2 _ _ ex)
     have kt : ∀ x xs, H2 x = some (.tup xs) → upd H2 p (.tup [.ref Yn, .ref On]) x = some (.tup xs) := fun x xs ex => S2 _ _ ex
     have lly := l'.b1.ly
     refine ⟨p, R1, Yn, On, Y1, O1, pyn, pon, py1, po1, ty1, to1, rfl, ag, b1.r, S2 _ _ hY, S2 _ _ hO, b1.y, b1.o, ky.keep kt, ko.keep kt, b1.ky, b1.ko, by omega, l'.b1.lo, fun H3 S3 => Sel.no rfl ?_⟩
     have kb3 := (kb1.trans (aB.same S2)).trans (aB.same S3)
     have s3 := (s1.same (Nat.le_refl _) S2).same (Nat.le_refl _) S3
     have sb := l'.p1.s.bb
     exact ⟨_, _, g3, rfl, l'.kb kb3 (s3.same (by omega) (.refl _)) sub3 (by omega), kb3.obj sb e1 (fun _ z => nomatch z), kb3.obj sb e2 (fun _ z => nomatch z), kb3.obj sb eZ (fun _ z => nomatch z)⟩
   · have i1 : i = 1 := by omega
     subst i1
     cases hx
     refine ⟨q2, [.ref P2, .ref R2], rfl, SqT.of e2, rfl, _, _, rfl, _, _, rfl, rfl, ?_⟩
     refine ⟨f, b, P2, d, c, el, ks2, g', _, rfl, l'.p2, fun Yn On pyn pon tyn ton g3 H2 kb1 s1 sub3 hY hO ky ko ly l1 l70 sy so eq1 p hp => ?_⟩
     have slen : (stG (aC c el) ks2).length = (aC c el).length := dy (cv _ ks2)
     obtain ⟨ety, eto⟩ : tyn = ty2 ∧ ton = to2 := by
      have x := Ext.refl' g3
      obtain ⟨a1, a2⟩ := eq1 _ x
      obtain ⟨b1, b2⟩ := l'.q2 _ (Ext.of sub3 x)
      rw [slen] at a1
      exact ⟨a1.trans b1.symm, a2.trans b2.symm⟩
     rw [ety] at ky
     rw [eto] at ko
     have S2 := ao.upd (o := .tup [.ref Yn, .ref On]) hp
     have b1 := (l'.b2.keep (aB.tup l'.p1.s kb1) (aB.lst l'.p1.s kb1)).keep (fun x xs ex => S2 _ _ ex) (fun x xs ex => S2 _ _ ex)
     have kt : ∀ x xs, H2 x = some (.tup xs) → upd H2 p (.tup [.ref Yn, .ref On]) x = some (.tup xs) := fun x xs ex => S2 _ _ ex
     have lly := l'.b2.ly
     refine ⟨p, R2, Yn, On, Y2, O2, pyn, pon, py2, po2, ty2, to2, rfl, ag, b1.r, S2 _ _ hY, S2 _ _ hO, b1.y, b1.o, ky.keep kt, ko.keep kt, b1.ky, b1.ko, by omega, l'.b2.lo, fun H3 S3 => Sel.no rfl ?_⟩
     have kb3 := (kb1.trans (aB.same S2)).trans (aB.same S3)
     have s3 := (s1.same (Nat.le_refl _) S2).same (Nat.le_refl _) S3
     have sb := l'.p1.s.bb
     exact ⟨_, _, g3, rfl, l'.kb kb3 (s3.same (by omega) (.refl _)) sub3 (by omega), kb3.obj sb e1 (fun _ z => nomatch z), kb3.obj sb e2 (fun _ z => nomatch z), kb3.obj sb eZ (fun _ z => nomatch z)⟩
 · rintro σ H' ⟨y16, y17, g', rfl, l', _⟩
   exact Cb hq l' (by show n + 200 * 2 + 4000 ≤ 30000; omega) w3 hs
end Rs
namespace Rs
open PySem PySem.Spec PyProof.Rows L2
variable {K : W.Frag} {mg : Str → Option Value} {A : Adr}
structure Lv (A : Adr) (H : Hp) (f b P P2 R1 W : Addr) (d : Kd) (c el : Nat) (ks ks2 : List Key) (mk : Key) (Y1 O1 : Addr) (py1 po1 : List Addr) (ty1 to1 : List (List Key)) (g : List Key → Option Key) (n : Nat) : Prop where
 p1 : cU A H f b P d c el (aC c el) ks g n
 p2 : cU A H f b P2 d c el (aC c el) ks2 g n
 hW : H W = some (.lst ((aC c el).map V.int))
 b1 : Bo H R1 Y1 O1 py1 po1 ty1 to1 (aC c el).length
 q1 : ∀ h, Ext g h → ty1 = cY h c (inM (aC c el) ks) (stG (aC c el) ks) ((aC c el).length + 1) ∧ to1 = eX h el (inM (aC c el) ks) (stG (aC c el) ks)
 om : okP mk = true
 em : ∀ h, Ext g h → mk = h (cB h c (inM (aC c el) ks) (stG (aC c el) ks) (aC c el).length)
variable {H H' : Hp} {f b P P2 R1 Y1 O1 : Addr} {d : Kd} {c el : Nat} {ks ks2 : List Key} {mk : Key} {py1 po1 : List Addr} {ty1 to1 : List (List Key)} {g g' : List Key → Option Key} {n m : Nat}
variable {Q : VK} {a B D W : Addr} {w : Int} {x12 x13 x14 x15 x16 x17 x18 x19 : Option V}
theorem Lv.kb (l : Lv A H f b P P2 R1 W d c el ks ks2 mk Y1 O1 py1 po1 ty1 to1 g n) (k : aB b H H') (s : Stp A H' f b d g' m) (sub : Sub g g') (hm : m + 400 ≤ 40000) : Lv A H' f b P P2 R1 W d c el ks ks2 mk Y1 O1 py1 po1 ty1 to1 g' m :=
 ⟨l.p1.kb k s hm, l.p2.kb k s hm, k.obj l.p1.s.bb l.hW (fun _ z => nomatch z), l.b1.keep (aB.tup l.p1.s k) (aB.lst l.p1.s k), fun h eh => l.q1 h (Ext.of sub eh), l.om, fun h eh => l.em h (Ext.of sub eh)⟩
theorem wP (hq : ∀ H', Q (.bl true) H') (l : Lv A H f b P P2 R1 W d c el ks ks2 mk Y1 O1 py1 po1 ty1 to1 g n) (hn : n + 6000 ≤ 30000) (w3 : w ≤ 3) (hs : w = 3 → d.sure) :
  pB K A { nx := fun _ H' => Q .non H', rt := Q } [some (.ref a), some (.int w), some (.ref B), some (.ref D), some (.ref f), some (.int (c : Int)), some (.int (el : Int)), some (.ref W), some (.ref P), some (.ref R1), some (kV mk), some (.ref P2), x12, x13, x14, x15, x16, x17, x18, x19] H := by
 have tl60 := l.p1.tl
 refine .inl (.inl ⟨_, SqL.of l.hW, ?_⟩)
 rw [List.length_map]
 refine ⟨f, b, W, P2, d, c, el, aC c el, ks2, g, n, (aC c el).length, rfl, l.p2, l.hW, Nat.le_refl _, fun R2 Y2 O2 py2 po2 ty2 to2 g1 H1 kb1 s1 sub1 hR hY hO ky ko ly l1 l70 sy so eq => ?_⟩
 have lv := l.kb kb1 s1 sub1 (by omega)
 have bo : Bo H1 R2 Y2 O2 py2 po2 ty2 to2 (aC c el).length := ⟨hR, hY, hO, ky, ko, ly, l1, l70, sy, so⟩
 obtain ⟨r, t, ety⟩ := LadQ.last ly
 rw [ety] at ky
 obtain ⟨qs, pl, epy, ky'⟩ := dO ky
 obtain ⟨hpl, okl⟩ := dR (eG ky') ky'
 have hY' := hY
 rw [epy, List.map_append] at hY'
 refine ⟨f, rfl, s1.clo, ixL (j := 0) hR rfl rfl (cE hY' ?_)⟩
 dsimp only [af]
 refine cF s1 (by omega) hpl okl fun v H2 g2 kb2 s2 sub2 gv st => ?_
 have szt := sy t (by rw [ety]; simp)
 have l2 := lv.kb kb2 s2 sub2 (by omega)
 exact Dj hq ⟨l2.p1, l2.p2, l2.b1, bo.keep (aB.tup s1 kb2) (aB.lst s1 kb2), l2.q1, fun h eh => ⟨(eq h (Ext.of sub2 eh)).1, (eq h (Ext.of sub2 eh)).2 rfl⟩, l2.om, dW st (by omega), l2.em, fun h eh => by
  have e := (eq h (Ext.of sub2 eh)).1
  rw [ety] at e
  rw [← gT e, eh _ _ gv]⟩ (by omega) w3 hs
theorem Stp.plaD {H : Hp} {f b D : Addr} {g : List Key → Option Key} {n : Nat} (s : Stp A H f b (.pla D none) g n) : H D = some (.dT []) := by
 cases s with
 | wri _ _ _ ed => cases ed
 | cnt _ _ _ _ _ _ _ _ _ ed => cases ed
 | wea _ _ _ _ _ _ _ ed => cases ed
 | pla q0 q1 q2 D' j j0 j1 kvs al hc hb ha bD hl hs st hg ed => cases ed; exact ha
theorem CZ (hq : ∀ H', Q (.bl true) H') (l : Lv A H f b P P2 R1 W d c el ks ks2 mk Y1 O1 py1 po1 ty1 to1 g n) (hn : n + 7000 ≤ 30000) (w3 : w ≤ 3) (hs : w = 3 → d.sure) (hp : w < 2 → d = .pla D none ∧ b = B) {j : Nat} (hj : j ≤ (aC c el).length) :
  oQ K A { nx := fun _ H' => Q .non H', rt := Q } [some (.ref a), some (.int w), some (.ref B), some (.ref D), some (.ref f), some (.int (c : Int)), some (.int (el : Int)), some (.ref W), some (.ref P), some (.ref R1), some (kV mk), some (.ref P2), some (.int (j : Int)), x13, x14, x15, x16, x17, x18, x19] H := by
 have tl60 := l.p1.tl
 have ll := l.b1.ly
 refine Sel.dec (fun hw => ?_) (fun hw => wP hq l (by omega) w3 hs)
 have hw : w < 2 := hw
 obtain ⟨rfl, rfl⟩ := hp hw
 refine ⟨f, b, W, P2, .pla D none, c, el, aC c el, ks2, g, n, j, rfl, l.p2, l.hW, hj, fun R3 Y3 O3 py3 po3 ty3 to3 g1 H1 kb1 s1 sub1 hR hY hO ky ko ly l1 l70 sy so eq => ?_⟩
 have lv := l.kb kb1 s1 sub1 (by omega)
 obtain ⟨r, t, ety⟩ := LadQ.last ly
 rw [ety] at ky
 obtain ⟨qs, pl, epy, ky'⟩ := dO ky
 obtain ⟨hpl, okl⟩ := dR (eG ky') ky'
 rw [epy, List.map_append] at hY
 obtain ⟨to, hto⟩ : ∃ to, ty1[j]? = some to := ⟨_, List.getElem?_eq_getElem (by omega)⟩
 obtain ⟨po, hpo, hpo2, oko⟩ := zX lv.b1.ky hto
 refine ixL (j := 0) hR rfl rfl (cE hY (ixL (j := 0) lv.b1.r rfl rfl (ixL (j := j) lv.b1.y rfl (by rw [List.getElem?_map, hpo]; rfl) ?_)))
 refine ⟨f, b, D, pl, po, t, to, g1, n + 130, rfl, s1, by omega, hpl, hpo2, okl, oko, fun al g2 H2 kD s2 sub2 => ?_⟩
 have hD := s1.plaD
 have kt : ∀ x xs, H1 x = some (.tup xs) → H2 x = some (.tup xs) := fun x xs ex => kD _ _ (bE ex hD (fun z => nomatch z)) ex
 have kl : ∀ x xs, H1 x = some (.lst xs) → H2 x = some (.lst xs) := fun x xs ex => kD _ _ (bE ex hD (fun z => nomatch z)) ex
 have pp : ∀ {P : Addr} {ks : List Key}, cU A H1 f b P (.pla D none) c el (aC c el) ks g1 (n + 130) → cU A H2 f b P (.pla D al) c el (aC c el) ks g2 (n + 130) := fun x => ⟨s2, x.hn, x.c1, x.c2, x.ec, x.tl, x.t01, x.z, x.kl, x.ke, kt _ _ x.w⟩
 exact wP hq ⟨pp lv.p1, pp lv.p2, kl _ _ lv.hW, lv.b1.keep kt kl, fun h eh => lv.q1 h (Ext.of sub2 eh), lv.om, fun h eh => lv.em h (Ext.of sub2 eh)⟩ (by omega) w3 fun h => by omega
end Rs
namespace Rs
open PySem PySem.Spec PyProof.Rows L2
variable {K : W.Frag} {mg : Str → Option Value} {A : Adr}
variable {H : Hp} {Q : VK} {f b a B D W : Addr} {d : Kd} {c el : Nat} {g : List Key → Option Key} {n : Nat} {w : Int} {ns : List Int}
theorem Ei {P : Addr} {ks : List Key} {x9 x10 x11 x12 x13 x14 x15 x16 x17 x18 x19 : Option V} (hq : ∀ H', Q (.bl true) H') (pp : cU A H f b P d c el (aC c el) ks g 0) (hW : H W = some (.lst ((aC c el).map V.int))) (w3 : w ≤ 3) (hsu : w = 3 → d.sure) (hpla : w < 2 → d = .pla D none ∧ b = B) (hsq : ∀ H', aB b H H' → SqL K H' a (ns.map V.int)) :
  zd K A { nx := fun _ H' => Q .non H', rt := Q } [some (.ref a), some (.int w), some (.ref B), some (.ref D), some (.ref f), some (.int (c : Int)), some (.int (el : Int)), some (.ref W), some (.ref P), x9, x10, x11, x12, x13, x14, x15, x16, x17, x18, x19] H := by
 have tl60 := pp.tl
 have kl := pp.kl
 refine .inl (.inl ⟨_, SqL.of hW, ?_⟩)
 rw [List.length_map]
 refine ⟨f, b, W, P, d, c, el, aC c el, ks, g, 0, (aC c el).length, rfl, pp, hW, Nat.le_refl _, fun R1 Y1 O1 py1 po1 ty1 to1 g1 H1 kb1 s1 sub1 hR hY hO ky ko ly l1 l70 sy so eq => ?_⟩
 have p1 := pp.kb kb1 s1 (by omega)
 have hW1 := kb1.obj pp.s.bb hW (fun _ z => nomatch z)
 have bo : Bo H1 R1 Y1 O1 py1 po1 ty1 to1 (aC c el).length := ⟨hR, hY, hO, ky, ko, ly, l1, l70, sy, so⟩
 obtain ⟨r, t, ety⟩ := LadQ.last ly
 rw [ety] at ky
 obtain ⟨qs, pl, epy, ky'⟩ := dO ky
 obtain ⟨hpl, okl⟩ := dR (eG ky') ky'
 have hY' := hY
 rw [epy, List.map_append] at hY'
 refine ⟨f, rfl, s1.clo, ixL (j := 0) hR rfl rfl (cE hY' ?_)⟩
 dsimp only [af]
 refine cF s1 (by omega) hpl okl fun mk H2 g2 kb2 s2 sub2 gv st => ?_
 have szt := sy t (by rw [ety]; simp)
 have p2 := p1.kb kb2 s2 (by omega)
 have hW2 := kb2.obj s1.bb hW1 (fun _ z => nomatch z)
 have b2 := bo.keep (aB.tup s1 kb2) (aB.lst s1 kb2)
 have kb12 := kb1.trans kb2
 refine ⟨a, ns, 3, rfl, hsq H2 kb12, by decide, fun z3 => ⟨by decide, a, ns, 3, rfl, hsq H2 kb12, by decide, fun z3' => ⟨⟨by decide, by decide⟩, _, _, P, ks, rfl, p2.w, p2.ke, by omega, by omega, fun P2 ks2 H3 S3 hP2 ke2 kl2 => ?_⟩⟩⟩
 have p3 := p2.same S3
 have b3 := b2.keep (fun x xs ex => S3 _ _ ex) (fun x xs ex => S3 _ _ ex)
 have plen := bO b3.ky
 refine ⟨a, ns, 4, rfl, hsq H3 (kb12.trans (aB.same S3)), by decide, fun z4 => ixL (j := 0) b3.r rfl rfl (.inl (.inl ⟨_, SqL.of b3.y, ?_⟩))⟩
 rw [List.length_map, plen, ly]
 have v0 := Int.emod_nonneg z4 (b := (((aC c el).length + 1 : Nat) : Int)) (by omega)
 have v1 := Int.emod_lt_of_pos z4 (b := (((aC c el).length + 1 : Nat) : Int)) (by omega)
 obtain ⟨j, hj⟩ := Int.eq_ofNat_of_zero_le v0
 refine ⟨by omega, ?_⟩
 rw [hj]
 exact CZ hq ⟨p3, ⟨p3.s, p3.hn, p3.c1, p3.c2, p3.ec, p3.tl, p3.t01, p3.z, by rw [kl2]; exact kl, ke2, hP2⟩, S3 _ _ hW2, b3, fun h eh => ⟨(eq h (Ext.of sub2 eh)).1, (eq h (Ext.of sub2 eh)).2 rfl⟩, dW st (by omega), fun h eh => by
  have e := (eq h (Ext.of sub2 eh)).1
  rw [ety] at e
  rw [← gT e, eh _ _ gv]⟩ (by omega) w3 hsu hpla (j := j) (by omega)
theorem zw (K : PySem.W.Frag) (A : Adr) : Ln (mn K A) 1 := by rintro vs H Q E ⟨a, ns, rfl, _⟩; rfl
theorem BB (T : Txt K mg A) : Rd (mn K A) (Ef K A) ["_law_script", "_law_way", "_law_known", "_law_alias", "_law_stamper_here", "_law_count", "_law_elder", "_law_steps_here", "_law_one", "_law_ahead", "_law_mark", "_law_other", "_law_height", "_law_new", "_law_behind", "_law_came", "_law_marks", "_law_due", "_law_told_here", "_law_terms"] := by
 intro vs H Q E h
 obtain ⟨a, ns, rfl, hs, l63, ⟨tw, twr, tc, tp, nd⟩, q⟩ := h
 have hsq : ∀ H', (∀ o, H a = some o → (∀ ps, o ≠ .tbl ps) → H' a = some o) → SqL K H' a (ns.map V.int) := by
   intro H' k
   rcases hs with (h | ⟨o, h⟩) | h
   · exact .inl (.inl (k _ h (fun _ z => nomatch z)))
   · exact .inl (.inr ⟨o, k _ h (fun _ z => nomatch z)⟩)
   · exact .inr h
 refine ⟨a, ns, 0, rfl, hs, by decide, fun z0 => ⟨by decide, .inr fun B hB => .inr fun D hD => ?_⟩⟩
 have SB : ao H (upd (upd H B (.dT [])) D (.dT [])) := (ao.upd hB).trans (ao.upd hD)
 have BD : B ≠ D := Ne.symm (cG hD).1
 have hB1 : upd (upd H B (.dT [])) D (.dT []) B = some (.dT []) := ao.upd hD _ _ ag
 have hD1 : upd (upd H B (.dT [])) D (.dT []) D = some (.dT []) := ag
 generalize upd (upd H B (.dT [])) D (.dT []) = H1 at SB hB1 hD1
 have w0 : 0 ≤ z0 % 4 := by omega
 have w3 : z0 % 4 ≤ 3 := by omega
 generalize z0 % 4 = w at w0 w3
 refine ⟨a, ns, 0, rfl, hsq H1 fun o h _ => SB _ _ h, by decide, fun z0' => ⟨⟨by decide, by decide⟩, ?_⟩⟩
 refine ⟨w, _, B, D, rfl, ⟨SB _ _ tw, SB _ _ twr, SB _ _ tc, SB _ _ tp, nd⟩, hB1, hD1, BD, w0, w3, fun f b d g H2 kn s hb hsu hpla => ?_⟩
 have ka2 : ∀ o, H a = some o → (∀ ps, o ≠ .tbl ps) → H2 a = some o := fun o h nt => kn _ _ (SB _ _ h) nt
 have nab : ∀ o, H a = some o → a ≠ b := fun o h => by
   rcases hb with rfl | hb
   · exact ar h hB
   · exact ar (SB _ _ h) hb
 refine ⟨a, ns, 1, rfl, hsq H2 ka2, by decide, fun z1 => ⟨z1, rfl, fun c c1 c2 => ?_⟩⟩
 refine ⟨a, ns, 2, rfl, hsq H2 ka2, by decide, fun z2 => ⟨z2, c, rfl, fun el He Se ec => ?_⟩⟩
 have kae : ∀ o, H a = some o → (∀ ps, o ≠ .tbl ps) → He a = some o := fun o h nt => Se _ _ (ka2 o h nt)
 refine ⟨c, el, rfl, c1, ec, by omega, fun W hW => ?_⟩
 have SW : ao He (upd He W (.lst ((aC c el).map V.int))) := ao.upd hW
 have hW3 : upd He W (.lst ((aC c el).map V.int)) W = some (.lst ((aC c el).map V.int)) := ag
 generalize upd He W (.lst ((aC c el).map V.int)) = H3 at SW hW3
 have tl60 : (aC c el).length ≤ 60 := nE 60 c el
 have ka3 : ∀ o, H a = some o → (∀ ps, o ≠ .tbl ps) → H3 a = some o := fun o h nt => SW _ _ (kae o h nt)
 refine .inl (.inl ⟨_, SqL.of hW3, _, rfl, by omega, by rw [List.length_map]; omega, fun C hC => ?_⟩)
 have hn : ((((aC c el).map V.int).length : Int) + 1).toNat = (aC c el).length + 1 := by rw [List.length_map]; omega
 rw [hn]
 refine fu (dY.range (lo := 0) (n := (aC c el).length + 1)) (fun i ys H' => ∃ es : List Key, ys = es.map kV ∧ es.length = i ∧ (∀ e ∈ es, enK e) ∧ H' C = some (.lst ys) ∧ ao H3 H')
   (fun _ _ _ _ _ => trivial) ⟨[], rfl, rfl, (fun _ h => nomatch h), ag, ao.upd hC⟩ (fun i ys H5 hi h => ?_) (fun ys H5 h => ?_)
 · obtain ⟨es, e1, e2, e3, e4, S⟩ := h
   refine mP ⟨a, ns, _, rfl, hsq H5 fun o h nt => S _ _ (ka3 o h nt), by omega, fun zz => ⟨Ag (by decide) (by decide), _, rfl, fun e H6 S6 en => ⟨S6 _ _ e4, ?_, CWd.next hi ⟨es ++ [e], by rw [e1, List.map_append]; rfl, by rw [List.length_append, e2]; rfl, fun x hx => ?_, ag, fun z o h => ?_⟩⟩⟩⟩
   · rw [e1, List.length_map, e2]; exact bj (by omega)
   · rcases List.mem_append.mp hx with h | h
     · exact e3 x h
     · rw [List.mem_singleton.mp h]; exact en
   · rw [ak (ar h hC)]; exact S6 _ _ (S _ _ h)
 obtain ⟨ks, rfl, kl, ke, hC5, S5⟩ := h
 refine ⟨C, _, rfl, .inl ⟨SqL.of hC5, fun P hP => ?_⟩⟩
 have S6 := ao.upd (o := .tup (ks.map kV)) hP
 have hP6 : upd H5 P (.tup (ks.map kV)) P = some (.tup (ks.map kV)) := ag
 generalize upd H5 P (.tup (ks.map kV)) = H6 at S6 hP6
 have S26 : ao H2 H6 := Se.trans (SW.trans (S5.trans S6))
 have z0 : el = 0 → aC c el = [] := fun e => nB (.inl e)
 exact Ei (ns := ns) q ⟨s.same (Nat.le_refl _) S26, by omega, c1, c2, ec, tl60, vS 60 c el, z0, kl, ke, hP6⟩ (S6 _ _ (S5 _ _ hW3)) w3 hsu hpla fun H' kb => hsq H' fun o h nt => kb _ _ (nab o h) (S6 _ _ (S5 _ _ (ka3 o h nt)))
end Rs
namespace Rs
open PySem PySem.Spec PyProof.Rows L2
structure TP (P : Program) (w : World) (K : W.Frag) (mg : Str → Option Value) (base : Heap) (A : Adr) : Prop extends Txt K mg A where
 B : BM mg base
 C_22 : W.CodeHd base A.k_22 A.t_22
 C_45 : W.CodeHd base A.k_45 A.t_45
 C_27 : W.CodeHd base A.k_27 A.t_27
 C_15 : W.CodeHd base A.k_15 A.t_15
variable {P : Program} {w : World} {K : W.Frag} {mg : Str → Option Value} {base : Heap} {A : Adr} (T : TP P w K mg base A)
include T
theorem lU : aV P w K mg base (CX1 P w) 1 A.a_39 A.d_39 ["thing"] (gO K A) :=
 T.f_39.f.okS Bb (AE K A) (AZ T.1) fun _ _ _ _ _ _ hr =>
 aq (aG (dI (aO dJ T.z_isinstance boot_isinstance (ae (aa 0) (ae (dN T.z_int boot_int) (ah)))) (fK (Ct (aO dJ T.z_isinstance boot_isinstance (ae (aa 0) (ae (dN T.z_bool boot_bool) (ah))))))))
theorem qi : aV P w K mg base (CX1 P w) 2 A.a_37 A.d_37 ["thing"] (iH K A) :=
 T.f_37.f.okS BE (yi K A) (Bq T.1) fun _ _ _ _ _ _ hr =>
 aj (aS (ck (aT (lU T) hr.le T.f_39 (ae (aa 0) (ah)))) (aq (aG (kq oLe oLt (ai) (aa 0) (az vf (ai) (ai))))) (aN)) (aq (aG (aO dJ T.z_isinstance boot_isinstance (ae (aa 0) (ae (dN T.z_str boot_str) (ah))))))
theorem wn : aV P w K mg base (CX1 P w) 3 A.a_38 A.d_38 ["thing"] (kc K A) :=
 T.f_38.f.okS BZ (yh K A) (CH T.1) fun _ _ _ _ _ _ hr =>
 aj (aS (dk (ck (aO dJ T.z_isinstance boot_isinstance (ae (aa 0) (ae (dN T.z_tuple boot_tuple) (ah)))))) (aq (aG (eM))) (aN)) (aj (aS (dk (jA oLe oLe (ai) (aO bN T.z_len PySem.boot_len (ae (aa 0) (ah))) (Fb T.c_MOST_PARTS))) (aq (aG (eM))) (aN)) (aq (aG (dI (aO dJ T.z_isinstance boot_isinstance (ae (aP (ay hr.units1) (aa 0) (ai) (fun _ _ => rfl)) (ae (dN T.z_str boot_str) (ah)))) (fK (aO (yC rfl) T.z_all L2.rT (ae (gt (ys := []) (by exact ⟨rfl, by decide +kernel, by decide +kernel, rfl, by decide +kernel, by decide +kernel⟩) (by exact .nil) (dD (aa 0)) (fun C s H fp => ii) (fun C s H fp => (aT (qi T) hr.le T.f_37 (ae (aa 0) (ah))))) (ah))))))))
theorem Di : aV P w K mg base (CX1 P w) 2 A.a_42 A.d_42 ["part"] (mx K A) :=
 T.f_42.f.okS wq (AR K A) (CO T.1) fun _ _ _ _ _ _ hr =>
 aj (aS (ck (aT (lU T) hr.le T.f_39 (ae (aa 0) (ah)))) (aq (aG (sO (.cons (qV (aa 0)) (.cons (bz) (.nil)))))) (aN)) (aj (aD 1 wq.nd (aO bN T.z_len PySem.boot_len (ae (aa 0) (ah)))) (aq (aG (sO (.cons (qV (aa 1)) (.cons (bz) (.cons (qV (aa 0)) (.nil))))))))
theorem AW : aV P w K mg base (CX1 P w) 4 A.a_47 A.d_47 ["term"] (jP K A) :=
 T.f_47.f.okS DJ (Aw K A) (AU T.1) fun _ _ _ _ _ _ hr =>
 aj (aS (dk (ck (aT (wn T) hr.le T.f_38 (ae (aa 0) (ah))))) (aq (gr)) (aN)) (aq (aG (db PySem.F.plainAttrs_str PySem.F.slot_str_join PySem.F.type_str_join pI (bz) (ae (gt (ys := []) (by exact ⟨rfl, by decide +kernel, by decide +kernel, rfl, by decide +kernel, by decide +kernel⟩) (by exact .nil) (dD (aa 0)) (fun C s H fp => ii) (fun C s H fp => (aT (Di T) hr.le T.f_42 (ae (aa 0) (ah))))) (ah)))))
theorem CF (f c : Addr) (cl : List (Str × Addr)) (Ar : Around) (outer : List Env) (s : Shared) (H : Hp) (E : XK)
  (hr : bc 4 (Ar.deeper (W.envX eR.qual eR.scope s.heap.objs.size f (.ref c) cl))) : PE (fM P w K mg base ["term"] eR.qual eR.scope f c cl Ar outer s H E).nox (iN uX) (zt K A) := QE.out (
 aT (AW T) hr.le T.f_47 (ae (aa 0) (ah)))
theorem Cs : eP P w K mg base 5 eR (qp K A) :=
 oS rfl Cl (fun f c cl Ar outer s H vs cvs Q E hr hl hc h => by
  obtain ⟨a0, rfl⟩ := L2.dH hl
  obtain rfl := L2.qP hc
  exact ⟨_, (CF T f c cl Ar outer s H E hr).nox, By T.1 a0 H Q E h⟩)
theorem Ee : aV P w K mg base (CX1 P w) 4 A.a_2 A.d_2 ["self", "term"] (qq K A) :=
 T.f_2.okS Ey (BF K A) (EB T.1) fun _ _ _ _ _ _ hr =>
 aj (aS (dk (ck (aT (wn T) hr.le T.f_38 (ae (aa 1) (ah))))) (aq (gr)) (aN)) (aj (aS (aL (iU hr.units150) (aa 1) (mm (aa 0))) (aq (mK hr.units1 (mm (aa 0)) (aa 1) (aO bN T.z_len PySem.boot_len (ae (mm (aa 0)) (ah))))) (aN)) (aq (aG (aP (ay hr.units1) (mm (aa 0)) (aa 1) (fun _ _ => rfl)))))
theorem BL (f c : Addr) (cl : List (Str × Addr)) (Ar : Around) (outer : List Env) (s : Shared) (H : Hp) (E : XK)
  (hr : bc 4 (Ar.deeper (W.envX fj.qual fj.scope s.heap.objs.size f (.ref c) cl))) : PE (fM P w K mg base ["term", "numbers"] fj.qual fj.scope f c cl Ar outer s H E).nox (iN uj) (yn K A) := QE.out (
 xh (aa 1) T.cl_Numbers T.me_Numbers_number_of (Ee T) hr.le T.b_2 cq (ae (aa 0) (ah)))
theorem BU : eP P w K mg base 5 fj (pU K A) :=
 oS rfl Bx (fun f c cl Ar outer s H vs cvs Q E hr hl hc h => by
  obtain ⟨a0, rfl⟩ := L2.dH hl
  obtain ⟨b0, rfl⟩ := L2.dH hc
  exact ⟨_, (BL T f c cl Ar outer s H E hr).nox, Bw T.1 a0 b0 H Q E h⟩)
theorem BN (f c : Addr) (cl : List (Str × Addr)) (Ar : Around) (outer : List Env) (s : Shared) (H : Hp) (E : XK)
  (hr : bc 0 (Ar.deeper (W.envX fc.qual fc.scope s.heap.objs.size f (.ref c) cl))) : PSs (fM P w K mg base ["_law_term", "_law_total", "_law_part", "_law_many"] fc.qual fc.scope f c cl Ar outer s H E).nox (aQ tz) (zO K A) := QSs.out (
 aj (aD 1 jS.nd (aO bN T.z_len PySem.boot_len (ae (aa 0) (ah)))) (aj (iZ 2 jS.nd (dD (aa 0)) (aq (aS (ck (aO dJ T.z_isinstance boot_isinstance (ae (aa 2) (ae (dN T.z_str boot_str) (ah))))) (aq (aD 1 jS.nd (az bv (az iR (ai) (aa 1)) (aO bN T.z_len PySem.boot_len (ae (aa 2) (ah)))))) (aq (aD 1 jS.nd (az bv (az iR (ai) (aa 1)) (aa 2)))))) PassesOwn.never) (aq (aG (az cj (aa 1) (aa 3))))))
theorem CQ : eP P w K mg base 1 fc (qF K A) :=
 sj rfl jS (fun f c cl Ar outer s H vs cvs Q E hr hl hc h => by
  obtain ⟨a0, rfl⟩ := L2.dH hl
  obtain ⟨b0, rfl⟩ := L2.dH hc
  exact ⟨_, (BN T f c cl Ar outer s H E hr).nox, Dw T.1 a0 b0 H Q E h⟩)
theorem CK (f c : Addr) (cl : List (Str × Addr)) (Ar : Around) (outer : List Env) (s : Shared) (H : Hp) (E : XK)
  (hr : bc 0 (Ar.deeper (W.envX fm.qual fm.scope s.heap.objs.size f (.ref c) cl))) : PSs (fM P w K mg base ["_law_term", "_law_step", "_law_known", "_law_alias"] fm.qual fm.scope f c cl Ar outer s H E).nox (aQ tR) (Af K A) := QSs.out (
 aq (aG (db PySem.F.plainAttrs_dict PySem.F.slot_dict_setdefault PySem.F.type_dict_setdefault (la hr.units1) (aa 2) (ae (db PySem.F.plainAttrs_dict PySem.F.slot_dict_get PySem.F.type_dict_get (xW hr.units1) (aa 3) (ae (aa 0) (ae (aa 0) (ah)))) (ae (az bv (az iR (aa 1) (aO bN T.z_len PySem.boot_len (ae (aa 2) (ah)))) (ai)) (ah))))))
theorem Dy : eP P w K mg base 1 fm (qS K A) :=
 sj rfl CL (fun f c cl Ar outer s H vs cvs Q E hr hl hc h => by
  obtain ⟨a0, rfl⟩ := L2.dH hl
  obtain ⟨b0, b1, b2, rfl⟩ := L2.qf hc
  exact ⟨_, (CK T f c cl Ar outer s H E hr).nox, De T.1 a0 b0 b1 b2 H Q E h⟩)
theorem ir : aV P w K mg base (CX1 P w) 1 A.a_4 A.d_4 ["_law_script", "_law_k"] (eB K A) :=
 T.f_4.f.okS DO (Ch K A) (Eb T.1) fun _ _ _ _ _ _ hr =>
 aj (aS (aL oLt (aa 1) (aO bN T.z_len PySem.boot_len (ae (aa 0) (ah)))) (aq (aG (aP (ay hr.units1) (aa 0) (aa 1) (fun _ _ => rfl)))) (aN)) (aq (aG (ai)))
theorem DA (B : BM mg base) (C : W.CodeHd base A.k_22 A.t_22) (Ar : Around) (outer : List Env) (s : Shared) (H : Hp) (E : XK)
  (hr : bc 0 (Ar.deeper (envOfC "_law_weak" (am jq) s.heap.objs.size A.a_22 (.ref A.k_22)))) : QMs (de (CX1 P w) P w K mg base ["_law_many", "_law_stamp"] "_law_weak" (am jq) A.a_22 (.ref A.k_22) Ar outer s H E).nox (aQ jq) (zi K A (s.heap.objs.size + 1)) := (
 nv (nC (wK 1 wO.nd B C rfl (by rfl) (by simp <;> omega) rfl rfl rfl rfl (fun _ _ _ _ _ us hl => by obtain ⟨_, rfl⟩ := L2.dH hl; rfl))) (my (ml (aa 1))))
theorem Da : aV P w K mg base (CX1 P w) 1 A.a_22 A.d_22 ["_law_many"] (mq K A) :=
 T.f_22.f.okM (caps := fun L => [(0, L + 1)]) T.kc_22 wO (zj K A) (fun L p hp => by simp only [List.mem_cons, List.not_mem_nil, or_false] at hp; rcases hp with rfl <;> exact ⟨_, rfl, rfl, rfl⟩) (fun L => by simp) (fun Ar outer s H vs Q E hr h => ⟨_, QMs.nox (DA T T.B T.C_22 Ar outer s H E hr), BW T.1 (s.heap.objs.size + 1) (by simp) vs H Q E h⟩)
theorem DI (B : BM mg base) (C : W.CodeHd base A.k_45 A.t_45) (Ar : Around) (outer : List Env) (s : Shared) (H : Hp) (E : XK)
  (hr : bc 0 (Ar.deeper (envOfC "writing" (am jo) s.heap.objs.size A.a_45 (.ref A.k_45)))) : QMs (de (CX1 P w) P w K mg base [] "writing" (am jo) A.a_45 (.ref A.k_45) Ar outer s H E).nox (aQ jo) (zN K A) := (
 my (ml (wx B C rfl (by rfl) (by simp <;> omega) rfl rfl rfl rfl (fun _ _ _ _ us hl => by obtain ⟨_, rfl⟩ := L2.dH hl; rfl))))
theorem Bj : aV P w K mg base (CX1 P w) 1 A.a_45 A.d_45 [] (mv K A) :=
 T.f_45.f.okM (caps := fun L => []) T.kc_45 Be (An K A) (fun L p hp => nomatch hp) (fun L => by simp) (fun Ar outer s H vs Q E hr h => ⟨_, QMs.nox (DI T T.B T.C_45 Ar outer s H E hr), DB T.1 (by simp) vs H Q E h⟩)
theorem EW : aV P w K mg base (CX1 P w) 1 A.a_1 A.d_1 ["self"] (qL K A) :=
 T.f_1.okS DM (Cm K A) (EG T.1) fun _ _ _ _ _ _ hr =>
 aq (uQ (aa 0) (iS))
theorem AY (B : BM mg base) (C : W.CodeHd base A.k_27 A.t_27) (Ar : Around) (outer : List Env) (s : Shared) (H : Hp) (E : XK)
  (hr : bc 2 (Ar.deeper (envOfC "counting" (am jv) s.heap.objs.size A.a_27 (.ref A.k_27)))) : QMs (de (CX1 P w) P w K mg base ["numbers"] "counting" (am jv) A.a_27 (.ref A.k_27) Ar outer s H E).nox (aQ jv) (zc K A (s.heap.objs.size + 1)) := (
 nv (nC (aD 0 we.nd (vK T.mk_Numbers (EW T) hr.le T.mc_Numbers T.b_1 cq))) (my (ml (wx B C rfl (by rfl) (by simp <;> omega) rfl rfl rfl rfl (fun _ _ _ _ us hl => by obtain ⟨_, rfl⟩ := L2.dH hl; rfl)))))
theorem BY : aV P w K mg base (CX1 P w) 3 A.a_27 A.d_27 [] (lZ K A) :=
 T.f_27.f.okM (caps := fun L => [(0, L + 1)]) T.kc_27 we (yW K A) (fun L p hp => by simp only [List.mem_cons, List.not_mem_nil, or_false] at hp; rcases hp with rfl <;> exact ⟨_, rfl, rfl, rfl⟩) (fun L => by simp) (fun Ar outer s H vs Q E hr h => ⟨_, QMs.nox (AY T T.B T.C_27 Ar outer s H E hr), Dv T.1 (s.heap.objs.size + 1) (by simp) vs H Q E h⟩)
theorem Bn (B : BM mg base) (C : W.CodeHd base A.k_15 A.t_15) (Ar : Around) (outer : List Env) (s : Shared) (H : Hp) (E : XK)
  (hr : bc 0 (Ar.deeper (envOfC "_law_planted" (am ji) s.heap.objs.size A.a_15 (.ref A.k_15)))) : QMs (de (CX1 P w) P w K mg base ["_law_known", "_law_alias", "_law_step", "_law_stamp"] "_law_planted" (am ji) A.a_15 (.ref A.k_15) Ar outer s H E).nox (aQ ji) (yI K A (s.heap.objs.size + 1) (s.heap.objs.size + 1 + 1) (s.heap.objs.size + 1 + 1 + 1)) := (
 nv (nC (wK 3 wN.nd B C rfl (by rfl) (by simp <;> omega) rfl rfl rfl rfl (fun _ _ _ _ _ us hl => by obtain ⟨_, rfl⟩ := L2.dH hl; rfl))) (my (ml (aa 3))))
theorem BA : aV P w K mg base (CX1 P w) 1 A.a_15 A.d_15 ["_law_known", "_law_alias", "_law_step"] (mt K A) :=
 T.f_15.f.okM (caps := fun L => [(0, L + 1), (1, L + 1 + 1), (2, L + 1 + 1 + 1)]) T.kc_15 wN (Ai K A) (fun L p hp => by simp only [List.mem_cons, List.not_mem_nil, or_false] at hp; rcases hp with rfl | rfl | rfl <;> exact ⟨_, rfl, rfl, rfl⟩) (fun L => by simp) (fun Ar outer s H vs Q E hr h => ⟨_, QMs.nox (Bn T T.B T.C_15 Ar outer s H E hr), Dl T.1 (s.heap.objs.size + 1) (s.heap.objs.size + 1 + 1) (s.heap.objs.size + 1 + 1 + 1) (by simp) vs H Q E h⟩)
theorem BX : aV P w K mg base (CX1 P w) 4 A.a_18 A.d_18 ["_law_way", "_law_cell", "_law_known", "_law_alias"] (mF K A) :=
 T.f_18.f.okS CP (zk K A) (Dp T.1) fun _ _ _ _ _ _ hr =>
 aj (aS (aL (bH hr.units150) (aa 0) (ai)) (aq (aG (aT (Da T) hr.le T.f_22 (ae (az bv (ai) (az cj (aa 1) (ai))) (ah))))) (aN)) (aj (aS (x_w (nX (aL (bH hr.units150) (aa 0) (ai)) (kO (aL (bH hr.units150) (az cj (aa 1) (ai)) (ai))))) (aq (aG (nG (Bj T) hr.le T.f_45.m T.f_45.f.kp T.f_45.b cq))) (aN)) (aj (aS (x_w (nX (aL (bH hr.units150) (aa 0) (ai)) (kO (aL (bH hr.units150) (az cj (aa 1) (ai)) (ai))))) (aq (aG (nG (BY T) hr.le T.f_27.m T.f_27.f.kp T.f_27.b cq))) (aN)) (aq (aG (aT (BA T) hr.le T.f_15 (ae (aa 2) (ae (aa 3) (ae (az bv (ai) (az cj (aa 1) (ai))) (ah)))))))))
theorem DR : aV P w K mg base (CX1 P w) 1 A.a_7 A.d_7 ["_law_cell"] (qj K A) :=
 T.f_7.f.okS Eo (Dx K A) (EK T.1) fun _ _ _ _ _ _ hr =>
 aj (aS (aL (bH hr.units150) (az cj (aa 0) (ai)) (ai)) (aq (aG (az bv (ai) (az cj (az cK (aa 0) (ai)) (ai))))) (aN)) (aj (aS (aL (bH hr.units150) (az cj (aa 0) (ai)) (ai)) (aq (aG (az dQ (az bv (az nF (ai) (az bv (ai) (az cj (az cK (aa 0) (ai)) (ai)))) (az cj (az cK (aa 0) (ai)) (ai))) (ai)))) (aN)) (aq (aG (az bv (ai) (az cj (az cK (aa 0) (ai)) (az dQ (az nF (ai) (ai)) (ai)))))))
theorem Es : aV P w K mg base (CX1 P w) 1 A.a_9 A.d_9 ["_law_cell", "_law_count"] (qh K A) :=
 T.f_9.f.okS EM (Bk K A) (ES T.1) fun _ _ _ _ _ _ hr =>
 aj (aS (aL (bH hr.units150) (az cj (aa 0) (ai)) (ai)) (aq (aG (aP (ay hr.units1) (cS (ae (ai) (ae (aa 1) (ah)))) (az cj (az cK (aa 0) (ai)) (ai)) (fun _ _ => rfl)))) (aN)) (aq (aG (az cj (az cK (aa 0) (ai)) (az bv (aa 1) (ai)))))
theorem DC : aV P w K mg base (CX1 P w) 1 A.a_19 A.d_19 ["_law_count", "_law_elder"] (mz K A) :=
 T.f_19.f.okS gB (Az K A) (Cg T.1) fun _ _ _ _ _ _ hr =>
 aj (aD 2 gB.nd (cS (ah))) (aj (aD 3 gB.nd (az nF (ai) (ai))) (aj (kI (jA oLt oLt (ai) (aa 1) (aa 0)) (aj (kI (aL oGe (aa 3) (aa 0)) (aq (aD 3 gB.nd (az cK (aa 3) (ai)))) PassesOwn.never) (aj (cg (db PySem.F.plainAttrs_list PySem.F.slot_list_append PySem.F.type_list_append bu (aa 2) (ae (jt yG T.z_int L2.sk (ae (gN oGt (aa 1) (aa 3)) (ah))) (ah)))) (aq (aS (aL oGt (aa 1) (aa 3)) (aj (aD 0 gB.nd (az dQ (aa 0) (aa 3))) (aq (aD 1 gB.nd (az dQ (aa 1) (aa 3))))) (aq (aD 0 gB.nd (aa 3))))))) PassesOwn.never) (aq (aG (aa 2)))))
theorem BI : aV P w K mg base (CX1 P w) 1 A.a_20 A.d_20 ["_law_cell"] (mE K A) :=
 T.f_20.f.okS qt (zf K A) (CB T.1) fun _ _ _ _ _ _ hr =>
 aj (aD 1 qt.nd (bz)) (aj (aD 1 qt.nd (az bv (aa 1) (bz))) (aq (aG (db PySem.F.plainAttrs_str PySem.F.slot_str_join PySem.F.type_str_join pI (bz) (ae (gt (ys := ["_law_cell", "_law_some"]) (by exact ⟨rfl, by decide +kernel, by decide +kernel, rfl, by decide +kernel, by decide +kernel⟩) (by exact .cons rfl (by first | exact .inl rfl | exact .inr rfl) rfl (.cons rfl (by first | exact .inl rfl | exact .inr rfl) rfl (.nil))) (jf T.z_range (ae (az cj (aa 0) (ai)) (ah))) (fun C s H fp => ii) (fun C s H fp => (aP (ay hr.units1) (aa 2) (az cj (az bv (az cK (aa 1) (ai)) (az iR (aa 0) (az cj (az cK (aa 1) (ai)) (ai)))) (ai)) (fun _ _ => rfl)))) (ah))))))
theorem wb : aV P w K mg base (CX1 P w) 2 A.a_17 A.d_17 ["_law_cell"] (jK K A) :=
 T.f_17.f.okS Cf (yd K A) (BP T.1) fun _ _ _ _ _ _ hr =>
 aj (aS (aL (bH hr.units150) (az cj (aa 0) (ai)) (ai)) (aq (aG (aT (BI T) hr.le T.f_20 (ae (az cK (aa 0) (ai)) (ah))))) (aN)) (aj (aS (aL (bH hr.units150) (az cj (aa 0) (ai)) (ai)) (aq (aG (az cj (az cK (aa 0) (ai)) (az vf (ai) (ai))))) (aN)) (aq (aG (az cj (az cK (aa 0) (ai)) (ai)))))
theorem Eg : aV P w K mg base (CX1 P w) 1 A.a_8 A.d_8 ["_law_steps_here", "_law_marks"] (qR K A) :=
 T.f_8.f.okS jB (CA K A) (EF T.1) fun _ _ _ _ _ _ hr =>
 aj (aD 2 jB.nd (cS (ah))) (aj (aD 3 jB.nd (ai)) (aj (aD 4 jB.nd (aO bN T.z_len PySem.boot_len (ae (aa 1) (ah)))) (aj (iZ 5 jB.nd (dD (aa 0)) (aq (aS (aL (bH hr.units150) (aa 5) (ai)) (aj (cg (db PySem.F.plainAttrs_list PySem.F.slot_list_append PySem.F.type_list_append bu (aa 2) (ae (aP (ay hr.units1) (aa 1) (aa 3) (fun _ _ => rfl)) (ah)))) (aq (aD 3 jB.nd (az bv (aa 3) (ai))))) (aj (aD 4 jB.nd (az dQ (aa 4) (ai))) (aq (cg (db PySem.F.plainAttrs_list PySem.F.slot_list_append PySem.F.type_list_append bu (aa 2) (ae (aP (ay hr.units1) (aa 1) (aa 4) (fun _ _ => rfl)) (ah)))))))) PassesOwn.never) (aq (aG (az bv (aa 2) (cS (ae (aP (ay hr.units1) (aa 1) (aa 3) (fun _ _ => rfl)) (ah)))))))))
theorem qK : aV P w K mg base (CX1 P w) 1 A.a_13 A.d_13 ["_law_count", "_law_steps_here", "_law_dealt_here", "_law_height", "_law_top"] (iO K A) :=
 T.f_13.f.okS DE (yJ K A) (Ck T.1) fun _ _ _ _ _ _ hr =>
 aj (aS (aL (bH hr.units150) (aa 3) (aO bN T.z_len PySem.boot_len (ae (aa 1) (ah)))) (aq (aG (bp (ae (bz) (ae (aa 0) (ae (aa 4) (ah))))))) (aN)) (aj (aS (aL (bH hr.units150) (aP (ay hr.units1) (aa 1) (az dQ (cT (ai)) (aa 3)) (fun _ _ => rfl)) (ai)) (aq (aG (bp (ae (bz) (ae (aP (ay hr.units1) (aa 2) (az dQ (cT (ai)) (aa 3)) (fun _ _ => rfl)) (ae (aa 4) (ah))))))) (aN)) (aq (aG (bp (ae (bz) (ae (aa 4) (ae (aP (ay hr.units1) (aa 2) (az dQ (cT (ai)) (aa 3)) (fun _ _ => rfl)) (ah))))))))
theorem cJ : oK P w K mg base 5 (cz K A) := fun ts hts => by
 simp only [cz, List.mem_cons, List.not_mem_nil, or_false] at hts
 rcases hts with rfl | rfl | rfl | rfl
 · exact (Cs T).mono (by decide)
 · exact (BU T).mono (by decide)
 · exact (CQ T).mono (by decide)
 · exact (Dy T).mono (by decide)
theorem uM : aV P w K mg base (CX1 P w) 6 A.a_6 A.d_6 ["_law_stamper_here", "_law_count", "_law_elder", "_law_steps_here", "_law_marks", "_law_height"] (gJ K A) :=
 T.f_6.f.okS fW (Bg K A) (Ex T.1) fun _ _ _ _ _ _ hr =>
 aj (aD 6 fW.nd (aT (Eg T) hr.le T.f_8 (ae (aa 3) (ae (aa 4) (ah))))) (aj (aD 7 fW.nd (cS (ah))) (aj (aD 8 fW.nd (cS (ah))) (aj (aD 9 fW.nd (aP (ay hr.units1) (aa 6) (cT (ai)) (fun _ _ => rfl))) (aj (aD 10 fW.nd (aP (ay hr.units1) (aa 6) (cT (ai)) (fun _ _ => rfl))) (aj (iZ 11 fW.nd (jf T.z_range (ae (aa 5) (ah))) (aj (cg (db PySem.F.plainAttrs_list PySem.F.slot_list_append PySem.F.type_list_append bu (aa 7) (ae (aT (qK T) hr.le T.f_13 (ae (aa 1) (ae (aa 3) (ae (aa 6) (ae (aa 11) (ae (aa 9) (ah))))))) (ah)))) (aj (aD 9 fW.nd (cH (cJ T) hr.le cq (aa 0) (ae (aP (ay hr.units1) (aa 7) (cT (ai)) (fun _ _ => rfl)) (ah)))) (aq (aS (aL (bH hr.units150) (aP (ay hr.units1) (aa 3) (az dQ (cT (ai)) (aa 11)) (fun _ _ => rfl)) (ai)) (aj (cg (db PySem.F.plainAttrs_list PySem.F.slot_list_append PySem.F.type_list_append bu (aa 8) (ae (aT (qK T) hr.le T.f_13 (ae (aa 1) (ae (aa 3) (ae (aa 6) (ae (aa 11) (ae (aa 10) (ah))))))) (ah)))) (aq (aD 10 fW.nd (cH (cJ T) hr.le cq (aa 0) (ae (aP (ay hr.units1) (aa 8) (cT (ai)) (fun _ _ => rfl)) (ah)))))) (aN))))) PassesOwn.never) (aj (cg (db PySem.F.plainAttrs_list PySem.F.slot_list_append PySem.F.type_list_append bu (aa 7) (ae (aT (qK T) hr.le T.f_13 (ae (aa 1) (ae (aa 3) (ae (aa 6) (ae (aa 5) (ae (aa 9) (ah))))))) (ah)))) (aj (aS (aL (bH hr.units150) (aa 2) (ai)) (aj (cg (db PySem.F.plainAttrs_list PySem.F.slot_list_append PySem.F.type_list_append bu (aa 8) (ae (bp (ae (bz) (ah))) (ah)))) (aq (aD 10 fW.nd (cH (cJ T) hr.le cq (aa 0) (ae (bp (ae (bz) (ah))) (ah)))))) (aN)) (aq (aG (cS (ae (aa 7) (ae (az bv (aa 8) (cS (ae (bp (ae (bz) (ae (aa 2) (ae (aa 10) (ah))))) (ah)))) (ah)))))))))))))
theorem wm : aV P w K mg base (CX1 P w) 1 A.a_12 A.d_12 ["_law_mark"] (iM K A) :=
 T.f_12.f.okS BK (Al K A) (Cn T.1) fun _ _ _ _ _ _ hr =>
 aj (aS (ck (aO dJ T.z_isinstance boot_isinstance (ae (aa 0) (ae (dN T.z_str boot_str) (ah))))) (aq (aG (az iR (aP (ay hr.units1) (cS (ae (bz) (ae (bz) (ah)))) (jt yG T.z_int L2.sk (ae (gN (bH hr.units150) (fx gn (aa 0) (ft) (fw (ai))) (bz)) (ah))) (fun _ _ => rfl)) (aO bN T.z_len PySem.boot_len (ae (aa 0) (ah)))))) (aN)) (aq (aG (az cj (az bv (aa 0) (ai)) (az vf (ai) (ai)))))
theorem Ff : aV P w K mg base (CX1 P w) 3 A.a_5 A.d_5 ["_law_kind", "_law_cell", "_law_marks"] (nV K A) :=
 T.f_5.f.okS nQ (Cu K A) (El T.1) fun _ _ _ _ _ _ hr =>
 aj (aD 3 nQ.nd (az cj (aa 1) (aO bN T.z_len PySem.boot_len (ae (aa 2) (ah))))) (aj (aS (aL (bH hr.units150) (aa 0) (ai)) (aq (aG (az bv (fx gn (aa 2) (fw (ai)) (ft)) (fx gn (aa 2) (ft) (fw (ai)))))) (aN)) (aj (aS (aL (bH hr.units150) (aa 0) (ai)) (aq (aG (ue T.z_tuple T.z_reversed rfl (ae (aa 2) (ah))))) (aN)) (aj (aD 4 nQ.nd (aT (wm T) hr.le T.f_12 (ae (aP (ay hr.units1) (aa 2) (aa 3) (fun _ _ => rfl)) (ah)))) (aj (aS (aL (bH hr.units150) (aa 0) (ai)) (aq (aD 4 nQ.nd (aT (wb T) hr.le T.f_17 (ae (az cK (aa 1) (ai)) (ah))))) (aN)) (aj (aD 5 nQ.nd (az bv (az bv (fx gn (aa 2) (ft) (fw (aa 3))) (bp (ae (aa 4) (ah)))) (fx gn (aa 2) (fw (az bv (aa 3) (ai))) (ft)))) (aj (aS (aL (bH hr.units150) (aa 0) (ai)) (aq (aG (az bv (bp (ae (aT (wm T) hr.le T.f_12 (ae (aP (ay hr.units1) (aa 2) (ai) (fun _ _ => rfl)) (ah))) (ah))) (fx gn (aa 5) (fw (ai)) (ft))))) (aN)) (aq (aG (aa 5)))))))))
theorem CI : aV P w K mg base (CX1 P w) 1 A.a_14 A.d_14 ["_law_known", "_law_alias", "_law_new", "_law_old"] (jR K A) :=
 T.f_14.f.okS Bz (yQ K A) (Cc T.1) fun _ _ _ _ _ _ hr =>
 aq (aS (aL (iU hr.units150) (aa 2) (aa 0)) (aq (mK hr.units1 (aa 1) (aa 2) (aa 3))) (aN))
theorem wd : aV P w K mg base (CX1 P w) 1 A.a_11 A.d_11 ["_law_found", "_law_due"] (jF K A) :=
 T.f_11.f.okS vU (zo K A) (BG T.1) fun _ _ _ _ _ _ hr =>
 aj (aS (x_w (fQ (dk (ck (aO dJ T.z_isinstance boot_isinstance (ae (aa 0) (ae (dN T.z_list boot_list) (ah)))))) (gf (aL (fT hr.units150) (aO bN T.z_len PySem.boot_len (ae (aa 0) (ah))) (aO bN T.z_len PySem.boot_len (ae (aa 1) (ah))))))) (aq (aG (eM))) (aN)) (aj (rX 2 3 vU.nd (zp T.z_zip (ae (aa 0) (ae (aa 1) (ah)))) (aq (aS (x_w (fQ (dk (ck (aO dJ T.z_isinstance boot_isinstance (ae (aa 2) (ae (dN T.z_tuple boot_tuple) (ah)))))) (fQ (aL (fT hr.units150) (aa 2) (aa 3)) (gf (aL (fT hr.units150) (gt (ys := []) (by exact ⟨rfl, by decide +kernel, by decide +kernel, rfl, by decide +kernel, by decide +kernel⟩) (by exact .nil) (dD (aa 2)) (fun C s H fp => xa (ck (aO dJ T.z_isinstance boot_isinstance (ae (aa 0) (ae (dN T.z_bool boot_bool) (ah)))))) (fun C s H fp => (aa 0))) (cS (ah))))))) (aq (aG (eM))) (aN))) PassesOwn.never) (aq (aG (eM))))
theorem Eu : aV P w K mg base (CX1 P w) 2 A.a_3 A.d_3 ["_law_found", "_law_due"] (mL K A) :=
 T.f_3.f.okS Fp (Bc K A) (DW T.1) fun _ _ _ _ _ _ hr =>
 aj (aS (x_w (fQ (dk (ck (aO dJ T.z_isinstance boot_isinstance (ae (aa 0) (ae (dN T.z_tuple boot_tuple) (ah)))))) (gf (aL (fT hr.units150) (aO bN T.z_len PySem.boot_len (ae (aa 0) (ah))) (ai))))) (aq (aG (eM))) (aN)) (aq (aG (dI (aT (wd T) hr.le T.f_11 (ae (aP (ay hr.units1) (aa 0) (ai) (fun _ _ => rfl)) (ae (aP (ay hr.units1) (aa 1) (ai) (fun _ _ => rfl)) (ah)))) (fK (aT (wd T) hr.le T.f_11 (ae (aP (ay hr.units1) (aa 0) (ai) (fun _ _ => rfl)) (ae (aP (ay hr.units1) (aa 1) (ai) (fun _ _ => rfl)) (ah))))))))
theorem wA : aV P w K mg base (CX1 P w) 2 A.a_34 A.d_34 ["thing"] (jD K A) :=
 T.f_34.f.okS AV (As K A) (BJ T.1) fun _ _ _ _ _ _ hr =>
 aq (aG (dI (aT (lU T) hr.le T.f_39 (ae (aa 0) (ah))) (fK (kq oLe oLt (ai) (aa 0) (az nF (ai) (ai))))))
theorem Df : aV P w K mg base (CX1 P w) 3 A.a_35 A.d_35 ["count", "elder"] (lX K A) :=
 T.f_35.f.okS Br (zr K A) (Du T.1) fun _ _ _ _ _ _ hr =>
 aq (aG (dI (aT (wA T) hr.le T.f_34 (ae (aa 0) (ah))) (dI (aT (lU T) hr.le T.f_39 (ae (aa 1) (ah))) (fK (kq oLe oLe (ai) (aa 1) (aa 0))))))
theorem Bu : aV P w K mg base (CX1 P w) 1 A.a_33 A.d_33 ["many"] (lV K A) :=
 T.f_33.f.okS Db (zK K A) (Bp T.1) fun _ _ _ _ _ _ hr =>
 aq (aG (az nF (ai) (az dQ (Cp PySem.F.plainAttrs_int PySem.F.slot_int_bit_length PySem.F.type_int_bit_length xw (az dQ (aa 0) (ai))) (ai))))
theorem CV : aV P w K mg base (CX1 P w) 2 A.a_32 A.d_32 ["count", "elder"] (mf K A) :=
 T.f_32.f.okS fO (AH K A) (AX T.1) fun _ _ _ _ _ _ hr =>
 aj (aD 2 fO.nd (cS (ah))) (aj (aD 3 fO.nd (aa 1)) (aj (aD 4 fO.nd (aa 0)) (aj (kI (jA oLt oLt (ai) (aa 3) (aa 4)) (aj (aD 5 fO.nd (aT (Bu T) hr.le T.f_33 (ae (aa 4) (ah)))) (aq (aS (aL oLe (aa 3) (aa 5)) (aj (cg (db PySem.F.plainAttrs_list PySem.F.slot_list_append PySem.F.type_list_append bu (aa 2) (ae (ai) (ah)))) (aq (aD 4 fO.nd (aa 5)))) (aj (cg (db PySem.F.plainAttrs_list PySem.F.slot_list_append PySem.F.type_list_append bu (aa 2) (ae (ai) (ah)))) (aj (aD 3 fO.nd (az dQ (aa 3) (aa 5))) (aq (aD 4 fO.nd (az dQ (aa 4) (aa 5))))))))) PassesOwn.never) (aq (aG (aa 2))))))
theorem CT : aV P w K mg base (CX1 P w) 3 A.a_24 A.d_24 ["many", "thing"] (mD K A) :=
 T.f_24.f.okS Cq (yY K A) (CG T.1) fun _ _ _ _ _ _ hr =>
 aq (aG (dI (aO dJ T.z_isinstance boot_isinstance (ae (aa 1) (ae (dN T.z_tuple boot_tuple) (ah)))) (dI (gN (bH hr.units150) (aO bN T.z_len PySem.boot_len (ae (aa 1) (ah))) (aa 0)) (fK (aO (yC rfl) T.z_all L2.rT (ae (gt (ys := []) (by exact ⟨rfl, by decide +kernel, by decide +kernel, rfl, by decide +kernel, by decide +kernel⟩) (by exact .nil) (dD (aa 1)) (fun C s H fp => ii) (fun C s H fp => (aT (qi T) hr.le T.f_37 (ae (aa 0) (ah))))) (ah)))))))
theorem wH : aV P w K mg base (CX1 P w) 6 A.a_44 A.d_44 ["stamper"] (jW K A) :=
 T.f_44.f.okS Cw (yS K A) (Bl T.1) fun _ _ _ _ _ _ hr =>
 aq (aG (cS (ae (bp (ae (bz) (ah))) (ae (bp (ae (bz) (ae (ai) (ae (cH (cJ T) hr.le cq (aa 0) (ae (bp (ae (bz) (ah))) (ah))) (ah))))) (ah)))))
theorem vV : aV P w K mg base (CX1 P w) 1 A.a_40 A.d_40 ["turn", "own", "aside"] (jU K A) :=
 T.f_40.f.okS BH (yK K A) (DD T.1) fun _ _ _ _ _ _ hr =>
 aq (aG (ut (aL (bH hr.units150) (aa 0) (ai)) (bp (ae (bz) (ae (aa 1) (ae (aa 2) (ah))))) (bp (ae (bz) (ae (aa 2) (ae (aa 1) (ah)))))))
theorem DH : aV P w K mg base (CX1 P w) 6 A.a_29 A.d_29 ["stamper", "count", "elder", "steps"] (md K A) :=
 T.f_29.f.okS fN (AF K A) (DK T.1) fun _ _ _ _ _ _ hr =>
 aj (aD 4 fN.nd (cS (ah))) (aj (aD 5 fN.nd (cS (ah))) (aj (aD 6 fN.nd (aP (ay hr.units1) (aa 3) (ai) (fun _ _ => rfl))) (aj (aD 7 fN.nd (aP (ay hr.units1) (aa 3) (ai) (fun _ _ => rfl))) (aj (iZ 8 fN.nd (dD (aP (ay hr.units1) (aa 3) (ai) (fun _ _ => rfl))) (aj (cg (db PySem.F.plainAttrs_list PySem.F.slot_list_append PySem.F.type_list_append bu (aa 4) (ae (aT (vV T) hr.le T.f_40 (ae (aP (ay hr.units1) (aa 8) (ai) (fun _ _ => rfl)) (ae (aa 6) (ae (aP (ay hr.units1) (aa 8) (ai) (fun _ _ => rfl)) (ah))))) (ah)))) (aj (aD 6 fN.nd (cH (cJ T) hr.le cq (aa 0) (ae (aP (ay hr.units1) (aa 4) (cT (ai)) (fun _ _ => rfl)) (ah)))) (aq (aS (aL (bH hr.units150) (aP (ay hr.units1) (aa 8) (ai) (fun _ _ => rfl)) (ai)) (aj (cg (db PySem.F.plainAttrs_list PySem.F.slot_list_append PySem.F.type_list_append bu (aa 5) (ae (aT (vV T) hr.le T.f_40 (ae (aP (ay hr.units1) (aa 8) (ai) (fun _ _ => rfl)) (ae (aa 7) (ae (aP (ay hr.units1) (aa 8) (ai) (fun _ _ => rfl)) (ah))))) (ah)))) (aq (aD 7 fN.nd (cH (cJ T) hr.le cq (aa 0) (ae (aP (ay hr.units1) (aa 5) (cT (ai)) (fun _ _ => rfl)) (ah)))))) (aN))))) PassesOwn.never) (aj (cg (db PySem.F.plainAttrs_list PySem.F.slot_list_append PySem.F.type_list_append bu (aa 4) (ae (bp (ae (bz) (ae (aa 1) (ae (aa 6) (ah))))) (ah)))) (aj (cg (db PySem.F.plainAttrs_list PySem.F.slot_list_append PySem.F.type_list_append bu (aa 5) (ae (bp (ae (bz) (ae (aa 2) (ae (aa 7) (ah))))) (ah)))) (aq (aG (bp (ae (aa 4) (ae (aa 5) (ah))))))))))))
theorem DG : aV P w K mg base (CX1 P w) 1 A.a_43 A.d_43 ["turns", "marks"] (lY K A) :=
 T.f_43.f.okS gF (AK K A) (CN T.1) fun _ _ _ _ _ _ hr =>
 aj (aD 2 gF.nd (cS (ah))) (aj (aD 3 gF.nd (ai)) (aj (aD 4 gF.nd (az dQ (aO bN T.z_len PySem.boot_len (ae (aa 1) (ah))) (ai))) (aj (iZ 5 gF.nd (dD (aa 0)) (aq (aS (aL (bH hr.units150) (aa 5) (ai)) (aj (cg (db PySem.F.plainAttrs_list PySem.F.slot_list_append PySem.F.type_list_append bu (aa 2) (ae (bp (ae (aa 5) (ae (aP (ay hr.units1) (aa 1) (aa 4) (fun _ _ => rfl)) (ah)))) (ah)))) (aq (aD 4 gF.nd (az dQ (aa 4) (ai))))) (aj (cg (db PySem.F.plainAttrs_list PySem.F.slot_list_append PySem.F.type_list_append bu (aa 2) (ae (bp (ae (aa 5) (ae (aP (ay hr.units1) (aa 1) (aa 3) (fun _ _ => rfl)) (ah)))) (ah)))) (aq (aD 3 gF.nd (az bv (aa 3) (ai))))))) PassesOwn.never) (aq (aG (bp (ae (aP (ay hr.units1) (aa 1) (aa 3) (fun _ _ => rfl)) (ae (sR T.z_list T.z_reversed rfl (ae (aa 2) (ah))) (ah)))))))))
theorem wG : aV P w K mg base (CX1 P w) 7 A.a_31 A.d_31 ["stamper", "count", "elder", "marks"] (iX K A) :=
 T.f_31.f.okS pP (zB K A) (Ca T.1) fun _ _ _ _ _ _ hr =>
 aj (aS (dk (ck (aT (Df T) hr.le T.f_35 (ae (aa 1) (ae (aa 2) (ah)))))) (aq (gr)) (aN)) (aj (aD 4 pP.nd (aT (CV T) hr.le T.f_32 (ae (aa 1) (ae (aa 2) (ah))))) (aj (aS (dk (ck (aT (CT T) hr.le T.f_24 (ae (ut (aL (bH hr.units150) (aa 1) (ai)) (ai) (az bv (aO bN T.z_len PySem.boot_len (ae (aa 4) (ah))) (ai))) (ae (aa 3) (ah)))))) (aq (gr)) (aN)) (aj (aS (aL (bH hr.units150) (aa 2) (ai)) (aj (aD 5 pP.nd (ut (aL (bH hr.units150) (aa 1) (ai)) (aT (wH T) hr.le T.f_44 (ae (aa 0) (ah))) (cS (ae (bp (ae (bz) (ae (aa 1) (ae (aP (ay hr.units1) (aa 3) (ai) (fun _ _ => rfl)) (ah))))) (ah))))) (aq (aG (bp (ae (aa 5) (ae (aT (wH T) hr.le T.f_44 (ae (aa 0) (ah))) (ah))))))) (aN)) (aq (aG (aT (DH T) hr.le T.f_29 (ae (aa 0) (ae (aa 1) (ae (aa 2) (ae (aT (DG T) hr.le T.f_43 (ae (aa 4) (ae (aa 3) (ah)))) (ah)))))))))))
theorem CY : aV P w K mg base (CX1 P w) 3 A.a_36 A.d_36 ["thing"] (mi K A) :=
 T.f_36.f.okS BQ (AC K A) (Dd T.1) fun _ _ _ _ _ _ hr =>
 aq (aG (dI (aO dJ T.z_isinstance boot_isinstance (ae (aa 0) (ae (dN T.z_tuple boot_tuple) (ah)))) (dI (gN (bH hr.units150) (aO bN T.z_len PySem.boot_len (ae (aa 0) (ah))) (ai)) (dI (aT (wA T) hr.le T.f_34 (ae (aP (ay hr.units1) (aa 0) (ai) (fun _ _ => rfl)) (ah))) (fK (aT (qi T) hr.le T.f_37 (ae (aP (ay hr.units1) (aa 0) (ai) (fun _ _ => rfl)) (ah))))))))
theorem DF : aV P w K mg base (CX1 P w) 4 A.a_25 A.d_25 ["thing"] (ms K A) :=
 T.f_25.f.okS BT (AJ K A) (BS T.1) fun _ _ _ _ _ _ hr =>
 aq (aS (dk (ck (aT (CY T) hr.le T.f_36 (ae (aa 0) (ah))))) (aq (gr)) (aN))
theorem EI : aV P w K mg base (CX1 P w) 1 A.a_0 A.d_0 ["self", "due", "came"] (qz K A) :=
 T.f_0.okS Ez (Ds K A) (Fh T.1) fun _ _ _ _ _ _ hr =>
 aj (sJ (aa 0) (aa 1)) (aq (sJ (aa 0) (aa 2)))
theorem Dz (cdv : Value) (Ar : Around) (outer : List Env) (s : Shared) (H : Hp) (E : XK)
  (hr : bc 7 (Ar.deeper (envOfC "growth_answer" (am km) s.heap.objs.size A.a_30 cdv))) : PSs (de (CX1 P w) P w K mg base ["stamper", "head", "elder", "marks", "terms", "came"] "growth_answer" (am km) A.a_30 cdv Ar outer s H E) (aQ km) (zv K A E) := QSs.out (
 aj (cg (aT (DF T) hr.le T.f_25 (ae (aa 1) (ah)))) (aj (aD 4 qG.nd (aT (wG T) hr.le T.f_31 (ae (aa 0) (ae (aP (ay hr.units1) (aa 1) (ai) (fun _ _ => rfl)) (ae (aa 2) (ae (aa 3) (ah))))))) (aj (aD 5 qG.nd (cH (cJ T) hr.le cq (aa 0) (ae (aP (ay hr.units1) (aP (ay hr.units1) (aa 4) (ai) (fun _ _ => rfl)) (cT (ai)) (fun _ _ => rfl)) (ah)))) (aj (aS (aL (fT hr.units150) (aa 5) (aP (ay hr.units1) (aa 1) (ai) (fun _ _ => rfl))) (aq (uc T.em_Broken (EI T) hr.le T.b_0 T.mc_Broken sU (ae (aP (ay hr.units1) (aa 1) (ai) (fun _ _ => rfl)) (ae (aa 5) (ah))))) (aN)) (aq (aG (cH (cJ T) hr.le cq (aa 0) (ae (aP (ay hr.units1) (aP (ay hr.units1) (aa 4) (ai) (fun _ _ => rfl)) (cT (ai)) (fun _ _ => rfl)) (ah)))))))))
theorem Bm : aV P w K mg base (CX1 P w) 8 A.a_30 A.d_30 ["stamper", "head", "elder", "marks"] (mj K A) :=
 T.f_30.f.okX qG (yx K A) (fun cdv Ar outer s H vs Q E hr h => ⟨_, Dz T cdv Ar outer s H E hr, Dh T.1 vs H Q E h⟩)
theorem wo : aV P w K mg base (CX1 P w) 9 A.a_21 A.d_21 ["_law_stamper_here", "_law_head", "_law_elder", "_law_marks"] (gH K A) :=
 T.f_21.f.okS iV (zl K A) (BO T.1) fun _ _ _ _ _ E hr =>
 aj (aD 4 iV.nd (jZ)) (aj (aD 5 iV.nd (jZ)) (aj (BV (fun pn' E' EH hEH => aq (aD 5 iV.nd (pq (Bm T) hr.le T.f_30.m T.f_30.f.kp T.f_30.b hEH (ae (aa 0) (ae (aa 1) (ae (aa 2) (ae (aa 3) (ah)))))))) (Bi 6 iV.nd T.eo_Broken T.mc_Broken (fun a => aq (aD 4 iV.nd (aa 6))) (AA)) (aN)) (aj (aS (aL DZ (aa 4) (jZ)) (aq (aG (bp (ae (bz) (ae (aa 5) (ah)))))) (aN)) (aq (aG (bp (ae (bz) (ae (sf (aa 4)) (ae (sf (aa 4)) (ah))))))))))
theorem wg : aV P w K mg base (CX1 P w) 6 A.a_26 A.d_26 ["stamper", "terms"] (gM K A) :=
 T.f_26.f.okS mC (AL K A) (Bv T.1) fun _ _ _ _ _ _ hr =>
 aj (aD 2 mC.nd (iS)) (aj (iZ 3 mC.nd (dD (aa 1)) (aj (aD 4 mC.nd (db PySem.F.plainAttrs_dict PySem.F.slot_dict_setdefault PySem.F.type_dict_setdefault (la hr.units1) (aa 2) (ae (cH (cJ T) hr.le cq (aa 0) (ae (aa 3) (ah))) (ae (aa 3) (ah))))) (aq (aS (aL (fT hr.units150) (aa 4) (aa 3)) (aq (aG (bp (ae (aa 4) (ae (aa 3) (ah)))))) (aN)))) PassesOwn.never) (aq (aG (jZ))))
theorem Dk : aV P w K mg base (CX1 P w) 6 A.a_10 A.d_10 ["_law_stamper_here", "_law_terms", "_law_found"] (jQ K A) :=
 T.f_10.f.okS BC (yg K A) (BR T.1) fun _ _ _ _ _ _ hr =>
 aj (aS (x_w (fQ (dk (ck (aO dJ T.z_isinstance boot_isinstance (ae (aa 2) (ae (dN T.z_tuple boot_tuple) (ah)))))) (fQ (aL (fT hr.units150) (aO bN T.z_len PySem.boot_len (ae (aa 2) (ah))) (ai)) (gf (aL (bH hr.units150) (aP (ay hr.units1) (aa 2) (ai) (fun _ _ => rfl)) (aP (ay hr.units1) (aa 2) (ai) (fun _ _ => rfl))))))) (aq (aG (eM))) (aN)) (aj (aS (x_w (fQ (aL (iU hr.units150) (aP (ay hr.units1) (aa 2) (ai) (fun _ _ => rfl)) (aa 1)) (gf (aL (iU hr.units150) (aP (ay hr.units1) (aa 2) (ai) (fun _ _ => rfl)) (aa 1))))) (aq (aG (eM))) (aN)) (aq (aG (gN (bH hr.units150) (cH (cJ T) hr.le cq (aa 0) (ae (aP (ay hr.units1) (aa 2) (ai) (fun _ _ => rfl)) (ah))) (cH (cJ T) hr.le cq (aa 0) (ae (aP (ay hr.units1) (aa 2) (ai) (fun _ _ => rfl)) (ah)))))))
theorem Bs : aV P w K mg base (CX1 P w) 10 A.a_41 A.d_41 ["_law_script"] (mn K A) :=
 T.f_41.f.okS cC (zw K A) (BB T.1) fun _ _ _ _ _ _ hr =>
 aj (aD 1 cC.nd (az cj (aT (ir T) hr.le T.f_4 (ae (aa 0) (ae (ai) (ah)))) (ai))) (aj (aD 2 cC.nd (iS)) (aj (aD 3 cC.nd (iS)) (aj (aD 4 cC.nd (aT (BX T) hr.le T.f_18 (ae (aa 1) (ae (az cK (aT (ir T) hr.le T.f_4 (ae (aa 0) (ae (ai) (ah)))) (ai)) (ae (aa 2) (ae (aa 3) (ah))))))) (aj (aD 5 cC.nd (aT (DR T) hr.le T.f_7 (ae (aT (ir T) hr.le T.f_4 (ae (aa 0) (ae (ai) (ah)))) (ah)))) (aj (aD 6 cC.nd (aT (Es T) hr.le T.f_9 (ae (aT (ir T) hr.le T.f_4 (ae (aa 0) (ae (ai) (ah)))) (ae (aa 5) (ah))))) (aj (aD 7 cC.nd (aT (DC T) hr.le T.f_19 (ae (aa 5) (ae (aa 6) (ah))))) (aj (aD 8 cC.nd (jt yN T.z_tuple boot_tuple (ae (gt (ys := ["_law_script"]) (by exact ⟨rfl, by decide +kernel, by decide +kernel, rfl, by decide +kernel, by decide +kernel⟩) (by exact .cons rfl (by first | exact .inl rfl | exact .inr rfl) rfl (.nil)) (jf T.z_range (ae (az bv (aO bN T.z_len PySem.boot_len (ae (aa 7) (ah))) (ai)) (ah))) (fun C s H fp => ii) (fun C s H fp => (aT (wb T) hr.le T.f_17 (ae (az bv (aT (ir T) hr.le T.f_4 (ae (aa 1) (ae (az bv (ai) (aa 0)) (ah)))) (az iR (ai) (aa 0))) (ah))))) (ah)))) (aj (aD 9 cC.nd (aT (uM T) hr.le T.f_6 (ae (aa 4) (ae (aa 5) (ae (aa 6) (ae (aa 7) (ae (aa 8) (ae (aO bN T.z_len PySem.boot_len (ae (aa 7) (ah))) (ah))))))))) (aj (aD 10 cC.nd (cH (cJ T) hr.le cq (aa 4) (ae (aP (ay hr.units1) (aP (ay hr.units1) (aa 9) (ai) (fun _ _ => rfl)) (cT (ai)) (fun _ _ => rfl)) (ah)))) (aj (aD 11 cC.nd (aT (Ff T) hr.le T.f_5 (ae (az cj (aT (ir T) hr.le T.f_4 (ae (aa 0) (ae (ai) (ah)))) (ai)) (ae (az cK (aT (ir T) hr.le T.f_4 (ae (aa 0) (ae (ai) (ah)))) (ai)) (ae (aa 8) (ah)))))) (aj (aD 12 cC.nd (az cj (aT (ir T) hr.le T.f_4 (ae (aa 0) (ae (ai) (ah)))) (aO bN T.z_len PySem.boot_len (ae (aP (ay hr.units1) (aa 9) (ai) (fun _ _ => rfl)) (ah))))) (aj (aS (aL oLt (aa 1) (ai)) (aj (aD 13 cC.nd (aP (ay hr.units1) (aP (ay hr.units1) (aT (uM T) hr.le T.f_6 (ae (aa 4) (ae (aa 5) (ae (aa 6) (ae (aa 7) (ae (aa 11) (ae (aa 12) (ah)))))))) (ai) (fun _ _ => rfl)) (cT (ai)) (fun _ _ => rfl))) (aq (cg (aT (CI T) hr.le T.f_14 (ae (aa 2) (ae (aa 3) (ae (aa 13) (ae (aP (ay hr.units1) (aP (ay hr.units1) (aa 9) (ai) (fun _ _ => rfl)) (aa 12) (fun _ _ => rfl)) (ah))))))))) (aN)) (aj (aD 14 cC.nd (aT (uM T) hr.le T.f_6 (ae (aa 4) (ae (aa 5) (ae (aa 6) (ae (aa 7) (ae (aa 11) (ae (aO bN T.z_len PySem.boot_len (ae (aa 7) (ah))) (ah))))))))) (aj (aD 15 cC.nd (cH (cJ T) hr.le cq (aa 4) (ae (aP (ay hr.units1) (aP (ay hr.units1) (aa 14) (ai) (fun _ _ => rfl)) (cT (ai)) (fun _ _ => rfl)) (ah)))) (aj (rX 16 17 cC.nd (dD (cS (ae (bp (ae (aa 8) (ae (aa 9) (ah)))) (ae (bp (ae (aa 11) (ae (aa 14) (ah)))) (ah))))) (aq (aS (dk (ck (aT (Eu T) hr.le T.f_3 (ae (aT (wG T) hr.le T.f_31 (ae (aa 4) (ae (aa 5) (ae (aa 6) (ae (aa 16) (ah)))))) (ae (aa 17) (ah)))))) (aq (aG (eM))) (aN))) PassesOwn.never) (aj (aS (aL (fT hr.units150) (aT (wo T) hr.le T.f_21 (ae (aa 4) (ae (bp (ae (aa 5) (ae (aa 10) (ah)))) (ae (aa 6) (ae (aa 8) (ah)))))) (bp (ae (bz) (ae (cH (cJ T) hr.le cq (aa 4) (ae (aP (ay hr.units1) (aP (ay hr.units1) (aa 9) (ai) (fun _ _ => rfl)) (cT (ai)) (fun _ _ => rfl)) (ah))) (ah))))) (aq (aG (eM))) (aN)) (aj (aD 18 cC.nd (aT (wo T) hr.le T.f_21 (ae (aa 4) (ae (bp (ae (aa 5) (ae (aa 10) (ah)))) (ae (aa 6) (ae (aa 11) (ah))))))) (aj (aD 19 cC.nd (az bv (az bv (az bv (aP (ay hr.units1) (aa 9) (ai) (fun _ _ => rfl)) (aP (ay hr.units1) (aa 9) (ai) (fun _ _ => rfl))) (aP (ay hr.units1) (aa 14) (ai) (fun _ _ => rfl))) (aP (ay hr.units1) (aa 14) (ai) (fun _ _ => rfl)))) (aj (aS (x_w (nX (aL (bH hr.units150) (aa 1) (ai)) (kO (aL wT (aT (wg T) hr.le T.f_26 (ae (aa 4) (ae (aa 19) (ah)))) (jZ))))) (aq (aG (eM))) (aN)) (aj (aS (aL (fT hr.units150) (aa 15) (aa 10)) (aq (aG (gN (bH hr.units150) (aa 18) (bp (ae (bz) (ae (aa 10) (ae (aa 15) (ah)))))))) (aN)) (aj (aS (x_w (fQ (aL (fT hr.units150) (aa 18) (bp (ae (bz) (ae (cH (cJ T) hr.le cq (aa 4) (ae (aP (ay hr.units1) (aP (ay hr.units1) (aa 14) (ai) (fun _ _ => rfl)) (cT (ai)) (fun _ _ => rfl)) (ah))) (ah))))) (gf (ck (aO dJ T.z_isinstance boot_isinstance (ae (aP (ay hr.units1) (aa 18) (ai) (fun _ _ => rfl)) (ae (dN T.z_bool boot_bool) (ah)))))))) (aq (aG (eM))) (aN)) (aj (aS (aL (bH hr.units150) (aa 11) (aa 8)) (aq (aG (eM))) (aN)) (aq (aG (dI (gN oLt (aa 1) (ai)) (fK (aT (Dk T) hr.le T.f_10 (ae (aa 4) (ae (aa 19) (ae (aT (wg T) hr.le T.f_26 (ae (aa 4) (ae (aa 19) (ah)))) (ah)))))))))))))))))))))))))))))))
omit T
def qa (P : Program) (w : World) (K : W.Frag) (mg : Str → Option Value) (fa : Addr) : Prop := ∃ (fd : FuncData) (tabs : List (Addr × Addr)) (sp : Sp), (∀ (s : Shared) (v : Value), BindsTo s fd ⟨[v], []⟩ [("_law_script", v)]) ∧ W.noTabs K = true ∧ (∀ t ∈ tabs, ∃ y ∈ (["_law_weak", "writing", "counting", "_law_planted"] : List Str), W.tabIn K y = some t) ∧ (∀ base : Heap, K.In base → base.Ns mainGlobals mg → BM mg base → (∀ t ∈ tabs, W.CodeHd base t.1 t.2) → aV P w K mg base (CX1 P w) 10 fa fd ["_law_script"] sp) ∧ ∀ (H : Hp) (a : Addr) (ns : List Int), ns.length ≤ 63 → (∀ t ∈ tabs, H t.2 = some (.tbl #[])) → SqL K H a (ns.map V.int) → sp [.ref a] H (fun v _ => v = .bl true) fun _ _ _ => False
theorem yF (T : Txt K mg A) (nt : W.noTabs K = true) (tb_22 : W.tabIn K "_law_weak" = some (A.k_22, A.t_22)) (tb_45 : W.tabIn K "writing" = some (A.k_45, A.t_45)) (tb_27 : W.tabIn K "counting" = some (A.k_27, A.t_27)) (tb_15 : W.tabIn K "_law_planted" = some (A.k_15, A.t_15)) (tdn : ([A.t_22, A.t_45, A.t_27, A.t_15] : List Addr).Nodup) : qa P w K mg A.a_41 := by
 refine ⟨A.d_41, [(A.k_22, A.t_22), (A.k_45, A.t_45), (A.k_27, A.t_27), (A.k_15, A.t_15)], mn K A, T.f_41.f.bt, nt, ?_, fun base _ _ B C => ?_, fun H a ns hl hO hS => ⟨a, ns, rfl, hS, hl, ⟨hO (A.k_22, A.t_22) (by simp), hO (A.k_45, A.t_45) (by simp), hO (A.k_27, A.t_27) (by simp), hO (A.k_15, A.t_15) (by simp), tdn⟩, fun _ => rfl⟩⟩
 · intro t ht
   simp only [List.mem_cons, List.not_mem_nil, or_false] at ht
   rcases ht with rfl | rfl | rfl | rfl
   · exact ⟨"_law_weak", by simp, tb_22⟩
   · exact ⟨"writing", by simp, tb_45⟩
   · exact ⟨"counting", by simp, tb_27⟩
   · exact ⟨"_law_planted", by simp, tb_15⟩
 · exact Bs ⟨T, B, C (A.k_22, A.t_22) (by simp), C (A.k_45, A.t_45) (by simp), C (A.k_27, A.t_27) (by simp), C (A.k_15, A.t_15) (by simp)⟩
theorem zG {h : Heap} {fa : Addr} (X : K.In h) (G : h.Ns mainGlobals mg) (hfa : mg "law" = some (.ref fa)) {x_39 x_37 x_38 x_42 x_47 x_2 x_4 x_22 x_45 x_1 x_27 x_15 x_18 x_7 x_9 x_19 x_20 x_17 x_8 x_13 x_6 x_12 x_5 x_14 x_11 x_3 x_34 x_35 x_33 x_32 x_24 x_44 x_40 x_29 x_43 x_31 x_36 x_25 x_0 x_30 x_21 x_26 x_10 x_41 y_Broken y_Numbers : Addr} {d0 d1 d2 d3 d4 d5 d6 d7 d8 d9 d10 d11 d12 d13 d14 d15 d16 d17 d18 d19 d20 d21 d22 d23 d24 d25 d26 d27 d28 d29 d30 d31 d32 d33 d34 d35 d36 d37 d38 d39 d40 d41 d42 d43 : FuncData} {tc0 : Tok}
  (bo_Numbers : W.nsIn K mainGlobals "Numbers" = some (some (.ref y_Numbers))) (bc_Broken : W.nsIn K mainGlobals "Broken" = some (some (.ref y_Broken))) (h0 : Fa K "is_whole" "is_whole" tP x_39 d0) (h1 : Fa K "is_stamp" "is_stamp" vv x_37 d1) (h2 : Fa K "is_term" "is_term" vP x_38 d2) (h3 : Fa K "part_form" "part_form" vm x_42 d3) (h4 : Fa K "written" "written" vB x_47 d4) (a5 : W.findIn K (.ref y_Numbers) "number_of" = some (some (.ref x_2))) (h5 : Fun K "number_of" "Numbers.number_of" s_2 x_2 d5) (fn5 : W.isFn K (.ref x_2) = true) (h6 : Fa K "_law_cell_at" "_law_cell_at" s_4 x_4 d6) (h7 : Fa K "_law_weak" "_law_weak" jq x_22 d7) (tb_22 : (W.tabIn K "_law_weak").isSome = true) (h8 : Fa K "writing" "writing" jo x_45 d8) (tb_45 : (W.tabIn K "writing").isSome = true) (a9 : W.findIn K (.ref y_Numbers) "__init__" = some (some (.ref x_1))) (h9 : Fun K "__init__" "Numbers.__init__" s_1 x_1 d9) (fn9 : W.isFn K (.ref x_1) = true) (h10 : Fa K "counting" "counting" jv x_27 d10) (tb_27 : (W.tabIn K "counting").isSome = true) (h11 : Fa K "_law_planted" "_law_planted" ji x_15 d11) (tb_15 : (W.tabIn K "_law_planted").isSome = true) (h12 : Fa K "_law_stamper" "_law_stamper" vk x_18 d12) (h13 : Fa K "_law_count_by" "_law_count_by" s_7 x_7 d13) (h14 : Fa K "_law_elder_by" "_law_elder_by" s_9 x_9 d14) (h15 : Fa K "_law_steps" "_law_steps" tK x_19 d15) (h16 : Fa K "_law_text_by" "_law_text_by" vI x_20 d16) (h17 : Fa K "_law_stamp_by" "_law_stamp_by" vc x_17 d17) (h18 : Fa K "_law_dealt" "_law_dealt" s_8 x_8 d18) (h19 : Fa K "_law_next" "_law_next" tu x_13 d19) (h20 : Fa K "_law_climb" "_law_climb" s_6 x_6 d20) (h21 : Fa K "_law_near" "_law_near" vi x_12 d21) (h22 : Fa K "_law_changed" "_law_changed" s_5 x_5 d22) (h23 : Fa K "_law_plant" "_law_plant" tU x_14 d23) (h24 : Fa K "_law_is_list" "_law_is_list" tT x_11 d24) (h25 : Fa K "_law_are_lists" "_law_are_lists" s_3 x_3 d25) (h26 : Fa K "is_count" "is_count" ub x_34 d26) (h27 : Fa K "is_elder" "is_elder" vg x_35 d27) (h28 : Fa K "half" "half" vd x_33 d28) (h29 : Fa K "growth_turns" "growth_turns" ve x_32 d29) (h30 : Fa K "are_marks" "are_marks" va x_24 d30) (h31 : Fa K "void_terms" "void_terms" uk x_44 d31) (h32 : Fa K "joint" "joint" ua x_40 d32) (h33 : Fa K "grown_terms" "grown_terms" uR x_29 d33) (h34 : Fa K "step_marks" "step_marks" uE x_43 d34) (h35 : Fa K "growth_terms" "growth_terms" tY x_31 d35) (h36 : Fa K "is_head" "is_head" uH x_36 d36) (h37 : Fa K "check_head" "check_head" ug x_25 d37) (a38 : W.findIn K (.ref y_Broken) "__init__" = some (some (.ref x_0))) (h38 : Fun K "__init__" "Broken.__init__" s_0 x_0 d38) (fn38 : W.isFn K (.ref x_0) = true) (h39 : Fa K "growth_answer" "growth_answer" km x_30 d39) (h40 : Fa K "_law_told" "_law_told" tD x_21 d40) (h41 : Fa K "clash" "clash" tI x_26 d41) (h42 : Fa K "_law_is_clash" "_law_is_clash" uK x_10 d42) (h43 : Fa K "law" "law" uV x_41 d43) (pg_Numbers : W.plainGet K y_Numbers Str.empty = true) (hd_Numbers : W.hasDictIn K y_Numbers = true) (po_Numbers : W.plainOver K y_Numbers = true) (sa_Numbers : W.findIn K (.ref y_Numbers) "__setattr__" = some (some (.builtin "object.__setattr__"))) (na_Numbers_given : W.findIn K (.ref y_Numbers) "given" = some none) (mk_Numbers : W.makesIn K y_Numbers = true) (kc_Numbers : W.keepIn K (.ref y_Numbers) = true) (eo2_Broken : mZ K y_Broken = true) (sa_Broken : W.findIn K (.ref y_Broken) "__setattr__" = some (some (.builtin "object.__setattr__"))) (hd_Broken : W.hasDictIn K y_Broken = true) (na_Broken_came : W.findIn K (.ref y_Broken) "came" = some none) (na_Broken_due : W.findIn K (.ref y_Broken) "due" = some none) (kc_Broken : W.keepIn K (.ref y_Broken) = true) (e0_Broken : W.findIn K (.ref y_Broken) "__getattribute__" = some (some (.builtin "BaseException.__getattribute__"))) (e1_Broken : W.findIn K (.ref y_Broken) "__getattr__" = some none) (e2_Broken : W.findIn K (.ref y_Broken) "__class__" = some (some (.builtin "object.__class__"))) (em0_Broken : W.mroIn K y_Broken (.type "object") = some true) (em1_Broken : W.mroIn K y_Broken (.type "BaseException") = some true) (sb_Broken_Broken : W.mroIn K y_Broken (.ref y_Broken) = some true) (z_all : W.nsIn K mainGlobals "all" = some none) (z_bool : W.nsIn K mainGlobals "bool" = some none) (z_int : W.nsIn K mainGlobals "int" = some none) (z_isinstance : W.nsIn K mainGlobals "isinstance" = some none) (z_len : W.nsIn K mainGlobals "len" = some none) (z_list : W.nsIn K mainGlobals "list" = some none) (z_range : W.nsIn K mainGlobals "range" = some none) (z_reversed : W.nsIn K mainGlobals "reversed" = some none) (z_str : W.nsIn K mainGlobals "str" = some none) (z_tuple : W.nsIn K mainGlobals "tuple" = some none) (z_zip : W.nsIn K mainGlobals "zip" = some none) (c_MOST_PARTS : W.nsIn K mainGlobals "MOST_PARTS" = some (some (.int 8 tc0))) (nt : W.noTabs K = true) (td : ln K ["_law_weak", "writing", "counting", "_law_planted"] = true) : qa P w K mg fa := by
 cases hfa.symm.trans (W.mg_of X G h43.m)
 obtain ⟨⟨z_22, t_22⟩, tb_22⟩ := Option.isSome_iff_exists.mp tb_22
 obtain ⟨⟨z_45, t_45⟩, tb_45⟩ := Option.isSome_iff_exists.mp tb_45
 obtain ⟨⟨z_27, t_27⟩, tb_27⟩ := Option.isSome_iff_exists.mp tb_27
 obtain ⟨⟨z_15, t_15⟩, tb_15⟩ := Option.isSome_iff_exists.mp tb_15
 have tdn : ([t_22, t_45, t_27, t_15] : List Addr).Nodup := tM (by unfold ln at td; simp only [List.map_cons, List.map_nil, tb_22, tb_45, tb_27, tb_15, Option.map_some] at td; exact of_decide_eq_true td)
 exact yF (A := ⟨x_39, d0, x_37, d1, x_38, d2, x_42, d3, x_47, d4, x_2, d5, x_4, d6, x_22, d7, x_45, d8, x_1, d9, x_27, d10, x_15, d11, x_18, d12, x_7, d13, x_9, d14, x_19, d15, x_20, d16, x_17, d17, x_8, d18, x_13, d19, x_6, d20, x_12, d21, x_5, d22, x_14, d23, x_11, d24, x_3, d25, x_34, d26, x_35, d27, x_33, d28, x_32, d29, x_24, d30, x_44, d31, x_40, d32, x_29, d33, x_43, d34, x_31, d35, x_36, d36, x_25, d37, x_0, d38, x_30, d39, x_21, d40, x_26, d41, x_10, d42, fa, d43, z_22, t_22, z_45, t_45, z_27, t_27, z_15, t_15, y_Broken, y_Numbers⟩) ⟨h0.fm1 X G, h1.fm1 X G, h2.fm1 X G, h3.fm1 X G, h4.fm1 X G, h5, h5.b2, h6.fm2 X G, h7.fm1 X G, h8.fm0 X G, h9, h9.b1, h10.fm0 X G, h11.fm3 X G, h12.fm4 X G, h13.fm1 X G, h14.fm2 X G, h15.fm2 X G, h16.fm1 X G, h17.fm1 X G, h18.fm2 X G, h19.fm5 X G, h20.fm6 X G, h21.fm1 X G, h22.fm3 X G, h23.fm4 X G, h24.fm2 X G, h25.fm2 X G, h26.fm1 X G, h27.fm2 X G, h28.fm1 X G, h29.fm2 X G, h30.fm2 X G, h31.fm1 X G, h32.fm3 X G, h33.fm4 X G, h34.fm2 X G, h35.fm4 X G, h36.fm1 X G, h37.fm1 X G, h38, h38.b3, h39.fm4 X G, h40.fm4 X G, h41.fm2 X G, h42.fm3 X G, h43.fm1 X G, W.mg_none_of X G z_all, W.mg_none_of X G z_bool, W.mg_none_of X G z_int, W.mg_none_of X G z_isinstance, W.mg_none_of X G z_len, W.mg_none_of X G z_list, W.mg_none_of X G z_range, W.mg_none_of X G z_reversed, W.mg_none_of X G z_str, W.mg_none_of X G z_tuple, W.mg_none_of X G z_zip, ⟨_, W.mg_of X G c_MOST_PARTS⟩, h7.code X G tb_22, h8.code X G tb_45, h10.code X G tb_27, h11.code X G tb_15, W.mg_of X G bc_Broken, eo2_Broken, ⟨e0_Broken, e1_Broken, e2_Broken, em0_Broken, em1_Broken⟩, ⟨eo2_Broken, sa_Broken, ⟨e0_Broken, e1_Broken, e2_Broken, em0_Broken, em1_Broken⟩, na_Broken_came, hd_Broken⟩, ⟨eo2_Broken, sa_Broken, ⟨e0_Broken, e1_Broken, e2_Broken, em0_Broken, em1_Broken⟩, na_Broken_due, hd_Broken⟩, ⟨eo2_Broken, a38, fn38, kc_Broken⟩, tH sb_Broken_Broken, W.mg_of X G bo_Numbers, ⟨pg_Numbers, hd_Numbers, po_Numbers, sa_Numbers⟩, na_Numbers_given, ⟨a5, fn5, h5.kp⟩, ⟨mk_Numbers, a9, fn9, kc_Numbers⟩⟩ nt tb_22 tb_45 tb_27 tb_15 tdn
theorem Eh {l : W.OpenLaw} {q : Program} {loose : List Str} {XP : (Str → Option Value) → Heap → Prop} {YP : World → Heap → Prop} {d : DefRec} {K : Params → W.Frag} (hn : l.most = some 63) (hdf : d.params.defaults = [])
  (hY : ∀ (w : World) (h : Heap), YP w h → (K w.params).In h) (hq : ∀ y ∈ (["_law_weak", "writing", "counting", "_law_planted"] : List Str), ((PyProof.Rows.recsOf q).find? fun e => e.name == y).isSome = true)
  (F : ∀ (w : World) (mg : Str → Option Value) (fa : Addr) (h : Heap), (K w.params).In h → h.Ns mainGlobals mg → mg d.name = some (.ref fa) → qa l.prog w (K w.params) mg fa) :
  W.WalkO q loose XP YP l.row.toRowW d [] (fun f vs => PySem.call f vs) :=
 L2.vD (n := 63) (k := 10) (x := "_law_script") (CX := fun w => CX1 l.prog w) hn (by decide) hdf ⟨rfl, by decide, by decide⟩ hY hq F fun _ _ _ _ _ ⟨_, _, _, _, _, _, z⟩ => z
end Rs
def PySem.W.Fast.tw11072901784753162453 : Unit := ()
def PySem.W.Fast.tw16858145834306883782 : Unit := ()
def PySem.W.Fast.tw7454576049069690579 : Unit := ()
def PySem.W.Fast.tw17573144650709812401 : Unit := ()
def PySem.W.Fast.tw9444368876782399961 : Unit := ()
def PySem.W.Fast.tw11351066628489820450 : Unit := ()
def PySem.W.Fast.tw9062976716528891491 : Unit := ()
def PySem.W.Fast.tw8927429210738388758 : Unit := ()
def PySem.W.Fast.tw17772917069200110072 : Unit := ()
def PySem.W.Fast.tw15174420198291269213 : Unit := ()
def PySem.W.Fast.tw408177605556833812 : Unit := ()
def PySem.W.Fast.tw18119848429858903978 : Unit := ()
def PySem.W.Fast.tw10610066773892492335 : Unit := ()
def PySem.W.Fast.tw11579171166523387401 : Unit := ()
open PySem PySem.W PyProof.Rows
set_option maxRecDepth 100000 in
set_option maxHeartbeats 0 in
theorem PySem.Challenge.cw_rootstamp_k49_whole_one_paper_of_growth_holds : PySem.Challenge.rw_rootstamp_k49_whole_one_paper_of_growth.Holds := by
 w_on; o_law; k_head; (case hw => w_witness2)
 k_fill
 refine Rs.Eh (l := PySem.Challenge.rw_rootstamp_k49_whole_one_paper_of_growth) rfl rfl (fun w h Y => by first | exact PySem.W.kIn_of Y | exact PySem.W.km_in_of Y) (by decide +kernel) ?F
 case F =>
  intro w mg fa h KX G hmg
  refine' Rs.zG KX G hmg ?bo_Numbers ?bc_Broken (L2.aY ?a0 ?l0 ?c0 ?k0) (L2.aY ?a1 ?l1 ?c1 ?k1) (L2.aY ?a2 ?l2 ?c2 ?k2) (L2.aY ?a3 ?l3 ?c3 ?k3) (L2.aY ?a4 ?l4 ?c4 ?k4) ?a5 (L2.jJ ?l5 ?c5 ?k5) ?fn5 (L2.aY ?a6 ?l6 ?c6 ?k6) (L2.aY ?a7 ?l7 ?c7 ?k7) ?tb_22 (L2.aY ?a8 ?l8 ?c8 ?k8) ?tb_45 ?a9 (L2.jJ ?l9 ?c9 ?k9) ?fn9 (L2.aY ?a10 ?l10 ?c10 ?k10) ?tb_27 (L2.aY ?a11 ?l11 ?c11 ?k11) ?tb_15 (L2.aY ?a12 ?l12 ?c12 ?k12) (L2.aY ?a13 ?l13 ?c13 ?k13) (L2.aY ?a14 ?l14 ?c14 ?k14) (L2.aY ?a15 ?l15 ?c15 ?k15) (L2.aY ?a16 ?l16 ?c16 ?k16) (L2.aY ?a17 ?l17 ?c17 ?k17) (L2.aY ?a18 ?l18 ?c18 ?k18) (L2.aY ?a19 ?l19 ?c19 ?k19) (L2.aY ?a20 ?l20 ?c20 ?k20) (L2.aY ?a21 ?l21 ?c21 ?k21) (L2.aY ?a22 ?l22 ?c22 ?k22) (L2.aY ?a23 ?l23 ?c23 ?k23) (L2.aY ?a24 ?l24 ?c24 ?k24) (L2.aY ?a25 ?l25 ?c25 ?k25) (L2.aY ?a26 ?l26 ?c26 ?k26) (L2.aY ?a27 ?l27 ?c27 ?k27) (L2.aY ?a28 ?l28 ?c28 ?k28) (L2.aY ?a29 ?l29 ?c29 ?k29) (L2.aY ?a30 ?l30 ?c30 ?k30) (L2.aY ?a31 ?l31 ?c31 ?k31) (L2.aY ?a32 ?l32 ?c32 ?k32) (L2.aY ?a33 ?l33 ?c33 ?k33) (L2.aY ?a34 ?l34 ?c34 ?k34) (L2.aY ?a35 ?l35 ?c35 ?k35) (L2.aY ?a36 ?l36 ?c36 ?k36) (L2.aY ?a37 ?l37 ?c37 ?k37) ?a38 (L2.jJ ?l38 ?c38 ?k38) ?fn38 (L2.aY ?a39 ?l39 ?c39 ?k39) (L2.aY ?a40 ?l40 ?c40 ?k40) (L2.aY ?a41 ?l41 ?c41 ?k41) (L2.aY ?a42 ?l42 ?c42 ?k42) (L2.aY ?a43 ?l43 ?c43 ?k43) ?pg_Numbers ?hd_Numbers ?po_Numbers ?sa_Numbers ?na_Numbers_given ?mk_Numbers ?kc_Numbers ?eo2_Broken ?sa_Broken ?hd_Broken ?na_Broken_came ?na_Broken_due ?kc_Broken ?e0_Broken ?e1_Broken ?e2_Broken ?em0_Broken ?em1_Broken ?sb_Broken_Broken ?z_all ?z_bool ?z_int ?z_isinstance ?z_len ?z_list ?z_range ?z_reversed ?z_str ?z_tuple ?z_zip ?c_MOST_PARTS ?nt ?td
  case bo_Numbers | bc_Broken | a0 | l0 | c0 | k0 | a1 | l1 | c1 | k1 | a2 | l2 | c2 | k2 | a3 | l3 | c3 | k3 | a4 | l4 | c4 | k4 | a5 | l5 | c5 | k5 | fn5 | a6 | l6 | c6 | k6 | a7 | l7 | c7 | k7 => k_is
  case tb_22 => kernel_rfl
  case a8 | l8 | c8 | k8 => k_is
  case tb_45 => kernel_rfl
  case a9 | l9 | c9 | k9 | fn9 | a10 | l10 | c10 | k10 => k_is
  case tb_27 => kernel_rfl
  case a11 | l11 | c11 | k11 => k_is
  case tb_15 => kernel_rfl
  case a12 | l12 | c12 | k12 | a13 | l13 | c13 | k13 | a14 | l14 | c14 | k14 | a15 | l15 | c15 | k15 | a16 | l16 | c16 | k16 | a17 | l17 | c17 | k17 | a18 | l18 | c18 | k18 | a19 | l19 | c19 | k19 | a20 | l20 | c20 | k20 | a21 | l21 | c21 | k21 | a22 | l22 | c22 | k22 | a23 | l23 | c23 | k23 | a24 | l24 | c24 | k24 | a25 | l25 | c25 | k25 | a26 | l26 | c26 | k26 | a27 | l27 | c27 | k27 | a28 | l28 | c28 | k28 | a29 | l29 | c29 | k29 | a30 | l30 | c30 | k30 | a31 | l31 | c31 | k31 | a32 | l32 | c32 | k32 | a33 | l33 | c33 | k33 | a34 | l34 | c34 | k34 | a35 | l35 | c35 | k35 | a36 | l36 | c36 | k36 | a37 | l37 | c37 | k37 | a38 | l38 | c38 | k38 | fn38 | a39 | l39 | c39 | k39 | a40 | l40 | c40 | k40 | a41 | l41 | c41 | k41 | a42 | l42 | c42 | k42 | a43 | l43 | c43 | k43 | pg_Numbers | hd_Numbers | po_Numbers | sa_Numbers | na_Numbers_given | mk_Numbers | kc_Numbers => k_is
  case eo2_Broken => kernel_rfl
  case sa_Broken | hd_Broken | na_Broken_came | na_Broken_due | kc_Broken | e0_Broken | e1_Broken | e2_Broken | em0_Broken | em1_Broken | sb_Broken_Broken | z_all | z_bool | z_int | z_isinstance | z_len | z_list | z_range | z_reversed | z_str | z_tuple | z_zip | c_MOST_PARTS => k_is
  case nt | td => kernel_rfl

import PyProof.Rows.All
import Wide.All
import OpenK.AllK
import Wide.FinOn
import Lean
import PyProof.EqAt
import PyProof.EqKinds
import PyProof.TupleCall
import PyProof.P3In
import KE.KDictLaws
import KE.KTabLook
import KE.KRevIter
import KE.KItemsList
import PySem.Challenge.RW_rootstamp_k43_papers_of_places
set_option Elab.async false
set_option linter.all false
set_option maxRecDepth 100000
set_option maxHeartbeats 4000000
namespace L2
open PySem PySem.Spec PyProof.Rows
abbrev Key := Sum Int Str
def gU : Key → Value → Bool
 | .inl k, v => Value.isInt k v
 | .inr x, v => Value.isStrOf x v
def Cb (w : World) : Key → Int
 | .inl k => hashInt k
 | .inr x => hashStr w x
theorem bS : ∀ {k : Key} {v : Value}, gU k v = true → (∃ i t, k = Sum.inl i ∧ v = Value.int i t) ∨ (∃ x t, k = Sum.inr x ∧ v = Value.str x t)
  | .inl i, v, h => by
    obtain ⟨t, e⟩ := Value.isInt_shape (k := i) (v := v) h
    exact .inl ⟨i, t, rfl, e⟩
  | .inr x, v, h => by
    obtain ⟨t, e⟩ := Value.isStrOf_shape (x := x) (v := v) h
    exact .inr ⟨x, t, rfl, e⟩
theorem qG (i : Int) (t : Tok) : gU (.inl i) (.int i t) = true := by simp [gU, Value.isInt]
theorem qw (x : Str) (t : Tok) : gU (.inr x) (.str x t) = true := by simp [gU, Value.isStrOf]
theorem wd (a b : Int) : decide ((Sum.inl a : Key) = Sum.inl b) = (a == b) := by
 by_cases e : a = b
 · subst e; simp
 · have h : ¬ (Sum.inl a : Key) = Sum.inl b := fun q => e (Sum.inl.inj q)
   rw [decide_eq_false h]
   exact (beq_eq_false_iff_ne.mpr e).symm
theorem wT (a b : Str) : decide ((Sum.inr a : Key) = Sum.inr b) = decide (a = b) := by
 by_cases e : a = b
 · subst e; simp
 · have h : ¬ (Sum.inr a : Key) = Sum.inr b := fun q => e (Sum.inr.inj q)
   rw [decide_eq_false h, decide_eq_false e]
theorem wS (a : Int) (b : Str) : decide ((Sum.inl a : Key) = Sum.inr b) = false := decide_eq_false (fun q => nomatch q)
theorem xv (a : Str) (b : Int) : decide ((Sum.inr a : Key) = Sum.inl b) = false := decide_eq_false (fun q => nomatch q)
def bI (prog : Program) (w : World) : PySem.KeyKind prog w Key where
 is := gU
 hash := Cb w
 inj := fun v a b ha hb => by
  rcases bS ha with ⟨i, t, rfl, rfl⟩ | ⟨x, t, rfl, rfl⟩
  · rcases bS hb with ⟨j, u, rfl, e⟩ | ⟨y, u, rfl, e⟩
    · injection e with e1 _; rw [e1]
    · exact nomatch e
  · rcases bS hb with ⟨j, u, rfl, e⟩ | ⟨y, u, rfl, e⟩
    · exact nomatch e
    · injection e with e1 _; rw [e1]
 byValue := fun k v h => by
  rcases bS h with ⟨i, t, rfl, rfl⟩ | ⟨x, t, rfl, rfl⟩ <;> rfl
 pyHash := fun hv h => by
  rcases bS hv with ⟨i, t, rfl, rfl⟩ | ⟨x, t, rfl, rfl⟩
  · exact wpAny_pyHash_int h
  · exact wpAny_pyHash_str h
 eqBool := fun hu hv h => by
  rcases bS hu with ⟨i, t, rfl, rfl⟩ | ⟨x, t, rfl, rfl⟩
  · rcases bS hv with ⟨j, u, rfl, rfl⟩ | ⟨y, u, rfl, rfl⟩
    · rw [wd] at h; exact wpAny_eqBool_int h
    · rw [wS] at h; exact SeqAt.EqAt.int_str i t y u _ _ _ _ h
  · rcases bS hv with ⟨j, u, rfl, rfl⟩ | ⟨y, u, rfl, rfl⟩
    · rw [xv] at h; exact SeqAt.EqAt.str_int x t j u _ _ _ _ h
    · rw [wT] at h; exact wpAny_eqBool_str h
 «strs» := fun k x t v h => by
  rcases bS h with ⟨i, u, rfl, e⟩ | ⟨y, u, rfl, e⟩
  · exact nomatch e
  · injection e with e1 _
    subst e1
    cases v <;> rfl
theorem mt (prog : Program) (w : World) (i : Int) (t : Tok) : (bI prog w).is (.inl i) (.int i t) = true := qG i t
theorem mj (prog : Program) (w : World) (x : Str) (t : Tok) : (bI prog w).is (.inr x) (.str x t) = true := qw x t
end L2
namespace L2
open PySem PySem.Spec PyProof.Rows
inductive V where
 | non | bl (b : Bool) | int (i : Int) | str (x : Str) | byt (b : Array UInt8) | flt (b : UInt64) | ref (a : Addr) | ty (n : String)
 deriving DecidableEq
def aC : V → Value → Prop
 | .non, u => u = Value.none
 | .bl b, u => u = Value.bool b
 | .int i, u => ∃ t, u = Value.int i t
 | .str x, u => ∃ t, u = Value.str x t
 | .byt b, u => ∃ t, u = Value.bytes b t
 | .flt b, u => ∃ t, u = Value.float b t
 | .ref a, u => u = Value.ref a
 | .ty n, u => u = Value.type n
abbrev ax : List V → List Value → Prop := Paired aC
theorem ax.length {xs : List V} {us : List Value} (r : ax xs us) : xs.length = us.length := Paired.length r
theorem ax.get : ∀ {xs : List V} {us : List Value} {i : Nat} {x : V}, ax xs us → xs[i]? = some x → ∃ u, us[i]? = some u ∧ aC x u
  | _, _, _, _, .nil, e => by simp at e
  | _, _, 0, _, .cons r _, e => by simp at e; subst e; exact ⟨_, rfl, r⟩
  | _, _, i + 1, x, .cons _ t, e => by
    obtain ⟨u, h1, h2⟩ := ax.get (i := i) (x := x) t (by simpa using e)
    exact ⟨u, by simpa using h1, h2⟩
theorem ax.set {x : V} {u : Value} (r : aC x u) : ∀ {xs : List V} {us : List Value} (i : Nat), ax xs us → ax (xs.set i x) (us.set i u)
 | _, _, _, .nil => .nil
 | _, _, 0, .cons _ t => .cons r t
 | _, _, i + 1, .cons q t => .cons q (ax.set r i t)
theorem ax.append : ∀ {xs ys : List V} {us ws : List Value}, ax xs us → ax ys ws → ax (xs ++ ys) (us ++ ws)
 | _, _, _, _, .nil, s => s
 | _, _, _, _, .cons r t, s => .cons r (ax.append t s)
theorem ax.take : ∀ {xs : List V} {us : List Value} (n : Nat), ax xs us → ax (xs.take n) (us.take n)
 | _, _, 0, _ => .nil
 | _, _, _ + 1, .nil => .nil
 | _, _, n + 1, .cons r t => .cons r (ax.take n t)
theorem ax.drop : ∀ {xs : List V} {us : List Value} (n : Nat), ax xs us → ax (xs.drop n) (us.drop n)
 | _, _, 0, r => r
 | _, _, _ + 1, .nil => .nil
 | _, _, n + 1, .cons _ t => ax.drop n t
def cL : Option V → Option Value → Prop
 | some v, some u => aC v u
 | none, none => True
 | _, _ => False
def KV {κ : Type} : List (κ × V) → List (κ × Value) → Prop := Paired fun (p : κ × V) (q : κ × Value) => p.1 = q.1 ∧ aC p.2 q.2
def kV : Key → V
 | .inl i => .int i
 | .inr x => .str x
inductive HO where
 | lst (xs : List V)
 | tup (xs : List V)
 | dK (kvs : List (Key × V)) | dT (kvs : List (List Key × V))
 | set (S : Int → Bool) (n : Nat)
 | ins (C dx : Addr) (fs : List (Str × V))
 | own (x : Addr)
 | xd (fs : List (Str × V))
 | met (f x : Addr)
 | rng (lo hi : Int)
 | frz (o : Obj) (u : HO)
 | tbl (ps : Array Value)
 | ext (φ : Heap → Prop)
abbrev Hp := Addr → Option HO
def upd (H : Hp) (a : Addr) (o : HO) : Hp := fun b => if b = a then some o else H b
theorem af {H : Hp} {a : Addr} {o : HO} : upd H a o a = some o := by unfold upd; rw [if_pos rfl]
theorem ae {H : Hp} {a b : Addr} {o : HO} (h : b ≠ a) : upd H a o b = H b := by unfold upd; rw [if_neg h]
theorem fX {H : Hp} {a : Addr} {o u : HO} : upd (upd H a o) a u = upd H a u := by
 funext b; unfold upd; split <;> rfl
theorem aS {H : Hp} {a b : Addr} {o u : HO} (h : H a = some o) (h' : H b = some u) (d : o ≠ u) : a ≠ b := by
 intro e; subst e; rw [h] at h'; exact d (Option.some.inj h')
theorem aj {H : Hp} {a b : Addr} {o : HO} (h : H a = some o) (h' : H b = none) : a ≠ b := by
 intro e; subst e; rw [h] at h'; cases h'
section
variable (P : Program) (w : World)
def aM (H : Hp) (h : Heap) (a : Addr) : HO → Prop
 | .lst xs => xs.length ≤ sizeLine ∧ ∃ (its : List Value) (n : Nat), ax xs its ∧ h.get? a = some { cls := .type "list", data := .seq its.toArray n }
 | .tup xs => xs.length ≤ sizeLine ∧ ∃ its : List Value, ax xs its ∧ IsTup h a its.toArray
 | .dK kvs => kvs.length ≤ sizeLine ∧ (a == sysModules) = false ∧ ∃ vs, KV kvs vs ∧ h.DictOf (bI P w) a vs
 | .dT kvs => kvs.length ≤ sizeLine ∧ (a == sysModules) = false ∧ ∃ xs : List (List Key × Addr × Value),
  Paired (fun (p : List Key × V) (q : List Key × Addr × Value) => p.1 = q.1 ∧ H q.2.1 = some (.tup (p.1.map kV)) ∧ aC p.2 q.2.2) kvs xs ∧
  ∃ o es ep, h.get? a = some o ∧ o.ExactDict ∧ o.data = .dict es ep ∧ es.toList = xs.map (entryOfKey (tupleKind (bI P w))) ∧ (xs.map (·.1)).Nodup
 | .set S n => h.SetOf (intKind P w) a S n
 | .ins C dx fs => H dx = some (.own a) ∧ fs.length ≤ 1000 ∧ dx ≠ a ∧ h.get? a = some (W.instObj C dx) ∧
  ∃ mA, h.Ns1 dx mA ∧ (∀ f, cL (fs.lookup f) (mA f)) ∧ PySem.Within mA (fs.map (·.1))
 | .own _ => ∃ o, h.get? a = some o
 | .xd fs => ∃ mA, h.Ns1 a mA ∧ ∀ f, cL (fs.lookup f) (mA f)
 | .rng lo hi => ∃ t u v, h.get? a = some { cls := .type "range", data := .fields #[.int lo t, .int hi u, .int 1 v] }
 | .frz o u => h.get? a = some o ∧ aM H h a u
 | .tbl ps => h.get? a = some { cls := .none, data := .fields ps }
 | .met f x => h.get? a = some (W.methodObj (.ref f) (.ref x))
 | .ext φ => φ h ∧ (∃ o, h.get? a = some o) ∧ ∀ h1 h2 : Heap, φ h1 → (∀ o, h1.get? a = some o → h2.get? a = some o) → φ h2
def HOk (H : Hp) (h : Heap) : Prop := ∀ a o, H a = some o → aM P w H h a o
end
section
variable {P : Program} {w : World} {H H' : Hp} {h h' : Heap} {a : Addr} {o : HO}
theorem aM.lt (x : aM P w H h a o) : a < h.objs.size := by
 cases o with
 | lst xs => obtain ⟨_, _, _, _, e⟩ := x; exact Heap.lt_size e
 | tup xs => obtain ⟨_, _, _, p⟩ := x; exact p.lt
 | dK kvs => obtain ⟨_, _, _, _, o, _, _, e, _⟩ := x; exact Heap.lt_size e
 | dT kvs => obtain ⟨_, _, _, _, o, _, _, e, _⟩ := x; exact Heap.lt_size e
 | set S n => obtain ⟨o, _, _, _, e, _⟩ := x; exact Heap.lt_size e
 | ins C dx fs => obtain ⟨_, _, _, e, _⟩ := x; exact Heap.lt_size e
 | own y => obtain ⟨_, e⟩ := x; exact Heap.lt_size e
 | xd fs => obtain ⟨_, ⟨_, _, _, e, _⟩, _⟩ := x; exact Heap.lt_size e
 | rng lo hi => obtain ⟨_, _, _, e⟩ := x; exact Heap.lt_size e
 | frz ob u => obtain ⟨e, _⟩ := x; exact Heap.lt_size e
 | tbl ps => exact Heap.lt_size (show h.get? a = some _ from x)
 | met f y => exact Heap.lt_size (show h.get? a = some _ from x)
 | ext φ => obtain ⟨_, ⟨_, e⟩, _⟩ := x; exact Heap.lt_size e
theorem Paired.mapP {α β : Type} {F G : α → β → Prop} : ∀ {l₁ : List α} {l₂ : List β}, Paired F l₁ l₂ → (∀ a b, F a b → G a b) → Paired G l₁ l₂
 | _, _, .nil, _ => .nil
 | _, _, .cons r t, f => .cons (f _ _ r) (Paired.mapP t f)
theorem aM.stay (x : aM P w H h a o) (k : ∀ b u, (b = a ∨ H b = some (.own a)) → h.get? b = some u → h'.get? b = some u)
    (ho : ∀ b, H b = some (.own a) → H' b = some (.own a)) (ht : ∀ b xs, H b = some (.tup xs) → H' b = some (.tup xs)) : aM P w H' h' a o := by
  induction o with
  | lst xs => obtain ⟨z, its, n, r, e⟩ := x; exact ⟨z, its, n, r, k _ _ (.inl rfl) e⟩
  | tup xs => obtain ⟨z, its, r, ob, e, c⟩ := x; exact ⟨z, its, r, ob, k _ _ (.inl rfl) e, c⟩
  | dK kvs => obtain ⟨z, y, vs, r, ob, es, ep, e, c⟩ := x; exact ⟨z, y, vs, r, ob, es, ep, k _ _ (.inl rfl) e, c⟩
  | dT kvs =>
    obtain ⟨z, y, xs, r, ob, es, ep, e, c⟩ := x
    exact ⟨z, y, xs, Paired.mapP r fun p q z => ⟨z.1, ht _ _ z.2.1, z.2.2⟩, ob, es, ep, k _ _ (.inl rfl) e, c⟩
  | set S n => obtain ⟨ob, es, ep, t, e, c⟩ := x; exact ⟨ob, es, ep, t, k _ _ (.inl rfl) e, c⟩
  | ins C dx fs =>
    obtain ⟨d, z, ne, e, mA, ⟨od, es, ep, e2, c⟩, r⟩ := x
    exact ⟨ho _ d, z, ne, k _ _ (.inl rfl) e, mA, ⟨od, es, ep, k _ _ (.inr d) e2, c⟩, r⟩
  | own y => obtain ⟨ob, e⟩ := x; exact ⟨ob, k _ _ (.inl rfl) e⟩
  | xd fs => obtain ⟨mA, ⟨od, es, ep, e, c⟩, r⟩ := x; exact ⟨mA, ⟨od, es, ep, k _ _ (.inl rfl) e, c⟩, r⟩
  | rng lo hi => obtain ⟨t, u, v, e⟩ := x; exact ⟨t, u, v, k _ _ (.inl rfl) e⟩
  | frz ob u ih => obtain ⟨e, q⟩ := x; exact ⟨k _ _ (.inl rfl) e, ih q⟩
  | tbl ps =>
    have e : h.get? a = some { cls := .none, data := .fields ps } := x
    show h'.get? a = some { cls := .none, data := .fields ps }
    exact k a _ (.inl rfl) e
  | met f y =>
    have e : h.get? a = some (W.methodObj (.ref f) (.ref y)) := x
    show h'.get? a = some (W.methodObj (.ref f) (.ref y))
    exact k a _ (.inl rfl) e
  | ext φ => obtain ⟨p, ⟨o, e⟩, st⟩ := x; exact ⟨st _ _ p fun o q => k _ _ (.inl rfl) q, ⟨o, k _ _ (.inl rfl) e⟩, st⟩
theorem HOk.lt (x : HOk P w H h) (e : H a = some o) : a < h.objs.size := (x a o e).lt
theorem HOk.fresh (x : HOk P w H h) (e : h.objs.size ≤ a) : H a = none := by
 cases q : H a with
 | none => rfl
 | some u => exact absurd (Nat.lt_of_lt_of_le (x.lt q) e) (Nat.lt_irrefl _)
theorem HOk.kept (x : HOk P w H h) (k : ∀ b u, h.get? b = some u → h'.get? b = some u) : HOk P w H h' := fun a o e =>
 (x a o e).stay (fun b u _ q => k b u q) (fun _ q => q) fun _ _ q => q
theorem HOk.laid (x : HOk P w H h) (k : ∀ b u, h.get? b = some u → h'.get? b = some u) (hp : h.objs.size ≤ a) (new : aM P w (upd H a o) h' a o) : HOk P w (upd H a o) h' := fun b u e => by
 have hn := x.fresh hp
 by_cases hb : b = a
 · subst hb; rw [af] at e; cases e; exact new
 · rw [ae hb] at e
   exact (x b u e).stay (fun c v _ q => k c v q) (fun c q => by rw [ae (aj q hn)]; exact q) fun c xs q => by rw [ae (aj q hn)]; exact q
end
def Rd (H : Hp) (a : Addr) (u : HO) : Prop := H a = some u ∨ ∃ o, H a = some (.frz o u)
theorem Rd.ok {P : Program} {w : World} {H : Hp} {h : Heap} {a : Addr} {u : HO} (r : Rd H a u) (x : HOk P w H h) : aM P w H h a u := by
 rcases r with r | ⟨o, r⟩
 · exact x a u r
 · obtain ⟨_, q⟩ := x a _ r
   exact q
def Mut : Option HO → Prop
 | some (.lst _) => True
 | some (.dK _) => True
 | some (.dT _) => True
 | some (.set _ _) => True
 | some (.ins _ _ _) => True
 | some (.ext _) => True
 | _ => False
section
variable {P : Program} {w : World} {H : Hp} {h h' : Heap} {x e : Addr} {o' : HO}
theorem HOk.write (ok : HOk P w H h) (mu : Mut (H x)) (he : e = x ∨ H e = some (.own x)) (k : ∀ b u, b ≠ e → h.get? b = some u → h'.get? b = some u) (heo : ∃ u, h'.get? e = some u)
   (new : aM P w (upd H x o') h' x o') : HOk P w (upd H x o') h' := fun b u q => by
 have nown : ∀ c y, H c = some (.own y) → c ≠ x := fun c y r z => by subst z; rw [r] at mu; exact mu
 have ntup : ∀ c xs, H c = some (.tup xs) → c ≠ x := fun c xs r z => by subst z; rw [r] at mu; exact mu
 by_cases hb : b = x
 · subst hb; rw [af] at q; cases q; exact new
 · rw [ae hb] at q
   by_cases hbe : b = e
   · have q' : H b = some (.own x) := by
       rcases he with z | z
       · exact absurd (hbe.trans z) hb
       · rw [hbe]; exact z
     rw [q] at q'; cases q'
     obtain ⟨v, hv⟩ := heo
     exact ⟨v, by rw [hbe]; exact hv⟩
   · refine (ok b u q).stay (fun c v hc r => k c v ?_ r) (fun c r => by rw [ae (nown c b r)]; exact r) fun c xs r => by rw [ae (ntup c xs r)]; exact r
     rcases hc with rfl | hc
     · exact hbe
     · rintro rfl
       rcases he with z | z
       · exact nown c b hc z
       · rw [hc] at z; cases z; exact hb rfl
end
structure Un (fs ex : List Addr) (H H' : Hp) (h h' : Heap) : Prop where
 keep : ∀ b o, h.get? b = some o → H b = none → b ∉ fs → b ∉ ex → h'.get? b = some o
 slot : ∀ b o, h.get? b = some o → H b = none → b ∈ fs → b ∉ ex → ∃ sl, h'.get? b = some { o with slots := sl }
 free : ∀ b o, h.get? b = some o → H b = none → b ∉ ex → H' b = none
 there : ∀ b o, h.get? b = some o → b ∉ ex → ∃ o', h'.get? b = some o'
 tups : ∀ b xs, H b = some (.tup xs) → H' b = some (.tup xs)
 frzs : ∀ b o u, H b = some (.frz o u) → H' b = some (.frz o u)
 tbls : ∀ b ps, H b = some (.tbl ps) → ∃ more, H' b = some (.tbl (ps ++ more))
section
variable {fs fs' ex ex' : List Addr} {H H1 H2 : Hp} {h h1 h2 h' : Heap} {a x e : Addr} {o : HO}
theorem Un.any (u : Un fs ex H H1 h h1) {b : Addr} {ob : Obj} (q : h.get? b = some ob) (n : H b = none) (hx : b ∉ ex) : ∃ sl, h1.get? b = some { ob with slots := sl } := by
 by_cases hb : b ∈ fs
 · exact u.slot b ob q n hb hx
 · exact ⟨ob.slots, u.keep b ob q n hb hx⟩
theorem Un.kept (k : ∀ b u, h.get? b = some u → h'.get? b = some u) : Un fs ex H H h h' :=
 ⟨fun b ob q _ _ _ => k b ob q, fun b ob q _ _ _ => ⟨ob.slots, k b ob q⟩, fun _ _ _ n _ => n, fun b ob q _ => ⟨ob, k b ob q⟩, fun _ _ q => q, fun _ _ _ q => q, fun _ ps q => ⟨#[], by rw [q]; simp⟩⟩
theorem Un.refl : Un fs ex H H h h := Un.kept fun _ _ q => q
theorem Un.laid (k : ∀ b u, h.get? b = some u → h'.get? b = some u) (hp : h.objs.size ≤ a) (hn : H a = none) : Un fs ex H (upd H a o) h h' where
 keep := fun b u q _ _ _ => k b u q
 slot := fun b u q _ _ _ => ⟨u.slots, k b u q⟩
 free := fun b u q n _ => by rw [ae (Nat.ne_of_lt (Nat.lt_of_lt_of_le (Heap.lt_size q) hp))]; exact n
 there := fun b u q _ => ⟨u, k b u q⟩
 tups := fun b xs q => by rw [ae (aj q hn)]; exact q
 frzs := fun b u xs q => by rw [ae (aj q hn)]; exact q
 tbls := fun b ps q => ⟨#[], by rw [ae (aj q hn), q]; simp⟩
theorem Un.write (mu : Mut (H x)) (he : e = x ∨ H e = some (.own x)) (k : ∀ b u, b ≠ e → h.get? b = some u → h'.get? b = some u) (heo : ∃ u, h'.get? e = some u) : Un fs ex H (upd H x o) h h' := by
 have hx : ∀ b, H b = none → b ≠ x := fun b n z => by subst z; rw [n] at mu; exact mu
 have hb : ∀ b, H b = none → b ≠ e := fun b n z => by
   subst z
   rcases he with r | r
   · exact hx b n r
   · rw [n] at r; cases r
 have hm : ∀ b u, H b = some u → ¬ Mut (some u) → b ≠ x := fun b u q nm z => by subst z; rw [q] at mu; exact nm mu
 refine ⟨fun b u q n _ _ => k b u (hb b n) q, fun b u q n _ _ => ⟨u.slots, k b u (hb b n) q⟩, fun b u q n _ => by rw [ae (hx b n)]; exact n, fun b u q _ => ?_,
   fun b xs q => by rw [ae (hm b _ q fun z => z)]; exact q, fun b u xs q => by rw [ae (hm b _ q fun z => z)]; exact q, fun b ps q => ⟨#[], by rw [ae (hm b _ q fun z => z), q]; simp⟩⟩
 by_cases hbe : b = e
 · subst hbe; exact heo
 · exact ⟨u, k b u hbe q⟩
end
def trk (h : Heap) (H : Hp) : List Addr := (List.range h.objs.size).filter fun a => (H a).isSome
def fu (h : Heap) (H : Hp) : Heap := W.hideAll h (trk h H)
theorem pG (h : Heap) (H : Hp) : (fu h H).objs.size = h.objs.size := W.hideAll_size _ _
theorem rF {h : Heap} {H : Hp} {b : Addr} {o : Obj} (e : h.get? b = some o) (n : H b = none) : (fu h H).get? b = some o :=
 W.hideAll_get _ e fun hm => by
  have q : (H b).isSome = true := (List.mem_filter.mp hm).2
  rw [n] at q; simp at q
theorem vp {h : Heap} {H : Hp} {b : Addr} {o : Obj} (e : (fu h H).get? b = some o) : h.get? b = some o ∧ H b = none := by
  have e' : h.get? b = some o := W.of_hideAll (trk h H) e
  refine ⟨e', ?_⟩
  cases q : H b with
  | none => rfl
  | some x =>
    have hm : b ∈ trk h H := List.mem_filter.mpr ⟨List.mem_range.mpr (Heap.lt_size e'), by simp [q]⟩
    have z : (fu h H).get? b = none := W.hideAll_none (trk h H) hm
    rw [z] at e; cases e
def vo (g h : Heap) (L : Addr) : List (Addr × Obj) := (List.range h.objs.size).filterMap fun a => if a = L ∨ (g.get? a).isSome = true then none else (h.get? a).map fun o => (a, o)
def bq (g h : Heap) (L d : Addr) : List (Addr × Obj) := (vo g h L).filter fun p => decide (p.1 ≠ d)
end L2
namespace L2
open PySem PySem.Spec PyProof.Rows
structure Mod (K : W.Frag) (mg : Str → Option Value) (base : Heap) : Prop where
 kin : K.In base
 glob : base.Ns mainGlobals mg
 blt : ∃ mb, base.Ns builtinsNs mb ∧ ∀ x : Str, x ≠ "__name__" → mb x = bootBuiltins x
 nolimit : base.NoLimit
set_option genInjectivity false in
set_option genSizeOf false in
structure Cx where
 prog : Program
 w : World
 K : W.Frag
 mg : Str → Option Value
 base : Heap
 A : Around
 N : List Str
 s₀ : Shared
 H₀ : Hp
 env : Env
 outer : List Env
 stack : List Env
 ex : List Addr
 fn : Str → Bool
 calm : Bool
 pn : List (Addr × Obj)
 xe : Value → Shared → Prop
def frs (l : List Env) : List Addr := l.filterMap (·.frame)
abbrev Cx.fs (X : Cx) : List Addr := frs X.outer
def Vis (sc : Scope) (x : Str) : Prop := sc.names.lookup x = some .local ∨ sc.names.lookup x = some .cell ∨ sc.names.lookup x = some .free
def Loc (sc : Scope) (x : Str) : Prop := sc.names.lookup x = some .local ∨ sc.names.lookup x = some .cell
def wX (env : Env) (h : Heap) (m : Str → Option Value) (x : Str) (u : Value) : Prop :=
 (env.kindOf x = some .local ∧ m x = some u) ∨ ((env.kindOf x = some .cell ∨ env.kindOf x = some .free) ∧ ∃ c, env.cells.lookup x = some c ∧ h.IsCell c (some u))
set_option genInjectivity false in
set_option genSizeOf false in
structure Cx.Ok (X : Cx) : Prop where
 mod : Mod X.K X.mg X.base
 kind : X.env.scope.kind = .function
 glob : X.env.globals = mainGlobals
 blt : X.env.builtins = builtinsNs
 above : X.s₀.heap.objs.size ≤ X.env.locals
 inj : ∀ x y c, X.env.cells.lookup x = some c → X.env.cells.lookup y = some c → x = y
 has : ∀ x, (X.env.kindOf x = some .cell ∨ X.env.kindOf x = some .free) → ∃ c, X.env.cells.lookup x = some c
 cab : ∀ x c, X.fn x = true → X.env.cells.lookup x = some c → X.s₀.heap.objs.size ≤ c
 hd : X.calm = true → X.A.handled = none
 frames : X.A.frames = some X.stack
 stk : X.stack = X.outer ∨ (X.stack = X.env :: X.outer ∧ X.env.frame = some X.env.locals)
 exf : ∀ b ∈ X.ex, b ≠ X.env.locals ∧ ∀ x c, X.env.cells.lookup x = some c → c ≠ b
 bs : ∀ b o, X.base.get? b = some o → X.s₀.heap.get? b = some o ∧ X.H₀ b = none
 bsz : X.base.objs.size ≤ X.s₀.heap.objs.size
 noex : ∀ b o, X.base.get? b = some o → b ∉ X.ex
 exfs : ∀ b ∈ X.ex, b ∉ X.fs
 funs : X.s₀.heap.FunFrames X.base X.outer
 frf : ∀ b ∈ X.fs, X.H₀ b = none
structure Inv (X : Cx) (pins : List (Addr × Obj)) (σ : List (Option V)) (H : Hp) (s : Shared) : Prop where
 ok : X.Ok
 os : s.os = X.s₀.os
 bare : AllBare s.gens
 base : Un X.fs X.ex X.H₀ H X.s₀.heap s.heap
 loc : ∃ m, s.heap.Ns X.env.locals m ∧ ∀ (i : Nat) (x : Str) (v : V), X.N[i]? = some x → σ[i]? = some (some v) → Vis X.env.scope x → ∃ u, aC v u ∧ wX X.env s.heap m x u
 cell : ∀ x c, X.env.cells.lookup x = some c → ∃ v, s.heap.IsCell c v
 free : H X.env.locals = none
 freeC : ∀ x c, X.env.cells.lookup x = some c → H c = none
 pin : ∀ p ∈ X.pn ++ pins, s.heap.get? p.1 = some p.2 ∧ H p.1 = none ∧ p.1 ≠ X.env.locals ∧ p.1 ∉ X.fs ∧ ∀ v, p.2.data ≠ .cell v
 hok : HOk X.prog X.w H s.heap
 len : σ.length = X.N.length
section
variable {X : Cx} {pins : List (Addr × Obj)} {σ : List (Option V)} {H H' : Hp} {s : Shared} {h' : Heap}
theorem Cx.Ok.nofr (ok : X.Ok) {b : Addr} {o : Obj} (e : X.base.get? b = some o) : b ∉ X.fs := fun hb => by
 have := (ok.funs.mem hb).1
 rw [e] at this; cases this
theorem Inv.bs (I : Inv X pins σ H s) : ∀ b o, X.base.get? b = some o → s.heap.get? b = some o ∧ H b = none := fun b o e =>
 ⟨I.base.keep b o (I.ok.bs b o e).1 (I.ok.bs b o e).2 (I.ok.nofr e) (I.ok.noex b o e), I.base.free b o (I.ok.bs b o e).1 (I.ok.bs b o e).2 (I.ok.noex b o e)⟩
theorem Inv.bk (I : Inv X pins σ H s) : ∀ b o, X.base.get? b = some o → s.heap.get? b = some o := fun b o e => (I.bs b o e).1
theorem Inv.mod (I : Inv X pins σ H s) : Mod X.K X.mg X.base := I.ok.mod
theorem Inv.kIn (I : Inv X pins σ H s) : X.K.In s.heap := I.ok.mod.kin.keeps I.bk
theorem Inv.lt (I : Inv X pins σ H s) : X.env.locals < s.heap.objs.size := let ⟨_, hn, _⟩ := I.loc; hn.lt
theorem Inv.sz (I : Inv X pins σ H s) : X.s₀.heap.objs.size ≤ s.heap.objs.size := Nat.le_trans I.ok.above (Nat.le_of_lt I.lt)
theorem Inv.nofs (I : Inv X pins σ H s) {a : Addr} (h : s.heap.objs.size ≤ a) : a ∉ X.fs := fun hb => by
 obtain ⟨_, o, ho, _⟩ := I.ok.funs.mem hb
 exact absurd (Nat.lt_of_lt_of_le (Heap.lt_size ho) (Nat.le_trans I.sz h)) (Nat.lt_irrefl _)
theorem Inv.cne (I : Inv X pins σ H s) : ∀ x c, X.env.cells.lookup x = some c → c ≠ X.env.locals := fun x c e z => by
 obtain ⟨v, o, ho, hd⟩ := I.cell x c e
 obtain ⟨m, ⟨o', es, ep, ho', hd', _⟩, _⟩ := I.loc
 rw [z, ho'] at ho; cases ho; rw [hd'] at hd; cases hd
theorem Inv.funs (I : Inv X pins σ H s) : s.heap.FunFrames X.base X.outer := by
  have all : ∀ (l : List Env), (∀ b ∈ frs l, b ∈ X.fs) → X.s₀.heap.FunFrames X.base l → s.heap.FunFrames X.base l := by
    intro l
    induction l with
    | nil => intro _ _; trivial
    | cons env r ih =>
      intro hs hl
      obtain ⟨hk, ⟨L, o, hf, hn, ho, hd⟩, hr⟩ := hl
      have hL : L ∈ X.fs := hs L (by unfold frs; rw [List.filterMap_cons, hf]; exact List.mem_cons_self)
      obtain ⟨sl, e⟩ := I.base.slot L o ho (I.ok.frf L hL) hL fun z => I.ok.exfs L z hL
      exact ⟨hk, ⟨L, _, hf, hn, e, hd⟩, ih (fun b hb => hs b (by unfold frs; rw [List.filterMap_cons, hf]; exact List.mem_cons_of_mem _ hb)) hr⟩
  exact all X.outer (fun _ hb => hb) I.ok.funs
theorem Inv.stack (I : Inv X pins σ H s) : s.heap.FunFrames X.base X.stack := by
 rcases I.ok.stk with e | ⟨e, hf⟩
 · rw [e]; exact I.funs
 · rw [e]
   obtain ⟨m, hn, _⟩ := I.loc
   refine .cons (by rw [I.ok.kind]; decide) hf hn ?_ I.funs
   exact Heap.get?_none_of_le (Nat.le_trans I.ok.bsz I.ok.above)
theorem Inv.stkSub (I : Inv X pins σ H s) : ∀ b ∈ frs X.stack, b ∈ X.env.locals :: X.fs := fun b hb => by
 rcases I.ok.stk with e | ⟨e, hf⟩
 · rw [e] at hb; exact List.mem_cons_of_mem _ hb
 · rw [e] at hb
   unfold frs at hb
   rw [List.filterMap_cons, hf] at hb
   exact hb
theorem Inv.stkFree (I : Inv X pins σ H s) : ∀ b ∈ frs X.stack, H b = none := fun b hb => by
 rcases List.mem_cons.mp (I.stkSub b hb) with e | hb
 · rw [e]; exact I.free
 · obtain ⟨_, o, ho, _⟩ := I.ok.funs.mem hb
   exact I.base.free b o ho (I.ok.frf b hb) fun z => I.ok.exfs b z hb
theorem Inv.step {g' : Array GenState} {t' : Nat} {d' : Drawn} {ch : List Addr} (I : Inv X pins σ H s)
   (hch : ∀ b ∈ ch, (b ∈ X.ex ∨ X.s₀.heap.objs.size ≤ b) ∧ b ≠ X.env.locals ∧ (∀ x c, X.env.cells.lookup x = some c → c ≠ b) ∧ ∀ p ∈ X.pn ++ pins, p.1 ≠ b)
   (keep : ∀ b o, b ≠ X.env.locals → b ∉ X.fs → b ∉ ch → s.heap.get? b = some o → H b = none → h'.get? b = some o)
   (slot : ∀ b o, b ≠ X.env.locals → b ∈ X.fs → b ∉ ch → s.heap.get? b = some o → H b = none → ∃ sl, h'.get? b = some { o with slots := sl }) (free : ∀ b o, b ∉ ch → s.heap.get? b = some o → H b = none → H' b = none)
   (there : ∀ b o, b ∉ ch → s.heap.get? b = some o → ∃ o', h'.get? b = some o')
   (tups : ∀ b xs, H b = some (.tup xs) → H' b = some (.tup xs)) (frzs : ∀ b o u, H b = some (.frz o u) → H' b = some (.frz o u)) (tbls : ∀ b ps, H b = some (.tbl ps) → ∃ more, H' b = some (.tbl (ps ++ more)))
   (ns : ∀ m, s.heap.Ns X.env.locals m → h'.Ns X.env.locals m) (hok : HOk X.prog X.w H' h') (hg : AllBare g') :
   Inv X pins σ H' { s with heap := h', gens := g', drawn := d', toks := t' } := by
 have neL : ∀ b o, X.s₀.heap.get? b = some o → b ≠ X.env.locals := fun b o e => Nat.ne_of_lt (Nat.lt_of_lt_of_le (Heap.lt_size e) I.ok.above)
 have neC : ∀ b o, X.s₀.heap.get? b = some o → b ∉ X.ex → b ∉ ch := fun b o e hx hb => by
   rcases (hch b hb).1 with z | z
   · exact hx z
   · exact absurd (Nat.lt_of_lt_of_le (Heap.lt_size e) z) (Nat.lt_irrefl _)
 have cellK : ∀ x c, X.env.cells.lookup x = some c → ∀ v, s.heap.IsCell c v → h'.IsCell c v := fun x c e v ⟨o, ho, hd⟩ => by
   have nch : c ∉ ch := fun z => (hch c z).2.2.1 x c e rfl
   by_cases hc : c ∈ X.fs
   · obtain ⟨sl, q⟩ := slot c o (I.cne x c e) hc nch ho (I.freeC x c e)
     exact ⟨_, q, hd⟩
   · exact ⟨o, keep c o (I.cne x c e) hc nch ho (I.freeC x c e), hd⟩
 refine ⟨I.ok, I.os, hg, ⟨fun b o e n hb hx => ?_, fun b o e n hb hx => ?_, fun b o e n hx => ?_, fun b o e hx => ?_, fun b xs e => tups b xs (I.base.tups b xs e), fun b o xs e => frzs b o xs (I.base.frzs b o xs e), fun b ps e => ?_⟩, ?_, fun x c e => ?_, ?_, fun x c e => ?_, fun p hp => ?_, hok, I.len⟩
 · exact keep b o (neL b o e) hb (neC b o e hx) (I.base.keep b o e n hb hx) (I.base.free b o e n hx)
 · obtain ⟨sl, e1⟩ := I.base.slot b o e n hb hx
   obtain ⟨sl', e2⟩ := slot b _ (neL b o e) hb (neC b o e hx) e1 (I.base.free b o e n hx)
   exact ⟨sl', e2⟩
 · obtain ⟨o', e1⟩ := I.base.there b o e hx
   exact free b o' (neC b o e hx) e1 (I.base.free b o e n hx)
 · obtain ⟨o', e1⟩ := I.base.there b o e hx
   exact there b o' (neC b o e hx) e1
 · obtain ⟨m1, e1⟩ := I.base.tbls b ps e
   obtain ⟨m2, e2⟩ := tbls b _ e1
   exact ⟨m1 ++ m2, by rw [e2, Array.append_assoc]⟩
 · obtain ⟨m, hn, hl⟩ := I.loc
   refine ⟨m, ns m hn, fun i x v e1 e2 e3 => ?_⟩
   obtain ⟨u, r, l⟩ := hl i x v e1 e2 e3
   refine ⟨u, r, ?_⟩
   rcases l with l | ⟨k, c, e, z⟩
   · exact .inl l
   · exact .inr ⟨k, c, e, cellK x c e _ z⟩
 · obtain ⟨v, z⟩ := I.cell x c e
   exact ⟨v, cellK x c e v z⟩
 · obtain ⟨m, ⟨o, _, _, ho, _⟩, _⟩ := I.loc
   exact free _ o (fun z => (hch _ z).2.1 rfl) ho I.free
 · obtain ⟨v, o, ho, hd⟩ := I.cell x c e
   exact free c o (fun z => (hch c z).2.2.1 x c e rfl) ho (I.freeC x c e)
 · obtain ⟨e, n, ne, nf, d⟩ := I.pin p hp
   have nch : p.1 ∉ ch := fun z => (hch p.1 z).2.2.2 p hp rfl
   exact ⟨keep p.1 p.2 ne nf nch e n, free p.1 p.2 nch e n, ne, nf, d⟩
theorem Inv.un {t' : Nat} (I : Inv X pins σ H s) (u : Un X.fs [] H H' s.heap h') (hok : HOk X.prog X.w H' h') : Inv X pins σ H' { s with heap := h', toks := t' } := by
 obtain ⟨m, ⟨o, es, ep, ho, r⟩, _⟩ := id I.loc
 obtain ⟨sl, hL⟩ := u.any ho I.free (by simp)
 exact I.step (g' := s.gens) (d' := s.drawn) (ch := []) (fun _ z => nomatch z) (fun b o _ hb _ e n => u.keep b o e n hb (by simp)) (fun b o _ hb _ e n => u.slot b o e n hb (by simp)) (fun b o _ e n => u.free b o e n (by simp)) (fun b o _ e => u.there b o e (by simp)) u.tups u.frzs u.tbls (fun m' hm => by
  obtain ⟨o', es', ep', ho', r'⟩ := hm
  rw [ho] at ho'; cases ho'
  exact ⟨_, es', ep', hL, r'⟩) hok I.bare
theorem Inv.call {g' : Array GenState} {t' : Nat} {d' : Drawn} {ch : List Addr} (I : Inv X pins σ H s) (u : Un (frs X.stack) ch H H' s.heap h') (hok : HOk X.prog X.w H' h') (hg : AllBare g')
  (hch : ∀ b ∈ ch, (b ∈ X.ex ∨ X.s₀.heap.objs.size ≤ b) ∧ b ≠ X.env.locals ∧ (∀ x c, X.env.cells.lookup x = some c → c ≠ b) ∧ ∀ p ∈ X.pn ++ pins, p.1 ≠ b) :
  Inv X pins σ H' { s with heap := h', gens := g', drawn := d', toks := t' } := by
 obtain ⟨m, ⟨o, es, ep, ho, r⟩, _⟩ := id I.loc
 obtain ⟨sl, hL⟩ := u.any ho I.free fun z => (hch _ z).2.1 rfl
 exact I.step (ch := ch) hch (fun b o hL hb hc e n => u.keep b o e n (fun z => (List.mem_cons.mp (I.stkSub b z)).elim hL hb) hc) (fun b o _ _ hc e n => u.any e n hc) (fun b o hc e n => u.free b o e n hc) (fun b o hc e => u.there b o e hc) u.tups u.frzs u.tbls (fun m' hm => by
  obtain ⟨o', es', ep', ho', r'⟩ := hm
  rw [ho] at ho'; cases ho'
  exact ⟨_, es', ep', hL, r'⟩) hok hg
theorem Inv.turned {t' : Nat} {it : Addr} (I : Inv X pins σ H s) (k : ∀ b o, b ≠ it → s.heap.get? b = some o → h'.get? b = some o) (hn : H it = none) (hL : it ≠ X.env.locals)
   (h1 : it ∈ X.ex ∨ X.s₀.heap.objs.size ≤ it) (h2 : ∀ x c, X.env.cells.lookup x = some c → c ≠ it) (h3 : ∀ p ∈ X.pn ++ pins, p.1 ≠ it) : Inv X pins σ H { s with heap := h', toks := t' } := by
 have nit : ∀ b u, H b = some u → b ≠ it := fun b u e z => by rw [z, hn] at e; cases e
 refine I.step (g' := s.gens) (d' := s.drawn) (ch := [it]) (fun b hb => ?_) (fun b o _ _ hc e _ => k b o (fun z => hc (by simp [z])) e) (fun b o _ _ hc e _ => ⟨o.slots, k b o (fun z => hc (by simp [z])) e⟩) (fun _ _ _ _ n => n)
   (fun b o hc e => ⟨o, k b o (fun z => hc (by simp [z])) e⟩) (fun _ _ e => e) (fun _ _ _ e => e) (fun b ps e => ⟨#[], by rw [e]; simp⟩) (fun m hm => ?_) (fun b u e => ?_) I.bare
 · have e : b = it := by simpa using hb
   subst e
   exact ⟨h1, hL, h2, h3⟩
 · obtain ⟨o, es, ep, ho, r⟩ := hm
   exact ⟨o, es, ep, k _ o (Ne.symm hL) ho, r⟩
 · refine (I.hok b u e).stay (fun c v hc q => k c v ?_ q) (fun _ q => q) fun _ _ q => q
   rcases hc with z | z
   · rw [z]; exact nit b u e
   · exact nit c _ z
theorem Inv.tok (I : Inv X pins σ H s) (t : Nat) : Inv X pins σ H { s with toks := t } := I.un (h' := s.heap) (t' := t) Un.refl I.hok
theorem Inv.kept {t' : Nat} (I : Inv X pins σ H s) (k : ∀ b u, s.heap.get? b = some u → h'.get? b = some u) : Inv X pins σ H { s with heap := h', toks := t' } := I.un (Un.kept k) (I.hok.kept k)
theorem Inv.laid {a : Addr} {o : HO} {t' : Nat} (I : Inv X pins σ H s) (k : ∀ b u, s.heap.get? b = some u → h'.get? b = some u) (hp : s.heap.objs.size ≤ a) (new : aM X.prog X.w (upd H a o) h' a o) :
 Inv X pins σ (upd H a o) { s with heap := h', toks := t' } := I.un (Un.laid k hp (I.hok.fresh hp)) (I.hok.laid k hp new)
theorem Inv.write {x e : Addr} {o : HO} {t' : Nat} (I : Inv X pins σ H s) (mu : Mut (H x)) (he : e = x ∨ H e = some (.own x)) (k : ∀ b u, b ≠ e → s.heap.get? b = some u → h'.get? b = some u) (heo : ∃ u, h'.get? e = some u)
 (new : aM X.prog X.w (upd H x o) h' x o) : Inv X pins σ (upd H x o) { s with heap := h', toks := t' } := I.un (Un.write mu he k heo) (I.hok.write mu he k heo new)
theorem Inv.pins_of {pins' : List (Addr × Obj)} (I : Inv X pins σ H s) (h : ∀ p ∈ pins', s.heap.get? p.1 = some p.2 ∧ H p.1 = none ∧ p.1 ≠ X.env.locals ∧ p.1 ∉ X.fs ∧ ∀ v, p.2.data ≠ .cell v) : Inv X pins' σ H s :=
 ⟨I.ok, I.os, I.bare, I.base, I.loc, I.cell, I.free, I.freeC, fun p hp => (List.mem_append.mp hp).elim (fun z => I.pin p (List.mem_append_left _ z)) (h p), I.hok, I.len⟩
theorem lw {N : List Str} (hN : N.Nodup) {i j : Nat} {x : Str} (a : N[i]? = some x) (b : N[j]? = some x) : i = j := by
 obtain ⟨h1, e1⟩ := List.getElem?_eq_some_iff.mp a
 obtain ⟨h2, e2⟩ := List.getElem?_eq_some_iff.mp b
 exact (List.getElem_inj hN).mp (e1.trans e2.symm)
theorem jU {M : Model} {A : Around} {E : Value → Shared → Prop} {i : Nat} {x : Str} {v : V} {u : Value} {Q : Unit → Shared → Prop} (I : Inv X pins σ H s) (hN : X.N.Nodup) (hi : X.N[i]? = some x) (hx : Loc X.env.scope x) (r : aC v u)
   (h : ∀ s', Inv X pins (σ.set i (some v)) H s' → (∃ a, Heap.SameBut a s.heap s'.heap ∧ (a = X.env.locals ∨ X.env.cells.lookup x = some a)) → Q () s') (hf : X.fn x = true ∨ X.env.scope.names.lookup x = some .local := by first | exact .inl rfl | exact .inr rfl | assumption) : wpAny M A (storeName X.env x u) Q E s := by
 obtain ⟨m, hn, hl⟩ := id I.loc
 have hcls : (X.env.scope.kind == .class || (X.env.scope.kind == .module && X.env.locals != X.env.globals)) = false := by rw [I.ok.kind]; rfl
 have hiσ : i < σ.length := by rw [I.len]; exact (List.getElem?_eq_some_iff.mp hi).1
 have cne := I.cne
 have tracked : ∀ {a : Addr} {h' : Heap}, (∃ o, s.heap.get? a = some o ∧ H a = none) → Heap.SameBut a s.heap h' → HOk X.prog X.w H h' := fun {a h'} ha hs b ob e => by
   obtain ⟨_, _, hfree⟩ := ha
   refine (I.hok b ob e).stay (fun c w' hc q => (hs.2 c ?_).trans q) (fun _ q => q) fun _ _ q => q
   rintro rfl
   rcases hc with rfl | hc
   · rw [hfree] at e; cases e
   · rw [hfree] at hc; cases hc
 rcases hx with hk | hk
 · refine wpAny_storeName_local hk hn (fun h' hn' hs => ?_) hcls
   obtain ⟨oL, _, _, hoL, _⟩ := id hn
   refine h _ ⟨I.ok, I.os, I.bare, ⟨fun b o e n hb hx => ?_, fun b o e n hb hx => ?_, I.base.free, fun b o e hx => ?_, I.base.tups, I.base.frzs, I.base.tbls⟩, ⟨_, hn', fun j y v' e1 e2 e3 => ?_⟩, fun y c e => ?_, I.free, I.freeC, fun p hp => ?_, tracked ⟨oL, hoL, I.free⟩ hs, by simpa using I.len⟩ ⟨_, hs, .inl rfl⟩
   · exact (hs.2 b (Nat.ne_of_lt (Nat.lt_of_lt_of_le (Heap.lt_size e) I.ok.above))).trans (I.base.keep b o e n hb hx)
   · obtain ⟨sl, e1⟩ := I.base.slot b o e n hb hx
     exact ⟨sl, (hs.2 b (Nat.ne_of_lt (Nat.lt_of_lt_of_le (Heap.lt_size e) I.ok.above))).trans e1⟩
   · obtain ⟨o', e1⟩ := I.base.there b o e hx
     exact ⟨o', (hs.2 b (Nat.ne_of_lt (Nat.lt_of_lt_of_le (Heap.lt_size e) I.ok.above))).trans e1⟩
   · by_cases hj : j = i
     · subst hj
       rw [hi] at e1; cases e1
       rw [List.getElem?_set_self hiσ] at e2
       cases e2
       exact ⟨u, r, .inl ⟨hk, by simp⟩⟩
     · rw [List.getElem?_set_ne (Ne.symm hj)] at e2
       obtain ⟨u', r', q⟩ := hl j y v' e1 e2 e3
       refine ⟨u', r', ?_⟩
       rcases q with ⟨k, e⟩ | ⟨k, c, e, z⟩
       · refine .inl ⟨k, ?_⟩
         have : y ≠ x := fun e => hj (lw hN e1 (e ▸ hi))
         simp [this, e]
       · exact .inr ⟨k, c, e, z.sameBut hs (cne y c e)⟩
   · obtain ⟨w', z⟩ := I.cell y c e
     exact ⟨w', z.sameBut hs (cne y c e)⟩
   · obtain ⟨e, n, ne, nf, d⟩ := I.pin p hp
     exact ⟨(hs.2 p.1 ne).trans e, n, ne, nf, d⟩
 · have hfn : X.fn x = true := by
     rcases hf with z | z
     · exact z
     · rw [z] at hk; cases hk
   obtain ⟨c, hc⟩ := I.ok.has x (.inl hk)
   obtain ⟨w', z⟩ := I.cell x c hc
   refine wpAny_storeName_cell I.ok.kind hk hc z (fun h' hc' hs => ?_)
   obtain ⟨oc, hoc, hocd⟩ := id z
   refine h { s with heap := h' } ⟨I.ok, I.os, I.bare, ⟨fun b o e n hb hx => ?_, fun b o e n hb hx => ?_, I.base.free, fun b o e hx => ?_, I.base.tups, I.base.frzs, I.base.tbls⟩, ⟨m, hn.sameBut hs (Ne.symm (cne x c hc)), fun j y v' e1 e2 e3 => ?_⟩, fun y c' e => ?_, I.free, I.freeC, fun p hp => ?_, tracked ⟨oc, hoc, I.freeC x c hc⟩ hs, by simpa using I.len⟩ ⟨c, hs, .inr hc⟩
   · exact (hs.2 b (Nat.ne_of_lt (Nat.lt_of_lt_of_le (Heap.lt_size e) (I.ok.cab x c hfn hc)))).trans (I.base.keep b o e n hb hx)
   · obtain ⟨sl, e1⟩ := I.base.slot b o e n hb hx
     exact ⟨sl, (hs.2 b (Nat.ne_of_lt (Nat.lt_of_lt_of_le (Heap.lt_size e) (I.ok.cab x c hfn hc)))).trans e1⟩
   · obtain ⟨o', e1⟩ := I.base.there b o e hx
     exact ⟨o', (hs.2 b (Nat.ne_of_lt (Nat.lt_of_lt_of_le (Heap.lt_size e) (I.ok.cab x c hfn hc)))).trans e1⟩
   · by_cases hj : j = i
     · subst hj
       rw [hi] at e1; cases e1
       rw [List.getElem?_set_self hiσ] at e2
       cases e2
       exact ⟨u, r, .inr ⟨.inl hk, c, hc, hc'⟩⟩
     · rw [List.getElem?_set_ne (Ne.symm hj)] at e2
       obtain ⟨u', r', q⟩ := hl j y v' e1 e2 e3
       refine ⟨u', r', ?_⟩
       rcases q with q | ⟨k, c', e, z'⟩
       · exact .inl q
       · refine .inr ⟨k, c', e, z'.sameBut hs ?_⟩
         rintro rfl
         exact hj (lw hN e1 (I.ok.inj _ _ _ e hc ▸ hi))
   · by_cases hcc : c' = c
     · subst hcc; exact ⟨_, hc'⟩
     · obtain ⟨w2, z2⟩ := I.cell y c' e
       exact ⟨w2, z2.sameBut hs hcc⟩
   · obtain ⟨e, n, ne, nf, d⟩ := I.pin p hp
     refine ⟨(hs.2 p.1 ?_).trans e, n, ne, nf, d⟩
     intro q
     rw [q, hoc] at e
     have q' : oc = p.2 := Option.some.inj e
     exact d w' (by rw [← q']; exact hocd)
theorem fe {M : Model} {A : Around} {E : Value → Shared → Prop} {i : Nat} {x : Str} {v : V} {u : Value} {Q : Unit → Shared → Prop} (I : Inv X pins σ H s) (hN : X.N.Nodup) (hi : X.N[i]? = some x) (hx : Loc X.env.scope x) (r : aC v u)
  (h : ∀ s', Inv X pins (σ.set i (some v)) H s' → Q () s') (hf : X.fn x = true ∨ X.env.scope.names.lookup x = some .local := by first | exact .inl rfl | exact .inr rfl | assumption) : wpAny M A (storeName X.env x u) Q E s :=
 jU I hN hi hx r (fun s' I' _ => h s' I') hf
theorem Inv.call' {s' : Shared} {ch : List Addr} (I : Inv X pins σ H s) (ho : s'.os = s.os) (u : Un (frs X.stack) ch H H' s.heap s'.heap) (hok : HOk X.prog X.w H' s'.heap) (hg : AllBare s'.gens)
  (hch : ∀ b ∈ ch, (b ∈ X.ex ∨ X.s₀.heap.objs.size ≤ b) ∧ b ≠ X.env.locals ∧ (∀ x c, X.env.cells.lookup x = some c → c ≠ b) ∧ ∀ p ∈ X.pn ++ pins, p.1 ≠ b) : Inv X pins σ H' s' := by
 obtain ⟨h', g', d', t', o'⟩ := s'
 have e : o' = s.os := ho
 subst e
 exact I.call (g' := g') (t' := t') (d' := d') u hok hg hch
end
abbrev XK := Value → Option Addr → Hp → Prop
abbrev St := List (Option V)
abbrev VK := V → Hp → Prop
abbrev TE := St → Hp → VK → Prop
abbrev TT := St → Hp → (Bool → Hp → Prop) → Prop
abbrev TA := St → Hp → (List V → Hp → Prop) → Prop
structure fc where
 nx : St → Hp → Prop
 rt : VK
 bk : St → Hp → Prop := fun _ _ => False
 ct : St → Hp → Prop := fun _ _ => False
abbrev TS := fc → St → Hp → Prop
def EP (X : Cx) (pins : List (Addr × Obj)) (σ : St) (Q : VK) (u : Value) (s' : Shared) : Prop := ∃ v H', Inv X pins σ H' s' ∧ aC v u ∧ Q v H'
def TP (X : Cx) (pins : List (Addr × Obj)) (σ : St) (Q : Bool → Hp → Prop) (b : Bool) (s' : Shared) : Prop := ∃ H', Inv X pins σ H' s' ∧ Q b H'
def AP (X : Cx) (pins : List (Addr × Obj)) (σ : St) (Q : List V → Hp → Prop) (us : List Value) (s' : Shared) : Prop := ∃ vs H', Inv X pins σ H' s' ∧ ax vs us ∧ Q vs H'
def SP (X : Cx) (pins : List (Addr × Obj)) (D : fc) (f : Flow) (s' : Shared) : Prop :=
 match f with
 | .next => ∃ σ' H', Inv X pins σ' H' s' ∧ D.nx σ' H'
 | .brk => ∃ σ' H', Inv X pins σ' H' s' ∧ D.bk σ' H'
 | .cont => ∃ σ' H', Inv X pins σ' H' s' ∧ D.ct σ' H'
 | .ret u => ∃ v σ' H', Inv X pins σ' H' s' ∧ aC v u ∧ D.rt v H'
def PE (X : Cx) (e : Expr) (t : TE) : Prop :=
 ∀ (pins : List (Addr × Obj)) (s : Shared) (σ : St) (H : Hp) (Q : VK), Inv X pins σ H s → t σ H Q → wpAny (model X.prog X.w) X.A (eval e X.env) (EP X pins σ Q) X.xe s
def PT (X : Cx) (e : Expr) (t : TT) : Prop :=
 ∀ (pins : List (Addr × Obj)) (s : Shared) (σ : St) (H : Hp) (Q : Bool → Hp → Prop), Inv X pins σ H s → t σ H Q → wpAny (model X.prog X.w) X.A (isTrue e X.env (eval e X.env)) (TP X pins σ Q) X.xe s
def PW (X : Cx) (e : Expr) (t : TT) : Prop :=
 ∀ (whole : Sem Value) (pins : List (Addr × Obj)) (s : Shared) (σ : St) (H : Hp) (Q : Bool → Hp → Prop), Inv X pins σ H s → t σ H Q → wpAny (model X.prog X.w) X.A (isTrue e X.env whole) (TP X pins σ Q) X.xe s
theorem PW.pt {X : Cx} {e : Expr} {t : TT} (h : PW X e t) : PT X e t := h _
def PA (X : Cx) (es : List Expr) (t : TA) : Prop :=
 ∀ (pos : Pos) (pins : List (Addr × Obj)) (s : Shared) (σ : St) (H : Hp) (Q : List V → Hp → Prop), Inv X pins σ H s → t σ H Q → wpAny (model X.prog X.w) X.A (spliced (backTo pos (starEach es X.env))) (AP X pins σ Q) X.xe s
def PS (X : Cx) (st : Stmt) (t : TS) : Prop :=
 ∀ (pins : List (Addr × Obj)) (s : Shared) (σ : St) (H : Hp) (D : fc), Inv X pins σ H s → t D σ H → wpAny (model X.prog X.w) X.A (exec st X.env) (SP X pins D) X.xe s
def PSs (X : Cx) (st : List Stmt) (t : TS) : Prop :=
 ∀ (pins : List (Addr × Obj)) (s : Shared) (σ : St) (H : Hp) (D : fc), Inv X pins σ H s → t D σ H → wpAny (model X.prog X.w) X.A (execs st X.env) (SP X pins D) X.xe s
theorem thn {α : Type} {t : Sem α} {Q Q' : α → Shared → Prop} {M : Model} {A : Around} {E : Value → Shared → Prop} {s : Shared} (h : wpAny M A t Q E s) (hQ : ∀ a s, Q a s → Q' a s) : wpAny M A t Q' E s := wpAny_mono h hQ fun _ _ x => x
end L2
namespace L2
open PySem PySem.Spec PyProof.Rows
section
variable {X : Cx}
def Bs (i : Nat) : TE := fun σ H Q => ∃ v, σ[i]? = some (some v) ∧ Q v H
def tC (v : V) : TE := fun _ H Q => Q v H
theorem yc {i : Nat} {x : Str} {pos : Pos} (hN : X.N[i]? = some x) (hv : Vis X.env.scope x) (hd : (x == ("__debug__" : Str)) = false := by decide) (hcd : (x == ("__classdict__" : Str)) = false := by decide) : PE X (.Name x pos) (Bs i) := by
 intro pins s σ H Q I h
 obtain ⟨v, e, h⟩ := h
 obtain ⟨m, hn, hl⟩ := I.loc
 obtain ⟨u, r, l⟩ := hl i x v hN e hv
 have fin : EP X pins σ Q u s := ⟨v, H, I, r, h⟩
 rcases l with ⟨hk, hm⟩ | ⟨hk, c, hc, hcell⟩
 · exact wpAny_Name (wpAny_loadName_local I.ok.kind hk hn hm fin) hd
 · rcases hk with hk | hk
   · exact wpAny_Name (wpAny_loadName_cell I.ok.kind hk hc hcell fin) hd
   · exact wpAny_Name (wpAny_loadName_free I.ok.kind hk hc hcell fin hcd) hd
theorem xl {i j pos} : PE X (.Constant (.int i) j pos) (tC (.int i)) := fun _ _ _ H _ I h => wpAny_Constant_int ⟨.int i, H, I.tok _, ⟨_, rfl⟩, h⟩
theorem zH {b j pos} : PE X (.Constant (.bool b) j pos) (tC (.bl b)) := fun _ _ _ H _ I h => Constant_bool ⟨.bl b, H, I, rfl, h⟩
theorem xw {x j pos} : PE X (.Constant (.str x) j pos) (tC (.str x)) := fun _ _ _ H _ I h => Calls.Constant_str ⟨.str x, H, I.tok _, ⟨_, rfl⟩, h⟩
def Gl (X : Cx) (x : Str) : Prop := X.env.kindOf x = some .globalImplicit
theorem fU {E : Value → Shared → Prop} {pins : List (Addr × Obj)} {s : Shared} {σ : St} {H : Hp} {x : Str} {u : Value} {pos : Pos} {Q : Value → Shared → Prop} (I : Inv X pins σ H s) (hg : Gl X x) (hm : X.mg x = some u) (h : Q u s)
  (hd : (x == ("__debug__" : Str)) = false := by decide) : wpAny (model X.prog X.w) X.A (eval (.Name x pos) X.env) Q E s :=
 Calls.Name_function_global I.ok.kind hg (Calls.loadGlobal_global (by rw [I.ok.glob]; exact I.mod.glob.keeps I.bk) hm h) hd
theorem dg {E : Value → Shared → Prop} {pins : List (Addr × Obj)} {s : Shared} {σ : St} {H : Hp} {x : Str} {u : Value} {pos : Pos} {Q : Value → Shared → Prop} (I : Inv X pins σ H s) (hg : Gl X x) (hm : X.mg x = none) (hv : bootBuiltins x = some u) (h : Q u s)
  (hn : x ≠ "__name__" := by decide) (hd : (x == ("__debug__" : Str)) = false := by decide) : wpAny (model X.prog X.w) X.A (eval (.Name x pos) X.env) Q E s := by
 obtain ⟨mb, h1, h2⟩ := I.mod.blt
 exact Calls.Name_function_global I.ok.kind hg (Calls.loadGlobal_builtin (by rw [I.ok.glob]; exact I.mod.glob.keeps I.bk) hm (by rw [I.ok.blt]; exact h1.keeps I.bk) ((h2 x hn).trans hv) h) hd
theorem vc {x : Str} {v : V} {u : Value} {pos : Pos} (hg : Gl X x) (hm : X.mg x = some u) (r : aC v u) (hd : (x == ("__debug__" : Str)) = false := by decide) : PE X (.Name x pos) (tC v) :=
 fun _ _ _ H _ I h => fU I hg hm ⟨v, H, I, r, h⟩ hd
theorem vh {x : Str} {v : V} {u : Value} {pos : Pos} (hg : Gl X x) (hm : X.mg x = none) (hv : bootBuiltins x = some u) (r : aC v u) (hn : x ≠ "__name__" := by decide) (hd : (x == ("__debug__" : Str)) = false := by decide) : PE X (.Name x pos) (tC v) :=
 fun _ _ _ H _ I h => dg I hg hm hv ⟨v, H, I, r, h⟩ hn hd
variable {a b : Expr} {ta tb : TE} {pos : Pos}
variable {tA tB' : TT} {bq : List Expr}
def cz (t : TT) : TT := fun σ H Q => t σ H fun c H1 => Q (!c) H1
theorem uW (ha : PT X a tA) : PW X (.BoolOp .And [a] pos) tA := by
 intro wh pins s σ H Q I h
 refine isTrue_and (thn (ha pins s σ H Q I h) fun c s1 e => ?_)
 cases c with
 | true => exact isTrue_and_nil e
 | false => exact e
theorem yp (ha : PT X a tA) : PW X (.BoolOp .Or [a] pos) tA := by
 intro wh pins s σ H Q I h
 refine isTrue_or (thn (ha pins s σ H Q I h) fun c s1 e => ?_)
 cases c with
 | false => exact isTrue_or_nil e
 | true => exact e
theorem xu (ha : PT X a tA) : PT X (.UnaryOp .Not a pos) (cz tA) := by
 intro pins s σ H Q I h
 exact isTrue_not (ha pins s σ H (fun c H1 => Q (!c) H1) I h)
theorem wG {op} {t : TE} (h : PE X a t) : PE X (.BoolOp op [a] pos) t := fun pins s σ H Q I hw => BoolOp_one (h pins s σ H Q I hw)
end
end L2
namespace L2
open PySem PySem.Spec PyProof.Rows
def SqL (K : W.Frag) (H : Hp) (a : Addr) (xs : List V) : Prop :=
 Rd H a (.lst xs) ∨
  ∃ (o : Obj) (its : Array Value) (n : Nat), K.lookup a = some o ∧ o.cls = .type "list" ∧ o.dict = none ∧ o.data = .seq its n ∧ its.size ≤ sizeLine ∧ ax xs its.toList
def SqT (K : W.Frag) (H : Hp) (a : Addr) (xs : List V) : Prop :=
 Rd H a (.tup xs) ∨
  ∃ (o : Obj) (its : Array Value) (n : Nat), K.lookup a = some o ∧ o.cls = .type "tuple" ∧ o.data = .seq its n ∧ its.size ≤ sizeLine ∧ ax xs its.toList
def BI : Value → Option V
 | .none => some .non
 | .bool b => some (.bl b)
 | .int i _ => some (.int i)
 | .str x _ => some (.str x)
 | .bytes b _ => some (.byt b)
 | .float b _ => some (.flt b)
 | .ref a => some (.ref a)
 | .type n => some (.ty n)
 | _ => none
theorem aC.abs {x : V} {u : Value} (r : aC x u) : BI u = some x := by
 cases x with
 | non => cases r; rfl
 | bl _ => cases r; rfl
 | int _ => obtain ⟨t, rfl⟩ := r; rfl
 | str _ => obtain ⟨t, rfl⟩ := r; rfl
 | byt _ => obtain ⟨t, rfl⟩ := r; rfl
 | flt _ => obtain ⟨t, rfl⟩ := r; rfl
 | ref _ => cases r; rfl
 | ty _ => cases r; rfl
theorem aC.inj {x y : V} {u : Value} (r : aC x u) (q : aC y u) : x = y := Option.some.inj (r.abs.symm.trans q.abs)
theorem ax.inj : ∀ {xs ys : List V} {us : List Value}, ax xs us → ax ys us → xs = ys
 | _, _, _, .nil, .nil => rfl
 | _, _, _, .cons r t, .cons r' t' => by rw [r.inj r', ax.inj t t']
section
variable {X : Cx} {pins : List (Addr × Obj)} {σ : St} {H : Hp} {s : Shared} {a : Addr} {xs ys : List V}
theorem SqL.of {K : W.Frag} (h : H a = some (.lst xs)) : SqL K H a xs := .inl (.inl h)
theorem SqT.of {K : W.Frag} (h : H a = some (.tup xs)) : SqT K H a xs := .inl (.inl h)
theorem Inv.list (I : Inv X pins σ H s) (h : SqL X.K H a xs) : ∃ its : List Value, ax xs its ∧ PlainL s.heap a its.toArray ∧ xs.length ≤ sizeLine := by
 rcases h with h | ⟨o, its, n, hk, hc, hd, hs, hz, r⟩
 · obtain ⟨z, its, n, r, e⟩ := h.ok I.hok
   exact ⟨its, r, ⟨_, n, e, rfl, rfl, rfl⟩, z⟩
 · refine ⟨its.toList, r, ⟨o, n, I.kIn a o hk, hc, hd, by simpa using hs⟩, ?_⟩
   have e := r.length
   simp only [Array.length_toList] at e
   omega
theorem Inv.tuple (I : Inv X pins σ H s) (h : SqT X.K H a xs) : ∃ its : List Value, ax xs its ∧ IsTup s.heap a its.toArray ∧ xs.length ≤ sizeLine := by
 rcases h with h | ⟨o, its, n, hk, hc, hs, hz, r⟩
 · obtain ⟨z, its, r, p⟩ := h.ok I.hok
   exact ⟨its, r, p, z⟩
 · refine ⟨its.toList, r, ⟨o, I.kIn a o hk, hc, n, by simpa using hs⟩, ?_⟩
   have e := r.length
   simp only [Array.length_toList] at e
   omega
theorem Inv.list_inj (I : Inv X pins σ H s) (h : SqL X.K H a xs) (h' : SqL X.K H a ys) : xs = ys := by
 obtain ⟨its, r, ⟨o, n, e, _, _, d⟩, _⟩ := I.list h
 obtain ⟨its', r', ⟨o', n', e', _, _, d'⟩, _⟩ := I.list h'
 rw [e] at e'; cases e'
 rw [d] at d'
 injection d' with d1 _
 have : its = its' := by simpa using congrArg Array.toList d1
 subst this
 exact r.inj r'
theorem Inv.tuple_inj (I : Inv X pins σ H s) (h : SqT X.K H a xs) (h' : SqT X.K H a ys) : xs = ys := by
 obtain ⟨its, r, ⟨o, e, _, n, d⟩, _⟩ := I.tuple h
 obtain ⟨its', r', ⟨o', e', _, n', d'⟩, _⟩ := I.tuple h'
 rw [e] at e'; cases e'
 rw [d] at d'
 injection d' with d1 _
 have : its = its' := by simpa using congrArg Array.toList d1
 subst this
 exact r.inj r'
end
abbrev Cx.wish (X : Cx) (E : Value → Shared → Prop) : Cx := { X with xe := E }
abbrev Cx.nox (X : Cx) : Cx := X.wish fun _ _ => False
theorem Cx.Ok.wish {X : Cx} (ok : X.Ok) (E : Value → Shared → Prop) : (X.wish E).Ok :=
 ⟨ok.mod, ok.kind, ok.glob, ok.blt, ok.above, ok.inj, ok.has, ok.cab, ok.hd, ok.frames, ok.stk, ok.exf, ok.bs, ok.bsz, ok.noex, ok.exfs, ok.funs, ok.frf⟩
theorem Cx.Ok.unwish {X : Cx} {E : Value → Shared → Prop} (ok : (X.wish E).Ok) : X.Ok :=
 ⟨ok.mod, ok.kind, ok.glob, ok.blt, ok.above, ok.inj, ok.has, ok.cab, ok.hd, ok.frames, ok.stk, ok.exf, ok.bs, ok.bsz, ok.noex, ok.exfs, ok.funs, ok.frf⟩
section
variable {X : Cx} {pins : List (Addr × Obj)} {σ : St} {H : Hp} {s : Shared} {E : Value → Shared → Prop}
theorem Inv.wish (I : Inv X pins σ H s) (E : Value → Shared → Prop) : Inv (X.wish E) pins σ H s := ⟨I.ok.wish E, I.os, I.bare, I.base, I.loc, I.cell, I.free, I.freeC, I.pin, I.hok, I.len⟩
theorem Inv.unwish (I : Inv (X.wish E) pins σ H s) : Inv X pins σ H s := ⟨I.ok.unwish, I.os, I.bare, I.base, I.loc, I.cell, I.free, I.freeC, I.pin, I.hok, I.len⟩
theorem SP.unwish {D : fc} {f : Flow} {s' : Shared} (h : SP (X.wish E) pins D f s') : SP X pins D f s' := by
 cases f with
 | next => obtain ⟨σ', H', I, q⟩ := h; exact ⟨σ', H', I.unwish, q⟩
 | brk => obtain ⟨σ', H', I, q⟩ := h; exact ⟨σ', H', I.unwish, q⟩
 | cont => obtain ⟨σ', H', I, q⟩ := h; exact ⟨σ', H', I.unwish, q⟩
 | ret u => obtain ⟨v, σ', H', I, r, q⟩ := h; exact ⟨v, σ', H', I.unwish, r, q⟩
theorem PE.nox {e : Expr} {t : TE} (h : PE X.nox e t) : PE X e t := fun pins s σ H Q I hw =>
 wpAny_mono (h pins s σ H Q (I.wish _) hw) (fun _ _ ⟨v, H', I', r, q⟩ => ⟨v, H', I'.unwish, r, q⟩) fun _ _ z => False.elim z
theorem PSs.nox {st : List Stmt} {t : TS} (h : PSs X.nox st t) : PSs X st t := fun pins s σ H D I hw =>
 wpAny_mono (h pins s σ H D (I.wish _) hw) (fun _ _ q => q.unwish) fun _ _ z => False.elim z
end
section
variable {X : Cx} {st : Stmt} {bq : List Stmt} {t u : TS} {e : Expr} {te : TE} {pos : Pos}
def aQ : TS := fun D σ H => D.nx σ H
def ar (t u : TS) : TS := fun D σ H => t { D with nx := u D } σ H
theorem vn : PSs X [] aQ := fun _ _ σ H _ I h => wpAny_execs_nil ⟨σ, H, I, h⟩
theorem rg (h1 : PS X st t) (h2 : PSs X bq u) : PSs X (st :: bq) (ar t u) := by
  intro pins s σ H D I h
  refine wpAny_execs_cons (thn (h1 pins s σ H { D with nx := u D } I h) fun f s1 q => ?_)
  cases f with
  | next =>
    obtain ⟨σ', H', I', q⟩ := q
    exact h2 pins s1 σ' H' D I' q
  | ret v => exact q
  | brk => exact q
  | cont => exact q
theorem uR (h1 : PS X st t) : PSs X [st] t := by
 intro pins s σ H D I h
 refine wpAny_execs_cons (thn (h1 pins s σ H D I h) fun f s1 q => ?_)
 cases f with
 | next => exact wpAny_execs_nil q
 | ret v => exact q
 | brk => exact q
 | cont => exact q
theorem Inv.quiet {pins : List (Addr × Obj)} {σ : St} {H : Hp} {s : Shared} (I : Inv X pins σ H s) : interactive X.env = false := by simp [interactive, I.ok.kind]
def bW (te : TE) : TS := fun D σ H => te σ H fun _ H1 => D.nx σ H1
theorem uH (he : PE X e te) (hs : swapsWith e none pos.line X.env = pure false := by rfl) : PS X (.Expr e pos) (bW te) := by
 intro pins s σ H D I h
 exact wpAny_Expr_any (thn (he pins s σ H _ I h) fun v s1 ⟨x, H1, I1, r1, q1⟩ => ⟨σ, H1, I1, q1⟩) I.quiet hs
def aE (te : TE) : TS := fun D σ H => te σ H D.rt
theorem xL (he : PE X e te) : PS X (.Return (some e) pos) (aE te) := by
 intro pins s σ H D I h
 exact wpAny_Return_some (thn (he pins s σ H _ I h) fun v s1 ⟨x, H1, I1, r1, q1⟩ => ⟨x, σ, H1, I1, r1, q1⟩)
def dw : TS := fun _ _ _ => False
theorem rJ : PS X st dw := fun _ _ _ _ _ _ h => h.elim
end
abbrev TG := V → St → Hp → (St → Hp → Prop) → Prop
abbrev TGs := List V → St → Hp → (St → Hp → Prop) → Prop
def PG (X : Cx) (target : Expr) (t : TG) : Prop :=
 ∀ (pins : List (Addr × Obj)) (s : Shared) (σ : St) (H : Hp) (v : V) (u : Value) (Q : St → Hp → Prop), Inv X pins σ H s → aC v u → t v σ H Q →
  wpAny (model X.prog X.w) X.A (assign target X.env u) (fun _ s' => ∃ σ' H', Inv X pins σ' H' s' ∧ Q σ' H') X.xe s
def PGs (X : Cx) (ts : List Expr) (t : TGs) : Prop :=
 ∀ (pins : List (Addr × Obj)) (s : Shared) (σ : St) (H : Hp) (vs : List V) (us : List Value) (Q : St → Hp → Prop), Inv X pins σ H s → ax vs us → t vs σ H Q →
  wpAny (model X.prog X.w) X.A (assignInOrder ((assignEach ts X.env).map (·.2)) us) (fun _ s' => ∃ σ' H', Inv X pins σ' H' s' ∧ Q σ' H') X.xe s
abbrev tQ := V → V → V → Hp → (Hp → Prop) → Prop
def nN (X : Cx) (t : tQ) : Prop :=
 ∀ (pins : List (Addr × Obj)) (s : Shared) (σ : St) (H : Hp) (o i v : V) (ov iv u : Value) (Q : Hp → Prop), Inv X pins σ H s → aC o ov → aC i iv → aC v u → t o i v H Q →
  wpAny (model X.prog X.w) X.A (setItem ov iv u) (fun _ s' => ∃ H', Inv X pins σ H' s' ∧ Q H') X.xe s
section
variable {X : Cx} {pos : Pos}
def au (i : Nat) : TG := fun v σ H Q => Q (σ.set i (some v)) H
theorem ju {i : Nat} {x : Str} (hN : X.N.Nodup) (hi : X.N[i]? = some x) (hx : Loc X.env.scope x) (hf : X.fn x = true ∨ X.env.scope.names.lookup x = some .local := by first | exact .inl rfl | exact .inr rfl | assumption) : PG X (.Name x pos) (au i) := by
 intro pins s σ H v u Q I r h
 exact wpAny_assign_Name (fe I hN hi hx r (fun s' I' => ⟨_, H, I', h⟩) hf)
def lx : TGs := fun vs σ H Q => vs = [] ∧ Q σ H
def eT (t : TG) (u : TGs) : TGs := fun vs σ H Q => ∃ v r, vs = v :: r ∧ t v σ H fun σ' H' => u r σ' H' Q
theorem uI : PGs X [] lx := by
 intro pins s σ H vs us Q I r h
 obtain ⟨e, h⟩ := h
 subst e
 cases r
 exact assignInOrder_nil ⟨σ, H, I, h⟩
theorem lA {e : Expr} {es : List Expr} {t : TG} {u : TGs} (h1 : PG X e t) (h2 : PGs X es u)
    (hs : (assignEach (e :: es) X.env).map (·.2) = assign e X.env :: (assignEach es X.env).map (·.2) := by rfl) : PGs X (e :: es) (eT t u) := by
  intro pins s σ H vs us Q I r h
  obtain ⟨v, vr, e1, h⟩ := h
  subst e1
  cases r with
  | cons r rr =>
    rw [hs]
    refine assignInOrder_cons (thn (h1 pins s σ H _ _ _ I r h) fun _ s1 ⟨σ1, H1, I1, q1⟩ => ?_)
    exact h2 pins s1 σ1 H1 _ _ Q I1 rr q1
def lX (K : W.Frag) (n : Nat) (t : TGs) : TG := fun v σ H Q => ∃ a xs, v = .ref a ∧ SqT K H a xs ∧ xs.length = n ∧ t xs σ H Q
theorem xN {es : List Expr} {k : Nat} {t : TGs} {n : Nat} (hc : X.calm = true) (h : PGs X es t)
  (hn : (assignEach es X.env).length = n := by rfl) (hst : (assignEach es X.env).findIdx? (·.1) = none := by rfl) : PG X (.Tuple es k pos) (lX X.K n t) := by
 intro pins s σ H v u Q I r hw
 obtain ⟨a, xs, e1, hq, hl, hw⟩ := hw
 subst e1
 cases r
 obtain ⟨its, rv, ht, hz⟩ := I.tuple hq
 refine assign_Tuple_tuple (I.ok.hd hc) ht (by simp [hn, ← hl, rv.length]) hst fun h' hx => ?_
 have I1 : Inv X pins σ H { s with heap := h' } := I.kept (t' := s.toks) fun b o e => hx b o (Nat.ne_of_lt (Heap.lt_size e)) e
 exact h pins _ σ H xs _ Q I1 (by simpa using rv) hw
def oJ (to ti : TE) (t : tQ) : TG := fun v σ H Q => to σ H fun o H1 => ti σ H1 fun i H2 => t o i v H2 fun H3 => Q σ H3
theorem vJ {o i : Expr} {to ti : TE} {t : tQ} (ho : PE X o to) (hi : PE X i ti) (hs : nN X t)
  (ha : ∀ v, assign (.Subscript o i pos) X.env v = (do
   let ov ← holding [v] (eval o X.env)
   let iv ← holding [v, ov] (eval i X.env)
   standAt pos
   holding [v, ov, iv] (setItem ov iv v)
   release [v, ov, iv] []) := by intro _; rfl) : PG X (.Subscript o i pos) (oJ to ti t) := by
 intro pins s σ H v u Q I r h
 rw [ha]
 refine wpAny_bind (wpAny_holding (thn (ho pins s σ H _ I h) fun ov s1 ⟨x, H1, I1, r1, q1⟩ => ?_))
 refine wpAny_bind (wpAny_holding (thn (hi pins s1 σ H1 _ I1 q1) fun iv s2 ⟨y, H2, I2, r2, q2⟩ => ?_))
 refine wpAny_bind (wpAny_standAt (wpAny_bind (wpAny_holding (thn (hs pins s2 σ H2 x y v ov iv u _ I2 r1 r2 r q2) fun _ s3 ⟨H3, I3, q3⟩ => ?_))))
 exact wpAny_release ⟨σ, H3, I3, q3⟩
def az (te : TE) (g : TG) : TS := fun D σ H => te σ H fun x H1 => g x σ H1 D.nx
theorem xF {tg e : Expr} {te : TE} {g : TG} (he : PE X e te) (hg : PG X tg g) (hs : swapsWithSole [tg] e pos.line X.env = pure false := by rfl) (hw : swappedStores [tg] e X.env = pure none := by rfl)
  (h1 : (assignEach [tg] X.env).map (·.2) = [assign tg X.env] := by rfl) : PS X (.Assign [tg] e pos) (az te g) := by
 intro pins s σ H D I h
 refine wpAny_Assign_stores (thn (he pins s σ H _ I h) fun v s1 ⟨x, H1, I1, r1, q1⟩ => ?_) hs hw
 rw [h1]
 exact thn (hg pins s1 σ H1 x v _ I1 r1 q1) fun _ s2 q => q
theorem xY {i : Nat} {x : Str} {e : Expr} {te : TE} {pos' : Pos} (hN : X.N.Nodup) (hi : X.N[i]? = some x) (hx : Loc X.env.scope x) (he : PE X e te) (hs : swapsWith e (some (.Name x pos')) pos.line X.env = pure false := by rfl) (hf : X.fn x = true ∨ X.env.scope.names.lookup x = some .local := by first | exact .inl rfl | exact .inr rfl | assumption) :
  PS X (.Assign [.Name x pos'] e pos) (az te (au i)) := by
 intro pins s σ H D I h
 refine wpAny_Assign_Name (thn (he pins s σ H _ I h) fun v s1 ⟨y, H1, I1, r1, q1⟩ => ?_) hs
 exact fe I1 hN hi hx r1 (fun s2 I2 => ⟨_, H1, I2, q1⟩) hf
end
section
variable {X : Cx} {pos : Pos}
def fk (c : TT) (tb : TS) : TS := fun D σ H => ∃ W : Nat → St → Hp → Prop, (∃ m, W m σ H) ∧ ∀ m σ H, W m σ H →
 c σ H fun b H1 => if b = true then ∃ N : St → Hp → Prop, (∀ σ' H', N σ' H' → ∃ m', m' < m ∧ W m' σ' H') ∧ tb { D with nx := N, ct := N, bk := D.nx } σ H1 else D.nx σ H1
theorem rD {c : Expr} {body : List Stmt} {tc : TT} {tb : TS} (hp : PassesOwn (model X.prog X.w) X.A X.env X.xe) (hc : PT X c tc) (hb : PSs X body tb) : PS X (.While c body [] pos) (fk tc tb) := by
  intro pins s σ H D I h
  obtain ⟨W, ⟨m0, w0⟩, turn⟩ := h
  refine wpAny_While (codeAny_whileLoop (fun n s' => ∃ σ' H', Inv X pins σ' H' s' ∧ W n σ' H') ?_ m0 ⟨σ, H, I, w0⟩)
  rintro n s1 ⟨σ1, H1, I1, w1⟩
  refine wpAny_passesOwn hp (thn (hc pins s1 σ1 H1 _ I1 (turn n σ1 H1 w1)) fun b s2 ⟨H2, I2, q2⟩ => ?_)
  cases b with
  | true =>
    obtain ⟨N, hN, q2⟩ := q2
    rw [if_pos rfl]
    refine wpAny_passesOwn hp (thn (hb pins s2 σ1 H2 _ I2 q2) fun f s3 q3 => ?_)
    cases f with
    | next =>
      obtain ⟨σ3, H3, I3, n3⟩ := q3
      obtain ⟨m', hm, w3⟩ := hN σ3 H3 n3
      exact ⟨m', hm, σ3, H3, I3, w3⟩
    | cont =>
      obtain ⟨σ3, H3, I3, n3⟩ := q3
      obtain ⟨m', hm, w3⟩ := hN σ3 H3 n3
      exact ⟨m', hm, σ3, H3, I3, w3⟩
    | brk => exact q3
    | ret v => exact q3
  | false =>
    rw [if_neg Bool.false_ne_true]
    exact wpAny_execs_nil ⟨σ1, H2, I2, q2⟩
end
structure It where
 go : Nat → Hp → Prop
 yld : Nat → Hp → V → Hp → Prop
 stop : Nat → Hp → Prop
def gn (X : Cx) (pins : List (Addr × Obj)) (H : Hp) (b : Addr) : Prop :=
 H b = none ∧ b ≠ X.env.locals ∧ b ∉ X.fs ∧ (b ∈ X.ex ∨ X.s₀.heap.objs.size ≤ b) ∧ (∀ x c, X.env.cells.lookup x = some c → c ≠ b) ∧ ∀ p ∈ X.pn ++ pins, p.1 ≠ b
theorem Inv.fpOk {X : Cx} {pins : List (Addr × Obj)} {σ : St} {H H' : Hp} {s : Shared} {b : Addr} (I : Inv X pins σ H s) (hb : s.heap.objs.size ≤ b) (hn : H' b = none) : gn X pins H' b := by
 refine ⟨hn, Nat.ne_of_gt (Nat.lt_of_lt_of_le I.lt hb), I.nofs hb, .inr (Nat.le_trans I.sz hb), fun x c e z => ?_, fun p hp z => ?_⟩
 · obtain ⟨v, q⟩ := I.cell x c e
   exact absurd (Nat.lt_of_lt_of_le q.lt (by rw [z]; exact hb)) (Nat.lt_irrefl _)
 · exact absurd (Nat.lt_of_lt_of_le (Heap.lt_size (I.pin p hp).1) (by rw [z]; exact hb)) (Nat.lt_irrefl _)
structure fx (P : Program) (w : World) (K : W.Frag) (tg : Expr) (J : It) (fp : List Addr) (it : Addr) (tn : Nat → Heap → Prop) : Prop where
 mem : it ∈ fp
 obj : ∀ i h, tn i h → ∀ b ∈ fp, ∃ o, h.get? b = some o ∧ ∀ v, o.data ≠ .cell v
 keep : ∀ i h h', tn i h → (∀ b ∈ fp, ∀ o, h.get? b = some o → h'.get? b = some o) → tn i h'
 item : ∀ (X : Cx), X.prog = P → X.w = w → X.K = K → X.calm = true → ∀ (i : Nat) (pins : List (Addr × Obj)) (s : Shared) (σ : St) (H : Hp) (E : Value → Shared → Prop), Inv X pins σ H s → (∀ b ∈ fp, gn X pins H b) → tn i s.heap → J.go i H →
  wpAny (model P w) X.A (pyNext (.ref it)) (fun r s1 => ∃ u, r = some u ∧
   wpAny (model P w) X.A (letOwnedTupleGo tg (.ref it) u) (fun _ s2 => ∃ x H', Inv X pins σ H' s2 ∧ aC x u ∧ J.yld i H x H' ∧ tn (i + 1) s2.heap ∧ ∀ b ∈ fp, H' b = none) E s1) E s
 done : ∀ (X : Cx), X.prog = P → X.w = w → X.K = K → X.calm = true → ∀ (i : Nat) (pins : List (Addr × Obj)) (s : Shared) (σ : St) (H : Hp) (E : Value → Shared → Prop), Inv X pins σ H s → (∀ b ∈ fp, gn X pins H b) → tn i s.heap → J.stop i H →
  wpAny (model P w) X.A (pyNext (.ref it)) (fun r s1 => r = none ∧ Inv X pins σ H s1) E s
 self : ∀ (A : Around) (i : Nat) (s : Shared) (Q : Value → Shared → Prop) (E : Value → Shared → Prop), tn i s.heap → Q (.ref it) s → wpAny (model P w) A (pyIter (.ref it)) Q E s
abbrev TI := St → Hp → (It → Hp → Prop) → Prop
def PIE (X : Cx) (pins : List (Addr × Obj)) (σ : St) (tg : Expr) (R : It → Hp → Prop) (itv : Value) (s2 : Shared) : Prop :=
 ∃ (it : Addr) (fp : List Addr) (tn : Nat → Heap → Prop) (J : It) (H' : Hp), itv = .ref it ∧ Inv X pins σ H' s2 ∧ fx X.prog X.w X.K tg J fp it tn ∧ tn 0 s2.heap ∧ (∀ b ∈ fp, gn X pins H' b) ∧ R J H'
def PI (X : Cx) (tg iter : Expr) (wi : TI) : Prop :=
 ∀ (pins : List (Addr × Obj)) (s : Shared) (σ : St) (H : Hp) (R : It → Hp → Prop), Inv X pins σ H s → wi σ H R →
  wpAny (model X.prog X.w) X.A (eval iter X.env) (fun v s1 => wpAny (model X.prog X.w) X.A (pyIter v) (PIE X pins σ tg R) X.xe s1) X.xe s
theorem gs {M : Model} {A : Around} {E : Value → Shared → Prop} {s : Shared} {tg : Expr} {it : Addr} {u : Value} {o : Obj} {n : String} {vs : Array Value} {Q : Unit → Shared → Prop} (ho : s.heap.get? it = some o) (hc : o.cls = .type n) (hd : o.data = .fields vs)
    (hn : ["enumerate", "zip", "dict_itemiterator", "dict_reverseitemiterator", "odict_iterator", "itertools.zip_longest", "itertools.pairwise"].contains n = false) (hQ : Q () s) : wpAny M A (letOwnedTupleGo tg (.ref it) u) Q E s := by
  unfold letOwnedTupleGo
  cases tg <;> first
    | exact wpAny_pure hQ
    | (cases u <;> first
        | exact wpAny_pure hQ
        | (refine wpAny_bind (wpAny_load ho ?_)
           rw [hc, hd]
           show wpAny M A (if (["enumerate", "zip", "dict_itemiterator", "dict_reverseitemiterator", "odict_iterator", "itertools.zip_longest", "itertools.pairwise"].contains n && vs[0]? == some (rawInt _)) = true then _ else _) Q E s
           rw [if_neg (by intro h; rw [hn, Bool.false_and] at h; cases h)]
           exact wpAny_pure hQ))
def Itl (K : W.Frag) (a : Addr) : It :=
 ⟨fun i H => ∃ xs x, SqL K H a xs ∧ xs[i]? = some x, fun i H x H' => H' = H ∧ ∀ xs, SqL K H a xs → xs[i]? = some x, fun i H => ∃ xs, SqL K H a xs ∧ xs.length ≤ i⟩
def Itt (K : W.Frag) (a : Addr) : It :=
 ⟨fun i H => ∃ xs x, SqT K H a xs ∧ xs[i]? = some x, fun i H x H' => H' = H ∧ ∀ xs, SqT K H a xs → xs[i]? = some x, fun i H => ∃ xs, SqT K H a xs ∧ xs.length ≤ i⟩
def Itr (lo : Int) (n : Nat) : It := ⟨fun i _ => i < n, fun i H x H' => H' = H ∧ x = .int (lo + i), fun i _ => n ≤ i⟩
theorem qE {P : Program} {w : World} {K : W.Frag} {tg : Expr} (a it : Addr) : fx P w K tg (Itl K a) [it] it (fun i h => h.IsListIter it a i) where
 mem := by simp
 obj := fun i h st b hb => by
  have e : b = it := by simpa using hb
  subst e
  obtain ⟨o, e, c, d⟩ := st
  exact ⟨o, e, fun v z => by rw [d] at z; cases z⟩
 keep := fun i h h' st k => st.at fun o e => k it (by simp) o e
 item := by
  intro X hP hw hK hc i pins s σ H E I hf st hg
  subst hP hw hK
  obtain ⟨xs, x, hq, hx⟩ := hg
  obtain ⟨its, rv, p, hz⟩ := I.list hq
  obtain ⟨u, hu, ru⟩ := rv.get hx
  obtain ⟨f0, f1, f2, f3, f4, f5⟩ := hf it (by simp)
  refine wpAny_pyNext_list_item st p.isList (x := u) (by simpa using hu) fun h' st' sb => ?_
  have I1 : Inv X pins σ H { s with heap := h' } := I.turned (t' := s.toks) (fun b o hb e => (sb.2 b hb).trans e) f0 f1 f3 f4 f5
  obtain ⟨o, e, c, d⟩ := id st'
  exact ⟨u, rfl, gs (s := { s with heap := h' }) e c d (by decide) ⟨x, H, I1, ru, ⟨rfl, fun ys hy => by rw [I.list_inj hy hq]; exact hx⟩, st', fun b hb => (hf b hb).1⟩⟩
 done := by
  intro X hP hw hK hc i pins s σ H E I hf st hg
  subst hP hw hK
  obtain ⟨xs, hq, hx⟩ := hg
  obtain ⟨its, rv, p, hz⟩ := I.list hq
  obtain ⟨f0, f1, f2, f3, f4, f5⟩ := hf it (by simp)
  have hl := rv.length
  exact wpAny_pyNext_list_end (I.ok.hd hc) st p.isList (by simp; omega) fun h' eb => ⟨rfl, I.turned (t' := s.toks) (fun b o hb e => eb b o hb e) f0 f1 f3 f4 f5⟩
 self := fun _ _ _ _ _ st h => wpAny_pyIter_listiter st h
theorem ot {P : Program} {w : World} {K : W.Frag} {tg : Expr} (a it : Addr) : fx P w K tg (Itt K a) [it] it (fun i h => h.IsTupleIter it a i) where
 mem := by simp
 obj := fun i h st b hb => by
  have e : b = it := by simpa using hb
  subst e
  obtain ⟨o, e, c, d⟩ := st
  exact ⟨o, e, fun v z => by rw [d] at z; cases z⟩
 keep := fun i h h' st k => st.at fun o e => k it (by simp) o e
 item := by
  intro X hP hw hK hc i pins s σ H E I hf st hg
  subst hP hw hK
  obtain ⟨xs, x, hq, hx⟩ := hg
  obtain ⟨its, rv, p, hz⟩ := I.tuple hq
  obtain ⟨u, hu, ru⟩ := rv.get hx
  obtain ⟨f0, f1, f2, f3, f4, f5⟩ := hf it (by simp)
  refine wpAny_pyNext_tuple_item st (show s.heap.IsTuple a its.toArray from p) (x := u) (by simpa using hu) fun h' st' sb => ?_
  have I1 : Inv X pins σ H { s with heap := h' } := I.turned (t' := s.toks) (fun b o hb e => (sb.2 b hb).trans e) f0 f1 f3 f4 f5
  obtain ⟨o, e, c, d⟩ := id st'
  exact ⟨u, rfl, gs (s := { s with heap := h' }) e c d (by decide) ⟨x, H, I1, ru, ⟨rfl, fun ys hy => by rw [I.tuple_inj hy hq]; exact hx⟩, st', fun b hb => (hf b hb).1⟩⟩
 done := by
  intro X hP hw hK hc i pins s σ H E I hf st hg
  subst hP hw hK
  obtain ⟨xs, hq, hx⟩ := hg
  obtain ⟨its, rv, p, hz⟩ := I.tuple hq
  obtain ⟨f0, f1, f2, f3, f4, f5⟩ := hf it (by simp)
  have hl := rv.length
  exact wpAny_pyNext_tuple_end (I.ok.hd hc) st (show s.heap.IsTuple a its.toArray from p) (by simp; omega) fun h' eb => ⟨rfl, I.turned (t' := s.toks) (fun b o hb e => eb b o hb e) f0 f1 f3 f4 f5⟩
 self := fun _ _ _ _ _ st h => wpAny_pyIter_tupleiter st h
theorem oV {P : Program} {w : World} {K : W.Frag} {tg : Expr} (it : Addr) (lo : Int) (n : Nat) : fx P w K tg (Itr lo n) [it] it (fun i h => IsRangeIter h it (lo + (i : Nat) * 1) ((n : Int) - (i : Nat)) 1) where
 mem := by simp
 obj := fun i h st b hb => by
  have e : b = it := by simpa using hb
  subst e
  exact ⟨_, st, fun v z => by
   have z' : Data.fields _ = Data.cell v := z
   cases z'⟩
 keep := fun i h h' st k => k it (by simp) _ st
 item := by
  intro X hP hw hK hc i pins s σ H E I hf st hg
  subst hP hw hK
  obtain ⟨f0, f1, f2, f3, f4, f5⟩ := hf it (by simp)
  have W := Walks.range (prog := X.prog) (w := X.w) (I.ok.hd hc) it lo 1 n
  refine W.item i s _ _ hg st fun v h' tk hv st' kk => ?_
  obtain ⟨t, rfl⟩ := hv
  have I1 : Inv X pins σ H { s with heap := h', toks := tk } := I.turned (fun b o hb e => kk b o (by simpa using hb) e) f0 f1 f3 f4 f5
  refine ⟨_, rfl, gs (s := { s with heap := h', toks := tk }) (n := "range_iterator") st' rfl rfl (by decide) ⟨.int (lo + i), H, I1, ⟨t, ?_⟩, ⟨rfl, rfl⟩, st', fun b hb => (hf b hb).1⟩⟩
  rw [Int.mul_one]
 done := by
  intro X hP hw hK hc i pins s σ H E I hf st hg
  subst hP hw hK
  obtain ⟨f0, f1, f2, f3, f4, f5⟩ := hf it (by simp)
  exact wpAny_pyNext_range_end (I.ok.hd hc) st (by have : n ≤ i := hg; omega) fun h' eb => ⟨rfl, I.turned (t' := s.toks) (fun b o hb e => eb b o hb e) f0 f1 f3 f4 f5⟩
 self := fun _ _ _ _ _ st h => wpAny_pyIter_rangeiter st h
end L2
namespace L2
open PySem PySem.Spec PyProof.Rows
section
variable {X : Cx} {tg : Expr}
theorem rR {pins : List (Addr × Obj)} {σ : St} {H : Hp} {s : Shared} {R : It → Hp → Prop} {E : Value → Shared → Prop} {lo hi : Int} {t u v : Tok} {tk : Nat} (I : Inv X pins σ H s) (h1 : -(2 ^ 62) ≤ lo) (h2 : lo < 2 ^ 62) (h3 : -(2 ^ 62) ≤ hi) (h4 : hi < 2 ^ 62)
   (q : R (Itr lo (hi - lo).toNat) H) : wpAny (model X.prog X.w) X.A (pyIter (.ref s.heap.objs.size)) (PIE X pins σ tg R) E { s with heap := s.heap.push { cls := .type "range", data := .fields #[.int lo t, .int hi u, .int 1 v] }, toks := tk } := by
 refine wpAny_pyIter_range (IsRange.new ..) (small_one h1 h2 h3 h4) ?_
 have I1 : Inv X pins σ H { s with heap := s.heap.push { cls := .type "range", data := .fields #[.int lo t, .int hi u, .int 1 v] }, toks := tk } := I.kept fun b o e => Heap.get?_push_of_some _ e
 refine ⟨(s.heap.push { cls := .type "range", data := .fields #[.int lo t, .int hi u, .int 1 v] }).objs.size, [(s.heap.push { cls := .type "range", data := .fields #[.int lo t, .int hi u, .int 1 v] }).objs.size], _, _, H, rfl,
   I1.kept (t' := tk) fun b o e => Heap.get?_push_of_some _ e, oV _ lo (hi - lo).toNat, ?_, fun b hb => ?_, q⟩
 · have e1 : lo + ((0 : Nat) : Int) * 1 = lo := by simp
   have e2 : (((hi - lo).toNat : Nat) : Int) - ((0 : Nat) : Int) = Builtin.Range.rangeSize lo hi 1 := by rw [rangeSize_one]; split <;> omega
   show IsRangeIter _ _ (lo + ((0 : Nat) : Int) * 1) ((((hi - lo).toNat : Nat) : Int) - ((0 : Nat) : Int)) 1
   rw [e1, e2]
   exact Heap.get?_push_size _ rfl
 · have e : b = (s.heap.push { cls := .type "range", data := .fields #[.int lo t, .int hi u, .int 1 v] }).objs.size := by simpa using hb
   subst e
   exact I1.fpOk (Nat.le_refl _) (I1.hok.fresh (Nat.le_refl _))
def lh (ta : TA) : TI := fun σ H R => ta σ H fun vs H1 => ∃ j : Int, vs = [.int j] ∧ -(2 ^ 62) ≤ j ∧ j < 2 ^ 62 ∧ R (Itr 0 j.toNat) H1
theorem pU {a : Expr} {ta : TA} {p pos : Pos} (hg : Gl X "range") (hm : X.mg "range" = none) (ha : PA X [a] ta) (hs : starEach [a] X.env = [(false, eval a X.env)] := by rfl) : PI X tg (.Call (.Name "range" p) [a] [] pos) (lh ta) := by
  intro pins s σ H R I h
  refine Call_ (dg I hg hm boot_range (PyProof.Rows.callWith_type1 (thn (ha pos pins s σ H _ I h) fun us s1 ⟨vs, H1, I1, r1, q1⟩ => ?_) hs rfl))
  obtain ⟨j, e, q1, q2, q⟩ := q1
  subst e
  cases r1 with
  | cons r rr =>
    cases rr
    obtain ⟨t, rfl⟩ := r
    exact call_range_1 (rR I1 (by omega) (by omega) q1 q2 (by simpa using q))
def dG (wi : TI) (g : TG) (tb : TS) : TS := fun D σ H => wi σ H fun J H1 => ∃ W : Nat → Nat → St → Hp → Prop, (∃ m, W 0 m σ H1) ∧ ∀ i m σ H, W i m σ H →
 (J.stop i H ∧ D.nx σ H) ∨ (J.go i H ∧ ∃ N : St → Hp → Prop, (∀ σ' H', N σ' H' → ∃ m', m' < m ∧ W (i + 1) m' σ' H') ∧ ∀ x H', J.yld i H x H' → g x σ H' fun σ2 H2 => tb { D with nx := N, ct := N, bk := D.nx } σ2 H2)
def gM (fp : List Addr) (h : Heap) : List (Addr × Obj) := fp.filterMap fun b => (h.get? b).map fun o => (b, o)
theorem eP {fp : List Addr} {h : Heap} {b : Addr} {o : Obj} (hb : b ∈ fp) (e : h.get? b = some o) : (b, o) ∈ gM fp h := List.mem_filterMap.mpr ⟨b, hb, by rw [e]; rfl⟩
theorem qb {fp : List Addr} {h : Heap} {p : Addr × Obj} (hp : p ∈ gM fp h) : p.1 ∈ fp ∧ h.get? p.1 = some p.2 := by
  obtain ⟨b, hb, e⟩ := List.mem_filterMap.mp hp
  cases q : h.get? b with
  | none => rw [q] at e; cases e
  | some o =>
    rw [q] at e
    have e' : (b, o) = p := Option.some.inj e
    subst e'
    exact ⟨hb, q⟩
theorem Inv.pinned {pins : List (Addr × Obj)} {σ : St} {H : Hp} {s : Shared} {fp : List Addr} (I : Inv X pins σ H s) (hf : ∀ b ∈ fp, gn X pins H b) (ho : ∀ b ∈ fp, ∃ o, s.heap.get? b = some o ∧ ∀ v, o.data ≠ .cell v) : Inv X (pins ++ gM fp s.heap) σ H s :=
 I.pins_of fun p hp => (List.mem_append.mp hp).elim (fun z => I.pin p (List.mem_append_right _ z)) fun z => by
  obtain ⟨hb, e⟩ := qb z
  obtain ⟨f0, f1, f2, _⟩ := hf p.1 hb
  obtain ⟨o, e', d⟩ := ho p.1 hb
  rw [e] at e'; cases e'
  exact ⟨e, f0, f1, f2, d⟩
theorem Inv.unpinned {pins pl : List (Addr × Obj)} {σ : St} {H : Hp} {s : Shared} (I : Inv X (pins ++ pl) σ H s) : Inv X pins σ H s := I.pins_of fun p hp => I.pin p (List.mem_append_right _ (List.mem_append_left _ hp))
theorem qN {iter : Expr} {body : List Stmt} {wi : TI} {g : TG} {tb : TS} {pos : Pos} (hp : PassesOwn (model X.prog X.w) X.A X.env X.xe) (hc : X.calm = true) (hi : PI X tg iter wi) (hg : PG X tg g) (hb : PSs X body tb)
   (hs : ∀ x, foldedSetIterable iter X.env x = pure x := by intro _; rfl) : PS X (.For tg iter body [] pos) (dG wi g tb) := by
 intro pins s σ H D I h
 refine wpAny_For (thn (hi pins s σ H _ I h) fun v s1 h1 => thn h1 fun itv s2 h2 => ?_) hs
 obtain ⟨it, fp, tn, J, H2, e, I2, T, st2, f2, W, ⟨m0, w0⟩, turn⟩ := h2
 subst e
 have stat : ∀ {H' : Hp}, (∀ b ∈ fp, H' b = none) → ∀ b ∈ fp, gn X pins H' b := fun hn b hb => ⟨hn b hb, (f2 b hb).2⟩
 refine codeAny_forLoop_any (fun n s' => ∃ i σ' H', Inv X pins σ' H' s' ∧ tn i s'.heap ∧ (∀ b ∈ fp, H' b = none) ∧ W i n σ' H') ?_ m0 ⟨0, σ, H2, I2, st2, fun b hb => (f2 b hb).1, w0⟩
 rintro n s3 ⟨i, σ3, H3, I3, st3, fr3, w3⟩
 rcases turn i n σ3 H3 w3 with ⟨stop, qn⟩ | ⟨go, N, hN, step⟩
 · refine wpAny_passesOwn hp (thn (T.done X rfl rfl rfl hc i pins s3 σ3 H3 X.xe I3 (stat fr3) st3 stop) fun r s4 ⟨hr, I4⟩ => ?_)
   subst hr
   exact wpAny_execs_nil ⟨σ3, H3, I4, qn⟩
 · refine wpAny_passesOwn hp (thn (T.item X rfl rfl rfl hc i pins s3 σ3 H3 X.xe I3 (stat fr3) st3 go) fun r s4 ⟨u, hr, h4⟩ => ?_)
   subst hr
   refine wpAny_passesOwn hp (thn h4 fun _ s5 ⟨x, H5, I5, r5, y5, st5, fr5⟩ => ?_)
   have I5' := I5.pinned (stat fr5) (T.obj _ _ st5)
   refine wpAny_passesOwn hp (thn (hg _ s5 σ3 H5 x u _ I5' r5 (step x H5 y5)) fun _ s6 ⟨σ6, H6, I6, q6⟩ => ?_)
   refine wpAny_passesOwn hp (thn (hb _ s6 σ6 H6 _ I6 q6) fun f s7 q7 => ?_)
   have again : ∀ {σ7 : St} {H7 : Hp}, Inv X (pins ++ gM fp s5.heap) σ7 H7 s7 → N σ7 H7 → ∃ m, m < n ∧ ∃ i σ' H', Inv X pins σ' H' s7 ∧ tn i s7.heap ∧ (∀ b ∈ fp, H' b = none) ∧ W i m σ' H' := fun {σ7 H7} I7 n7 => by
    obtain ⟨m', hm, w7⟩ := hN σ7 H7 n7
    refine ⟨m', hm, i + 1, σ7, H7, I7.unpinned, T.keep _ _ _ st5 fun b hb o e => (I7.pin (b, o) (List.mem_append_right _ (List.mem_append_right _ (eP hb e)))).1, fun b hb => ?_, w7⟩
    obtain ⟨o, e, d⟩ := T.obj _ _ st5 b hb
    exact (I7.pin (b, o) (List.mem_append_right _ (List.mem_append_right _ (eP hb e)))).2.1
   cases f with
   | next => obtain ⟨σ7, H7, I7, n7⟩ := q7; exact again I7 n7
   | cont => obtain ⟨σ7, H7, I7, n7⟩ := q7; exact again I7 n7
   | brk => obtain ⟨σ7, H7, I7, q7⟩ := q7; exact ⟨σ7, H7, I7.unpinned, q7⟩
   | ret v => obtain ⟨x7, σ7, H7, I7, r7, q7⟩ := q7; exact ⟨x7, σ7, H7, I7.unpinned, r7, q7⟩
end
theorem iK {K : W.Frag} {a : Addr} {xs : List V} {g : TG} {tb : TS} {D : fc} {σ : St} {H : Hp} (Pv : Nat → St → Hp → Prop) (h0 : Pv 0 σ H) (hl : ∀ i σ H, i ≤ xs.length → Pv i σ H → SqL K H a xs)
   (hs : ∀ i x σ H, xs[i]? = some x → Pv i σ H → g x σ H fun σ2 H2 => tb { D with nx := Pv (i + 1), ct := Pv (i + 1), bk := D.nx } σ2 H2) (hd : ∀ σ H, Pv xs.length σ H → D.nx σ H) :
   ∃ W : Nat → Nat → St → Hp → Prop, (∃ m, W 0 m σ H) ∧ ∀ i m σ H, W i m σ H →
    ((Itl K a).stop i H ∧ D.nx σ H) ∨ ((Itl K a).go i H ∧ ∃ N : St → Hp → Prop, (∀ σ' H', N σ' H' → ∃ m', m' < m ∧ W (i + 1) m' σ' H') ∧ ∀ x H', (Itl K a).yld i H x H' → g x σ H' fun σ2 H2 => tb { D with nx := N, ct := N, bk := D.nx } σ2 H2) := by
 refine ⟨fun i m σ H => m = xs.length - i ∧ i ≤ xs.length ∧ Pv i σ H, ⟨xs.length, by simp, Nat.zero_le _, h0⟩, ?_⟩
 rintro i m σ H ⟨rfl, hi, p⟩
 have q := hl i σ H hi p
 by_cases hlt : i < xs.length
 · refine .inr ⟨⟨xs, xs[i], q, by simp [hlt]⟩, Pv (i + 1), fun σ' H' p' => ⟨xs.length - (i + 1), by omega, rfl, hlt, p'⟩, fun x H' y => ?_⟩
   obtain ⟨e, y⟩ := y
   subst e
   exact hs i x σ _ (y xs q) p
 · have e : i = xs.length := by omega
   subst e
   exact .inl ⟨⟨xs, q, Nat.le_refl _⟩, hd σ H p⟩
theorem vB {K : W.Frag} {a : Addr} {xs : List V} {g : TG} {tb : TS} {D : fc} {σ : St} {H : Hp} (Pv : Nat → St → Hp → Prop) (h0 : Pv 0 σ H) (hl : ∀ i σ H, i ≤ xs.length → Pv i σ H → SqT K H a xs)
   (hs : ∀ i x σ H, xs[i]? = some x → Pv i σ H → g x σ H fun σ2 H2 => tb { D with nx := Pv (i + 1), ct := Pv (i + 1), bk := D.nx } σ2 H2) (hd : ∀ σ H, Pv xs.length σ H → D.nx σ H) :
   ∃ W : Nat → Nat → St → Hp → Prop, (∃ m, W 0 m σ H) ∧ ∀ i m σ H, W i m σ H →
    ((Itt K a).stop i H ∧ D.nx σ H) ∨ ((Itt K a).go i H ∧ ∃ N : St → Hp → Prop, (∀ σ' H', N σ' H' → ∃ m', m' < m ∧ W (i + 1) m' σ' H') ∧ ∀ x H', (Itt K a).yld i H x H' → g x σ H' fun σ2 H2 => tb { D with nx := N, ct := N, bk := D.nx } σ2 H2) := by
 refine ⟨fun i m σ H => m = xs.length - i ∧ i ≤ xs.length ∧ Pv i σ H, ⟨xs.length, by simp, Nat.zero_le _, h0⟩, ?_⟩
 rintro i m σ H ⟨rfl, hi, p⟩
 have q := hl i σ H hi p
 by_cases hlt : i < xs.length
 · refine .inr ⟨⟨xs, xs[i], q, by simp [hlt]⟩, Pv (i + 1), fun σ' H' p' => ⟨xs.length - (i + 1), by omega, rfl, hlt, p'⟩, fun x H' y => ?_⟩
   obtain ⟨e, y⟩ := y
   subst e
   exact hs i x σ _ (y xs q) p
 · have e : i = xs.length := by omega
   subst e
   exact .inl ⟨⟨xs, q, Nat.le_refl _⟩, hd σ H p⟩
end L2
namespace L2
open PySem PySem.Spec PyProof.Rows
abbrev R2 := V → V → Hp → VK → Prop
def OpR (X : Cx) (f : Value → Value → Sem Value) (r : R2) : Prop :=
 ∀ (pins : List (Addr × Obj)) (s : Shared) (σ : St) (H : Hp) (x y : V) (v u : Value) (Q : VK), Inv X pins σ H s → aC x v → aC y u → r x y H Q →
  wpAny (model X.prog X.w) X.A (f v u) (EP X pins σ Q) X.xe s
def UnR (X : Cx) (f : Value → Sem Value) (r : V → Hp → VK → Prop) : Prop :=
 ∀ (pins : List (Addr × Obj)) (s : Shared) (σ : St) (H : Hp) (x : V) (v : Value) (Q : VK), Inv X pins σ H s → aC x v → r x H Q →
  wpAny (model X.prog X.w) X.A (f v) (EP X pins σ Q) X.xe s
def bB (X : Cx) (f : Value) (r : List V → Hp → VK → Prop) : Prop :=
 ∀ (pins : List (Addr × Obj)) (s : Shared) (σ : St) (H : Hp) (xs : List V) (us : List Value) (Q : VK), Inv X pins σ H s → ax xs us → r xs H Q →
  wpAny (model X.prog X.w) X.A (call f us) (EP X pins σ Q) X.xe s
def Be (X : Cx) (r : V → Hp → (Bool → Hp → Prop) → Prop) : Prop :=
 ∀ (pins : List (Addr × Obj)) (s : Shared) (σ : St) (H : Hp) (x : V) (v : Value) (Q : Bool → Hp → Prop), Inv X pins σ H s → aC x v → r x H Q →
  wpAny (model X.prog X.w) X.A (truthy v) (TP X pins σ Q) X.xe s
def tOp (r : R2) (ta tb : TE) : TE := fun σ H Q => ta σ H fun x H1 => tb σ H1 fun y H2 => r x y H2 Q
def tUn (r : V → Hp → VK → Prop) (ta : TE) : TE := fun σ H Q => ta σ H fun x H1 => r x H1 Q
def rI (C : Int → Int → Prop) (g : Int → Int → V) : R2 := fun x y H Q => ∃ i j, x = .int i ∧ y = .int j ∧ C i j ∧ Q (g i j) H
def rI0 (g : Int → Int → V) : R2 := fun x y H Q => ∃ i j, x = .int i ∧ y = .int j ∧ Q (g i j) H
def rU (g : Int → V) : V → Hp → VK → Prop := fun x H Q => ∃ i, x = .int i ∧ Q (g i) H
section
variable {X : Cx} {a b c : Expr} {ta tb tc : TE} {pos : Pos}
theorem sC (ha : PE X a ta) (hb : PE X b tb) {pins : List (Addr × Obj)} {s : Shared} {σ : St} {H : Hp} {R : V → V → Hp → Prop} (I : Inv X pins σ H s)
  (h : ta σ H fun x H1 => tb σ H1 fun y H2 => R x y H2) {Q : Value → Shared → Prop} {f : Value → Value → Sem Value}
  (hf : ∀ v u s2 x y H2, Inv X pins σ H2 s2 → aC x v → aC y u → R x y H2 → wpAny (model X.prog X.w) X.A (f v u) Q X.xe s2) :
  wpAny (model X.prog X.w) X.A (eval a X.env) (fun v s₁ => wpAny (model X.prog X.w) X.A (eval b X.env) (fun u s₂ => wpAny (model X.prog X.w) X.A (f v u) Q X.xe s₂) X.xe s₁) X.xe s := by
 refine thn (ha pins s σ H _ I h) fun v s1 ⟨x, H1, I1, r1, q1⟩ => ?_
 refine thn (hb pins s1 σ H1 _ I1 q1) fun u s2 ⟨y, H2, I2, r2, q2⟩ => ?_
 exact hf v u s2 x y H2 I2 r1 r2 q2
theorem yY {op : Operator} {r : R2} (ho : OpR X (binaryOp op) r) (ha : PE X a ta) (hb : PE X b tb) : PE X (.BinOp a op b pos) (tOp r ta tb) := by
 intro pins s σ H Q I h
 exact wpAny_BinOp (sC ha hb I h fun v u s2 x y H2 I2 rx ry q => ho pins s2 σ H2 x y v u Q I2 rx ry q)
theorem zD {op : UnaryOp} {r : V → Hp → VK → Prop} (ho : UnR X (unaryOp op) r) (ha : PE X a ta) : PE X (.UnaryOp op a pos) (tUn r ta) := by
 intro pins s σ H Q I h
 exact UnaryOp_ (thn (ha pins s σ H _ I h) fun v s1 ⟨x, H1, I1, r1, q1⟩ => ho pins s1 σ H1 x v Q I1 r1 q1)
theorem opI {f : Value → Value → Sem Value} {C : Int → Int → Prop} {g : Int → Int → Int}
  (rule : ∀ (i j : Int) (t u : Tok) (s : Shared) (Q : Value → Shared → Prop) (E : Value → Shared → Prop), C i j → Q (.int (g i j) s.toks) { s with toks := s.toks + 1 } → wpAny (model X.prog X.w) X.A (f (.int i t) (.int j u)) Q E s) :
  OpR X f (rI C fun i j => .int (g i j)) := by
 intro pins s σ H x y v u Q I rx ry h
 obtain ⟨i, j, rfl, rfl, hc, q⟩ := h
 obtain ⟨t, rfl⟩ := rx
 obtain ⟨t', rfl⟩ := ry
 exact rule i j t t' s _ _ hc ⟨.int (g i j), H, I.tok _, ⟨_, rfl⟩, q⟩
theorem wc {f : Value → Value → Sem Value} {g : Int → Int → Int}
  (rule : ∀ (i j : Int) (t u : Tok) (s : Shared) (Q : Value → Shared → Prop) (E : Value → Shared → Prop), Q (.int (g i j) s.toks) { s with toks := s.toks + 1 } → wpAny (model X.prog X.w) X.A (f (.int i t) (.int j u)) Q E s) :
  OpR X f (rI0 fun i j => .int (g i j)) := by
 intro pins s σ H x y v u Q I rx ry h
 obtain ⟨i, j, rfl, rfl, q⟩ := h
 obtain ⟨t, rfl⟩ := rx
 obtain ⟨t', rfl⟩ := ry
 exact rule i j t t' s _ _ ⟨.int (g i j), H, I.tok _, ⟨_, rfl⟩, q⟩
theorem rL {f : Value → Value → Sem Value} {g : Int → Int → Bool}
  (rule : ∀ (i j : Int) (t u : Tok) (s : Shared) (Q : Value → Shared → Prop) (E : Value → Shared → Prop), Q (.bool (g i j)) s → wpAny (model X.prog X.w) X.A (f (.int i t) (.int j u)) Q E s) :
  OpR X f (rI0 fun i j => .bl (g i j)) := by
 intro pins s σ H x y v u Q I rx ry h
 obtain ⟨i, j, rfl, rfl, q⟩ := h
 obtain ⟨t, rfl⟩ := rx
 obtain ⟨t', rfl⟩ := ry
 exact rule i j t t' s _ _ ⟨.bl (g i j), H, I, rfl, q⟩
def wI (i j : Int) : Prop := 0 ≤ j ∧ j ≤ 1000000 ∧ i.natAbs < 2 ^ 64
theorem xU : OpR X (binaryOp .Add) (rI0 fun i j => .int (i + j)) := wc fun _ _ _ _ _ _ _ q => add_int q
theorem wj : OpR X (binaryOp .Sub) (rI0 fun i j => .int (i - j)) := wc fun _ _ _ _ _ _ _ q => sub_int q
theorem xM : OpR X (binaryOp .Mod) (rI (fun _ j => 0 < j) fun i j => .int (i % j)) := opI fun i j _ _ _ _ _ hc q => by
 have h1 : (0 : Int) < j := hc
 exact mod_int' (by omega) (by rw [Int.fmod_eq_emod_of_nonneg i (by omega)]; exact q)
theorem xB : OpR X (binaryOp .Pow) (rI wI fun i j => .int (i ^ j.toNat)) := opI fun _ _ _ _ _ _ _ hc q => pow_int_small hc.1 hc.2.1 hc.2.2 q
theorem vD : OpR X (binaryOp .LShift) (rI wI fun i j => .int (i * 2 ^ j.toNat)) := opI fun _ _ _ _ _ _ _ hc q => lshift_int_small hc.1 hc.2.1 hc.2.2 q
theorem unI {f : Value → Sem Value} {g : Int → Int}
  (rule : ∀ (i : Int) (t : Tok) (s : Shared) (Q : Value → Shared → Prop) (E : Value → Shared → Prop), Q (.int (g i) s.toks) { s with toks := s.toks + 1 } → wpAny (model X.prog X.w) X.A (f (.int i t)) Q E s) :
  UnR X f (rU fun i => .int (g i)) := by
 intro pins s σ H x v Q I rx h
 obtain ⟨i, rfl, q⟩ := h
 obtain ⟨t, rfl⟩ := rx
 exact rule i t s _ _ ⟨.int (g i), H, I.tok _, ⟨_, rfl⟩, q⟩
theorem xc : UnR X (unaryOp .USub) (rU fun i => .int (-i)) := unI fun _ _ _ _ _ q => neg_int q
end
def xC : V → V → Bool
 | .non, .non => true | .non, .int _ => true | .int _, .non => true | .non, .bl _ => true | .bl _, .non => true | .non, .str _ => true | .str _, .non => true
 | .int _, .int _ => true | .bl _, .bl _ => true | .str _, .str _ => true | .byt _, .byt _ => true
 | .int _, .str _ => true | .str _, .int _ => true | .bl _, .str _ => true | .str _, .bl _ => true
 | _, _ => false
def rEq : R2 := fun x y H Q => xC x y = true ∧ Q (.bl (decide (x = y))) H
def rNe : R2 := fun x y H Q => xC x y = true ∧ Q (.bl (!decide (x = y))) H
theorem nj {i j : Int} : decide (V.int i = V.int j) = (i == j) := by
 rw [Bool.eq_iff_iff]
 simp
theorem pK {i j : Bool} : decide (V.bl i = V.bl j) = (i == j) := by
 rw [Bool.eq_iff_iff]
 simp
theorem mO {i j : Str} : decide (V.str i = V.str j) = (i == j) := by
 rw [Bool.eq_iff_iff]
 simp
theorem mP {i j : Array UInt8} : decide (V.byt i = V.byt j) = (i.toList == j.toList) := by
 rw [Bool.eq_iff_iff]
 cases i
 cases j
 simp
section
variable {X : Cx} {a b c : Expr} {ta tb tc : TE} {pos : Pos}
theorem aT {pins : List (Addr × Obj)} {σ : St} {H : Hp} {s : Shared} {Q : VK} {k k' : Bool} (I : Inv X pins σ H s) (q : Q (.bl k) H) (e : k = k') : EP X pins σ Q (.bool k') s := by
 subst e
 exact ⟨.bl k, H, I, rfl, q⟩
theorem zy : OpR X (compareOp .Eq) rEq := by
  intro pins s σ H x y v u Q I rx ry h
  obtain ⟨hs, q⟩ := h
  cases x with
  | non =>
    cases rx
    cases y with
    | non => cases ry; exact PySem.EqNone.eq_none_none (aT I q (by simp))
    | bl j => cases ry; exact PySem.EqNone.eq_none_bool (aT I q (by simp))
    | int j => obtain ⟨t', rfl⟩ := ry; exact PySem.EqNone.eq_none_int (aT I q (by simp))
    | str j => obtain ⟨t', rfl⟩ := ry; exact PySem.EqNone.eq_none_str (aT I q (by simp))
    | _ => exact absurd (show false = true from hs) Bool.false_ne_true
  | bl i =>
    cases rx
    cases y with
    | non => cases ry; exact PySem.EqNone.eq_bool_none (aT I q (by simp))
    | bl j => cases ry; exact eq_bool (aT I q pK)
    | str j => obtain ⟨t', rfl⟩ := ry; exact PySem.EqMixed.eq_bool_str (aT I q (by simp))
    | _ => exact absurd (show false = true from hs) Bool.false_ne_true
  | int i =>
    obtain ⟨t, rfl⟩ := rx
    cases y with
    | non => cases ry; exact PySem.EqNone.eq_int_none (aT I q (by simp))
    | int j => obtain ⟨t', rfl⟩ := ry; exact eq_int (aT I q nj)
    | str j => obtain ⟨t', rfl⟩ := ry; exact PySem.EqMixed.eq_int_str (aT I q (by simp))
    | _ => exact absurd (show false = true from hs) Bool.false_ne_true
  | str i =>
    obtain ⟨t, rfl⟩ := rx
    cases y with
    | non => cases ry; exact PySem.EqNone.eq_str_none (aT I q (by simp))
    | bl j => cases ry; exact PySem.EqMixed.eq_str_bool (aT I q (by simp))
    | int j => obtain ⟨t', rfl⟩ := ry; exact PySem.EqMixed.eq_str_int (aT I q (by simp))
    | str j => obtain ⟨t', rfl⟩ := ry; exact eq_str (aT I q mO)
    | _ => exact absurd (show false = true from hs) Bool.false_ne_true
  | byt i =>
    obtain ⟨t, rfl⟩ := rx
    cases y with
    | byt j => obtain ⟨t', rfl⟩ := ry; exact W.eq_bytes (aT I q mP)
    | _ => exact absurd (show false = true from hs) Bool.false_ne_true
  | _ => cases y <;> exact absurd (show false = true from hs) Bool.false_ne_true
theorem zQ : OpR X (compareOp .NotEq) rNe := by
  intro pins s σ H x y v u Q I rx ry h
  obtain ⟨hs, q⟩ := h
  cases x with
  | non =>
    cases rx
    cases y with
    | non => cases ry; exact PySem.EqNone.ne_none_none (aT I q (by simp))
    | bl j => cases ry; exact PySem.EqNone.ne_none_bool (aT I q (by simp))
    | int j => obtain ⟨t', rfl⟩ := ry; exact PySem.EqNone.ne_none_int (aT I q (by simp))
    | str j => obtain ⟨t', rfl⟩ := ry; exact PySem.EqNone.ne_none_str (aT I q (by simp))
    | _ => exact absurd (show false = true from hs) Bool.false_ne_true
  | bl i =>
    cases rx
    cases y with
    | non => cases ry; exact PySem.EqNone.ne_bool_none (aT I q (by simp))
    | bl j => cases ry; exact ne_bool (aT I q (congrArg not pK))
    | str j => obtain ⟨t', rfl⟩ := ry; exact PySem.EqMixed.ne_bool_str (aT I q (by simp))
    | _ => exact absurd (show false = true from hs) Bool.false_ne_true
  | int i =>
    obtain ⟨t, rfl⟩ := rx
    cases y with
    | non => cases ry; exact PySem.EqNone.ne_int_none (aT I q (by simp))
    | int j => obtain ⟨t', rfl⟩ := ry; exact ne_int (aT I q (congrArg not nj))
    | str j => obtain ⟨t', rfl⟩ := ry; exact PySem.EqMixed.ne_int_str (aT I q (by simp))
    | _ => exact absurd (show false = true from hs) Bool.false_ne_true
  | str i =>
    obtain ⟨t, rfl⟩ := rx
    cases y with
    | non => cases ry; exact PySem.EqNone.ne_str_none (aT I q (by simp))
    | bl j => cases ry; exact PySem.EqMixed.ne_str_bool (aT I q (by simp))
    | int j => obtain ⟨t', rfl⟩ := ry; exact PySem.EqMixed.ne_str_int (aT I q (by simp))
    | str j => obtain ⟨t', rfl⟩ := ry; exact ne_str (aT I q (congrArg not mO))
    | _ => exact absurd (show false = true from hs) Bool.false_ne_true
  | byt i =>
    obtain ⟨t, rfl⟩ := rx
    cases y with
    | byt j => obtain ⟨t', rfl⟩ := ry; exact W.ne_bytes (aT I q (congrArg not mP))
    | _ => exact absurd (show false = true from hs) Bool.false_ne_true
  | _ => cases y <;> exact absurd (show false = true from hs) Bool.false_ne_true
theorem yO : OpR X (compareOp .Lt) (rI0 fun i j => .bl (decide (i < j))) := rL fun _ _ _ _ _ _ _ q => lt_int q
theorem yF : OpR X (compareOp .LtE) (rI0 fun i j => .bl (decide (i ≤ j))) := rL fun _ _ _ _ _ _ _ q => le_int q
theorem zA : OpR X (compareOp .Gt) (rI0 fun i j => .bl (decide (j < i))) := rL fun _ _ _ _ _ _ _ q => gt_int q
theorem OpR.or {f : Value → Value → Sem Value} {r r' : R2} (h : OpR X f r) (h' : OpR X f r') : OpR X f (fun x y H Q => r x y H Q ∨ r' x y H Q) := by
 intro pins s σ H x y v u Q I rx ry q
 rcases q with q | q
 · exact h pins s σ H x y v u Q I rx ry q
 · exact h' pins s σ H x y v u Q I rx ry q
theorem iZ (b : Expr) {op : CmpOp} (h : op ≠ .In := by decide) (h2 : op ≠ .NotIn := by decide) : behindInMarks op b = false := by
 have e1 : (op == CmpOp.In) = false := by cases op <;> first | rfl | exact absurd rfl h
 have e2 : (op == CmpOp.NotIn) = false := by cases op <;> first | rfl | exact absurd rfl h2
 cases b <;> simp [behindInMarks, e1, e2]
theorem uK {op : CmpOp} {r : R2} (ho : OpR X (compareOp op) r) (ha : PE X a ta) (hb : PE X b tb) (hm : behindInMarks op b = false) : PE X (.Compare a [op] [b] pos) (tOp r ta tb) := by
 intro pins s σ H Q I h
 exact wpAny_Compare1 (sC ha hb I h fun v u s2 x y H2 I2 rx ry q => ho pins s2 σ H2 x y v u Q I2 rx ry q) hm
def xi (K : W.Frag) (x : V) (H : Hp) (k : Bool) : Prop :=
 match x with
 | .non => k = false
 | .bl b => k = b
 | .int i => k = (i != 0)
 | .str y => y.length ≤ sizeLine ∧ k = ((y.length : Int) != 0)
 | .byt y => y.size ≤ sizeLine ∧ k = ((y.size : Int) != 0)
 | .ref p => (∃ xs, SqL K H p xs ∧ k = !xs.isEmpty) ∨ (∃ xs, SqT K H p xs ∧ k = !xs.isEmpty) ∨ ∃ kvs, H p = some (.dK kvs) ∧ k = !kvs.isEmpty
 | _ => False
theorem oC {κ : Type} {kvs : List (κ × V)} {vs : List (κ × Value)} (r : KV kvs vs) : (!vs.isEmpty) = !kvs.isEmpty := by
 cases r <;> rfl
theorem iN {xs : List V} {its : List Value} (r : ax xs its) : (!its.toArray.isEmpty) = !xs.isEmpty := by
 cases r <;> simp
theorem fY : (sizeLine : Nat) < 2 ^ 63 := by rw [sizeLine_eq]; decide
theorem wU : Be X (fun x H Q => ∃ k, xi X.K x H k ∧ Q k H) := by
  intro pins s σ H x v Q I rx h
  obtain ⟨k, e, q⟩ := h
  have hl := fY
  have hs : sizeLine = 16777216 := sizeLine_eq
  cases x with
  | non =>
    cases rx
    have e' : k = false := e
    subst e'
    exact truthy_none ⟨H, I, q⟩
  | bl b =>
    cases rx
    have e' : k = b := e
    subst e'
    exact wpAny_truthy_bool ⟨H, I, q⟩
  | int i =>
    obtain ⟨t, rfl⟩ := rx
    have e' : k = (i != 0) := e
    subst e'
    exact PySem.P.truthy_int ⟨H, I, q⟩
  | str y =>
    obtain ⟨t, rfl⟩ := rx
    obtain ⟨hy, e'⟩ : y.length ≤ sizeLine ∧ k = ((y.length : Int) != 0) := e
    subst e'
    exact PySem.P.truthy_str (by omega) ⟨H, I.tok _, q⟩
  | byt y =>
    obtain ⟨t, rfl⟩ := rx
    obtain ⟨hy, e'⟩ : y.size ≤ sizeLine ∧ k = ((y.size : Int) != 0) := e
    subst e'
    exact W.truthy_bytes (by omega) ⟨H, I.tok _, q⟩
  | ref p =>
    cases rx
    have e' : (∃ xs, SqL X.K H p xs ∧ k = !xs.isEmpty) ∨ (∃ xs, SqT X.K H p xs ∧ k = !xs.isEmpty) ∨ ∃ kvs, H p = some (.dK kvs) ∧ k = !kvs.isEmpty := e
    rcases e' with ⟨xs, hx, e'⟩ | ⟨xs, hx, e'⟩ | ⟨kvs, hx, e'⟩
    · subst e'
      obtain ⟨its, r, pl, hz⟩ := I.list hx
      have hlen := r.length
      exact wpAny_truthy_list pl.isList (by simp only [List.size_toArray]; omega) ⟨H, I.tok _, by rw [iN r]; exact q⟩
    · subst e'
      obtain ⟨its, r, pl, hz⟩ := I.tuple hx
      have hlen := r.length
      exact truthy_tuple pl (by simp only [List.size_toArray]; omega) ⟨H, I.tok _, by rw [iN r]; exact q⟩
    · subst e'
      obtain ⟨hz, hS, vs, r, m⟩ : kvs.length ≤ sizeLine ∧ (p == sysModules) = false ∧ ∃ vs, KV kvs vs ∧ s.heap.DictOf (bI X.prog X.w) p vs := I.hok p _ hx
      have hlen : kvs.length = vs.length := Paired.length r
      exact wpAny_truthy_dict hS m (by omega) ⟨H, I.tok _, by rw [oC r]; exact q⟩
  | _ => exact (show False from e).elim
theorem nA : OpR X (binaryOp .Add) (fun x y H Q => ∃ i j, x = .str i ∧ y = .str j ∧ i.length + j.length ≤ sizeLine ∧ Q (.str (i ++ j)) H) := by
 intro pins s σ H x y v u Q I rx ry h
 obtain ⟨i, j, rfl, rfl, hz, q⟩ := h
 obtain ⟨t, rfl⟩ := rx
 obtain ⟨t', rfl⟩ := ry
 exact add_str (fun t' tk => ⟨.str (i ++ j), H, I.tok _, ⟨_, rfl⟩, q⟩) hz
theorem fA {x : V} {us : List Value} (r : ax [x] us) : ∃ u, us = [u] ∧ aC x u := by
 cases r with
 | cons r1 r2 => cases r2; exact ⟨_, rfl, r1⟩
theorem jr {x y : V} {us : List Value} (r : ax [x, y] us) : ∃ u w', us = [u, w'] ∧ aC x u ∧ aC y w' := by
  cases r with
  | cons r1 r2 =>
    cases r2 with
    | cons r3 r4 => cases r4; exact ⟨_, _, rfl, r1, r3⟩
def BY (K : W.Frag) (x : V) (H : Hp) (n : Nat) : Prop :=
 match x with
 | .str y => y.length ≤ sizeLine ∧ n = y.length
 | .byt y => y.size ≤ sizeLine ∧ n = y.size
 | .ref p => (∃ xs, SqL K H p xs ∧ n = xs.length) ∨ ∃ xs, SqT K H p xs ∧ n = xs.length
 | _ => False
theorem iH : bB X (.builtin "len") (fun xs H Q => ∃ x n, xs = [x] ∧ BY X.K x H n ∧ Q (.int n) H) := by
  intro pins s σ H xs us Q I r h
  obtain ⟨x, n, rfl, e, q⟩ := h
  obtain ⟨u, rfl, rx⟩ := fA r
  have hl := fY
  have hs : sizeLine = 16777216 := sizeLine_eq
  cases x with
  | str y =>
    obtain ⟨t, rfl⟩ := rx
    obtain ⟨hy, e'⟩ : y.length ≤ sizeLine ∧ n = y.length := e
    subst e'
    exact len_str (by omega) ⟨.int _, H, I.tok _, ⟨_, rfl⟩, q⟩
  | byt y =>
    obtain ⟨t, rfl⟩ := rx
    obtain ⟨hy, e'⟩ : y.size ≤ sizeLine ∧ n = y.size := e
    subst e'
    exact W.len_bytes (by omega) ⟨.int _, H, I.tok _, ⟨_, rfl⟩, q⟩
  | ref p =>
    cases rx
    have e' : (∃ xs, SqL X.K H p xs ∧ n = xs.length) ∨ ∃ xs, SqT X.K H p xs ∧ n = xs.length := e
    rcases e' with ⟨xs, hx, e'⟩ | ⟨xs, hx, e'⟩
    · subst e'
      obtain ⟨its, r', pl, hz⟩ := I.list hx
      have hlen := r'.length
      exact Calls.call_len_list pl.isList (by simp only [List.size_toArray]; omega) ⟨.int xs.length, H, I.tok _, ⟨_, by simp only [List.size_toArray]; rw [hlen]⟩, q⟩
    · subst e'
      obtain ⟨its, r', pl, hz⟩ := I.tuple hx
      have hlen := r'.length
      exact len_tuple pl (by simp only [List.size_toArray]; omega) ⟨.int xs.length, H, I.tok _, ⟨_, by simp only [List.size_toArray]; rw [hlen]⟩, q⟩
  | _ => exact (show False from e).elim
end
end L2
namespace L2
open PySem PySem.Spec PyProof.Rows
structure iu (h : Heap) (x dx C : Addr) (mA : Str → Option Value) : Prop where
 obj : h.get? x = some (W.instObj C dx)
 ns : h.Ns1 dx mA
 ne : dx ≠ x
theorem qu {h : Heap} {dx : Addr} {mA : Str → Option Value} (n : h.Ns1 dx mA) : ∃ od, h.get? dx = some od ∧ ∀ name, W.lookIn name od = some (mA name) := by
 obtain ⟨o, es, ep, ho, hd, hk, _, hm⟩ := n
 refine ⟨o, ho, fun name => ?_⟩
 have e := hm name
 unfold nsFind findBy at e
 rw [← Array.find?_toList] at e
 unfold W.lookIn
 rw [hd]
 dsimp only
 split
 · rename_i y q
   rw [q] at e
   exact congrArg some e
 · rename_i q
   rw [q] at e
   have a : es.toList.any (·.refKey) = false := by
    rw [List.any_eq_false]
    intro y hy
    obtain ⟨z, t, hkey⟩ := hk y (Array.mem_toList_iff.mp hy)
    simp [DictEntry.refKey, hkey]
   have a' : ¬ es.toList.any (·.refKey) = true := by rw [a]; exact Bool.false_ne_true
   rw [if_neg a']
   exact congrArg some e
theorem iu.look {h : Heap} {x dx C : Addr} {mA : Str → Option Value} (I : iu h x dx C mA) : ∃ od, W.InstAt h x (W.instObj C dx) C (some od) ∧ ∀ name, W.lookIn name od = some (mA name) :=
 let ⟨od, ho, hl⟩ := qu I.ns
 ⟨od, ⟨I.obj, rfl, rfl, ho⟩, hl⟩
section
variable {prog : Program} {w : World} {A : Around} {E : Value → Shared → Prop} {s : Shared} {K : W.Frag} {x dx C f : Addr} {mA : Str → Option Value} {name : Str} {v : Value}
theorem vf {expr : Bool} {Q : Value → Shared → Prop} (X : K.In s.heap) (I : iu s.heap x dx C mA) (hg : W.plainGet K C name = true) (hh : W.hasDictIn K C = true)
  (ha : W.findIn K (.ref C) name = some none) (hv : mA name = some v) (hv' : W.handedIn v = true) (h : Q v { s with toks := s.toks + 1 }) :
  wpAny (model prog w) A (getAttr (.ref x) name expr) Q E s := by
 obtain ⟨od, J, hl⟩ := I.look
 exact W.get_value X J (W.plainGet_of hg).1 (W.findObj_own hh ha rfl (by rw [hl, hv])) hv' h
theorem sM {pl : Sem Bool} {Q : Value × List Value → Shared → Prop} (X : K.In s.heap) (I : iu s.heap x dx C mA) (hg : W.plainGet K C name = true)
  (hf : W.findIn K (.ref C) name = some (some (.ref f))) (ht : W.isFn K (.ref f) = true) (hv : mA name = none) (h : Q (.ref f, [.ref x]) s) :
  wpAny (model prog w) A (getMethod (.ref x) name pl) Q E s := by
 obtain ⟨od, J, hl⟩ := I.look
 exact W.method_fn X J (W.plainGet_of hg).1 (W.plainGet_of hg).2 hf (beq_iff_eq.mp ht) (by show (W.lookIn name od).map (·.isSome) = some false; rw [hl, hv]; rfl) h
theorem uT {ns : List Str} {Q : Unit → Shared → Prop} (X : K.In s.heap) (I : iu s.heap x dx C mA)
  (hs : W.findIn K (.ref C) "__setattr__" = some (some (.builtin "object.__setattr__"))) (hp : W.plainOver K C = true) (ht : W.takerIn K C name = some none) (hh : W.hasDictIn K C = true)
  (hw : PySem.Within mA ns) (hsz : ns.length ≤ sizeLine)
  (h : ∀ h', iu h' x dx C (fun y => if y = name then some v else mA y) → Heap.SameBut dx s.heap h' → Q () { s with heap := h', toks := s.toks + 2 }) :
  wpAny (model prog w) A (setAttr (.ref x) name v) Q E s := by
 obtain ⟨od, J, hl⟩ := I.look
 refine W.set_plain X J hs (W.osa_open (s := { s with toks := s.toks + 1 }) (r := none) X J hp ht fun b => ?_)
 obtain ⟨cd, hc, hd'⟩ := W.any_some hh
 have hx : s.heap.get? x = some ⟨.ref C, some dx, .plain, #[]⟩ := I.obj
 refine wpAny_bind (wpAny_pure (wpAny_bind (wpAny_bind (wpAny_loadPart hx (wpAny_bind (W.Looks.here (s := { s with toks := s.toks + 1 }) (W.looks_clsIn X hc) ?_))))))
 rw [hd']
 refine wpAny_pure (a := some dx) (wpAny_bind (wpAny_pure (wpAny_bind ?_)))
 refine wpAny_nsSet1 (s := { s with toks := s.toks + 1 }) I.ns fun h' hn2 hs2 => ?_
 obtain ⟨oD, esD, epD, hoD, hdD, hcD⟩ := hn2.count (PySem.Within.cons name v hw)
 refine wpAny_bind (wpAny_lookBehind hoD (by rw [hdD]; exact pastItsLine_dict (Nat.le_trans hcD (by rw [List.length_cons]; omega))) ?_)
 exact wpAny_pure (h _ ⟨(hs2.2 _ (Ne.symm I.ne)).trans I.obj, hn2, I.ne⟩ hs2)
theorem sH {R : Result → Shared → Prop} {vs : List Value} {kw : List (Str × Value)} (X : K.In s.heap) (hm : W.makesIn K C = true)
  (hi : W.findIn K (.ref C) "__init__" = some (some (.ref f))) (hf : W.typeIn K (.ref f) = some (.type "function"))
  (h : codeAny (model prog w) (A.under (.builtin "type.__call__" ⟨.ref C :: vs, kw⟩)) (.call (.ref f) ⟨.ref (s.heap.objs.size + 1) :: vs, kw⟩) (W.InitBack (s.heap.objs.size + 1) R)
   { s with heap := (s.heap.push W.emptyDict).push (W.instObj C s.heap.objs.size) }) :
  codeAny (model prog w) A (.call (.ref C) ⟨vs, kw⟩) R s := by
 obtain ⟨hh, g, d, t, os⟩ := s
 exact W.make_core (W.makes_of X hm) (W.looks_findIn X hi) (fun self => W.bind_fn X self hf) (.inl rfl) h
end
def du (f : Str) (v : V) : List (Str × V) → List (Str × V)
 | [] => [(f, v)]
 | (g, x) :: r => if g = f then (g, v) :: r else (g, x) :: du f v r
theorem io (f g : Str) (v : V) : ∀ fs : List (Str × V), (du f v fs).lookup g = if g = f then some v else fs.lookup g
  | [] => by
    show List.lookup g [(f, v)] = _
    by_cases h : g = f
    · have hb : (g == f) = true := beq_iff_eq.mpr h
      simp only [List.lookup, hb, if_pos h]
    · have hb : (g == f) = false := beq_eq_false_iff_ne.mpr h
      simp only [List.lookup, hb, if_neg h]
  | (k, x) :: r => by
    have ih := io f g v r
    rw [show du f v ((k, x) :: r) = (if k = f then (k, v) :: r else (k, x) :: du f v r) from rfl]
    by_cases hk : k = f
    · rw [if_pos hk]
      by_cases h : g = k
      · have hb : (g == k) = true := beq_iff_eq.mpr h
        simp only [List.lookup, hb, if_pos (h.trans hk)]
      · have hb : (g == k) = false := beq_eq_false_iff_ne.mpr h
        simp only [List.lookup, hb, if_neg (fun e : g = f => h (e.trans hk.symm))]
    · rw [if_neg hk]
      by_cases h : g = k
      · have hb : (g == k) = true := beq_iff_eq.mpr h
        simp only [List.lookup, hb, if_neg (fun e : g = f => hk (h.symm.trans e))]
      · have hb : (g == k) = false := beq_eq_false_iff_ne.mpr h
        simp only [List.lookup, hb]
        exact ih
theorem gH (f : Str) (v : V) : ∀ fs : List (Str × V), f ∈ (du f v fs).map (·.1) ∧ ∀ g, g ∈ fs.map (·.1) → g ∈ (du f v fs).map (·.1)
  | [] => ⟨by simp [du], fun g h => by simp at h⟩
  | (k, x) :: r => by
    obtain ⟨i1, i2⟩ := gH f v r
    rw [show du f v ((k, x) :: r) = (if k = f then (k, v) :: r else (k, x) :: du f v r) from rfl]
    by_cases hk : k = f
    · rw [if_pos hk]
      subst hk
      exact ⟨by simp, fun g h => by simpa using h⟩
    · rw [if_neg hk]
      refine ⟨?_, fun g h => ?_⟩
      · rw [List.map_cons]
        exact List.mem_cons_of_mem _ i1
      · rw [List.map_cons] at h ⊢
        rcases List.mem_cons.mp h with e | e
        · exact List.mem_cons.mpr (.inl e)
        · exact List.mem_cons_of_mem _ (i2 g e)
theorem ip (f : Str) (v : V) : ∀ fs : List (Str × V), (du f v fs).length ≤ fs.length + 1
  | [] => by simp [du]
  | (k, x) :: r => by
    have ih := ip f v r
    rw [show du f v ((k, x) :: r) = (if k = f then (k, v) :: r else (k, x) :: du f v r) from rfl]
    by_cases hk : k = f
    · rw [if_pos hk, List.length_cons, List.length_cons]; omega
    · rw [if_neg hk, List.length_cons, List.length_cons]; omega
theorem cL.some_of {v : V} {o : Option Value} (r : cL (some v) o) : ∃ u, o = some u ∧ aC v u := by
 cases o with
 | none => exact (show False from r).elim
 | some u => exact ⟨u, rfl, r⟩
theorem cL.none_of {o : Option Value} (r : cL none o) : o = none := by
 cases o with
 | none => rfl
 | some u => exact (show False from r).elim
theorem qt {v : V} {u : Value} (r : aC v u) : W.handedIn u = true := by
 cases v with
 | non => cases (show u = Value.none from r); rfl
 | bl b => cases (show u = Value.bool b from r); rfl
 | int i => obtain ⟨t, e⟩ := (show ∃ t, u = Value.int i t from r); cases e; rfl
 | str x => obtain ⟨t, e⟩ := (show ∃ t, u = Value.str x t from r); cases e; rfl
 | byt b => obtain ⟨t, e⟩ := (show ∃ t, u = Value.bytes b t from r); cases e; rfl
 | flt b => obtain ⟨t, e⟩ := (show ∃ t, u = Value.float b t from r); cases e; rfl
 | ref a => cases (show u = Value.ref a from r); rfl
 | ty n => cases (show u = Value.type n from r); rfl
section
variable {P : Program} {w : World} {H H' : Hp} {h h' : Heap} {a C dx : Addr} {fs fs' : List (Str × V)}
theorem fL (hok : HOk P w H h) (e : H a = some (.ins C dx fs)) : ∃ mA, iu h a dx C mA ∧ (∀ f, cL (fs.lookup f) (mA f)) ∧ PySem.Within mA (fs.map (·.1)) ∧ fs.length ≤ 1000 ∧ H dx = some (.own a) := by
 obtain ⟨d, z, ne, ob, mA, n, r, q⟩ := (show aM P w H h a (.ins C dx fs) from hok a _ e)
 exact ⟨mA, ⟨ob, n, ne⟩, r, q, z, d⟩
end
structure Cls (K : W.Frag) (C : Addr) : Prop where
 pg : W.plainGet K C Str.empty = true
 hd : W.hasDictIn K C = true
 po : W.plainOver K C = true
 sa : W.findIn K (.ref C) "__setattr__" = some (some (.builtin "object.__setattr__"))
theorem Cls.get {K : W.Frag} {C : Addr} (c : Cls K C) (f : Str) : W.plainGet K C f = true := c.pg
def cY (K : W.Frag) (C : Addr) (f : Str) : Prop := W.findIn K (.ref C) f = some none
theorem cY.taker {K : W.Frag} {C : Addr} {f : Str} (n : cY K C f) : W.takerIn K C f = some none := by
 unfold W.takerIn
 rw [show W.findIn K (.ref C) f = some none from n]
 rfl
structure ft (K : W.Frag) (C : Addr) (m : Str) (f : Addr) : Prop where
 at_ : W.findIn K (.ref C) m = some (some (.ref f))
 fn : W.isFn K (.ref f) = true
 kp : W.keepIn K (.ref f) = true
section
variable {X : Cx} {pins : List (Addr × Obj)} {σ : St} {H : Hp} {s : Shared} {a C dx : Addr} {fs : List (Str × V)} {f : Str} {v : V} {A : Around} {E : Value → Shared → Prop}
theorem ja {b : Bool} {Q : Value → Shared → Prop} (I : Inv X pins σ H s) (e : H a = some (.ins C dx fs)) (c : Cls X.K C) (n : cY X.K C f) (l : fs.lookup f = some v)
  (h : ∀ u s', Inv X pins σ H s' → aC v u → Q u s') : wpAny (model X.prog X.w) A (getAttr (.ref a) f b) Q E s := by
 obtain ⟨mA, O, r, _, _, _⟩ := fL I.hok e
 obtain ⟨u, hu, ru⟩ := cL.some_of (v := v) (o := mA f) (by rw [← l]; exact r f)
 exact vf I.kIn O (c.get f) c.hd n hu (qt ru) (h u _ (I.tok _) ru)
theorem iQ {m : Str} {g : Addr} {pl : Sem Bool} {Q : Value × List Value → Shared → Prop} (I : Inv X pins σ H s) (e : H a = some (.ins C dx fs)) (c : Cls X.K C) (k : ft X.K C m g) (l : fs.lookup m = none)
  (h : Q (.ref g, [.ref a]) s) : wpAny (model X.prog X.w) A (getMethod (.ref a) m pl) Q E s := by
 obtain ⟨mA, O, r, _, _, _⟩ := fL I.hok e
 have hn : mA m = none := cL.none_of (by rw [← l]; exact r m)
 exact sM I.kIn O (c.get m) k.at_ k.fn hn h
theorem oG {y : V} {u : Value} {Q : Unit → Shared → Prop} (I : Inv X pins σ H s) (e : H a = some (.ins C dx fs)) (c : Cls X.K C) (n : cY X.K C f) (hl : fs.length < 1000) (ry : aC y u)
   (h : ∀ s', Inv X pins σ (upd H a (.ins C dx (du f y fs))) s' → Q () s') : wpAny (model X.prog X.w) A (setAttr (.ref a) f u) Q E s := by
 obtain ⟨mA, O, r, wi, _, ho⟩ := fL I.hok e
 have hz : (fs.map (·.1)).length ≤ sizeLine := by rw [List.length_map, sizeLine_eq]; omega
 refine uT I.kIn O c.sa c.po n.taker c.hd wi hz fun h' O' sb => h _ ?_
 have hd : ∃ o, h'.get? dx = some o := let ⟨o, _, _, e', _⟩ := O'.ns; ⟨o, e'⟩
 refine I.write (x := a) (e := dx) (by rw [e]; exact True.intro) (.inr ho) (fun b q hb z => (sb.2 b hb).trans z) hd ?_
 refine ⟨by rw [ae O.ne]; exact ho, ?_, O.ne, O'.obj, _, O'.ns, fun g => ?_, fun g hg => ?_⟩
 · have := ip f y fs; omega
 · show cL ((du f y fs).lookup g) (if g = f then some u else mA g)
   rw [io]
   by_cases q : g = f
   · rw [if_pos q, if_pos q]; exact ry
   · rw [if_neg q, if_neg q]; exact r g
 · by_cases q : g = f
   · rw [q]; exact (gH f y fs).1
   · refine (gH f y fs).2 g (wi g fun z => hg ?_)
     show (if g = f then some u else mA g) = none
     rw [if_neg q]; exact z
theorem Inv.made (I : Inv X pins σ H s) : Inv X pins σ (upd (upd H s.heap.objs.size (.own (s.heap.objs.size + 1))) (s.heap.objs.size + 1) (.ins C s.heap.objs.size []))
  { s with heap := (s.heap.push W.emptyDict).push (W.instObj C s.heap.objs.size) } := by
 have e1 : (s.heap.push W.emptyDict).get? s.heap.objs.size = some W.emptyDict := Heap.get?_push_size s.heap rfl
 have e2 : ((s.heap.push W.emptyDict).push (W.instObj C s.heap.objs.size)).get? (s.heap.objs.size + 1) = some (W.instObj C s.heap.objs.size) := by
  have := Heap.get?_push_size (s.heap.push W.emptyDict) (o := W.instObj C s.heap.objs.size) rfl
  rwa [Heap.size_push] at this
 have e3 : (s.heap.push W.emptyDict).Ns s.heap.objs.size (fun _ => none) := ⟨W.emptyDict, #[], _, e1, rfl, (fun e he => absurd he (by simp)), fun _ => rfl⟩
 have I1 := I.laid (a := s.heap.objs.size) (o := .own (s.heap.objs.size + 1)) (h' := s.heap.push W.emptyDict) (t' := s.toks) (fun b u q => Heap.get?_push_of_some _ q) (Nat.le_refl _) ⟨_, e1⟩
 refine I1.laid (a := s.heap.objs.size + 1) (o := .ins C s.heap.objs.size []) (t' := s.toks) (fun b u q => Heap.get?_push_of_some _ q) (Nat.le_of_eq (Heap.size_push _ _)) ?_
 have ne : s.heap.objs.size ≠ s.heap.objs.size + 1 := Nat.ne_of_lt (Nat.lt_succ_self _)
 refine ⟨by rw [ae ne, af], Nat.zero_le _, ne, e2, fun _ => none, (Heap.Ns1.of_empty e3).at fun o q => Heap.get?_push_of_some _ q, fun _ => True.intro, fun y hy => absurd rfl hy⟩
theorem vz {prog : Program} {w : World} {env : Env} {e : Expr} {f : Str} {pos : Pos} {s : Shared} {Q : Value → Shared → Prop} (hb : attributeBase e f env (eval e env) = eval e env)
  (h : wpAny (model prog w) A (eval e env) (fun o s₁ => wpAny (model prog w) A (getAttr o f true) Q E s₁) E s) : wpAny (model prog w) A (eval (.Attribute e f pos) env) Q E s :=
 Attribute_any_ h (by rw [arm_eval_Attribute, hb])
end
def dv (K : W.Frag) (ta : TE) (f : Str) : TE := fun σ H Q => ta σ H fun x H1 => ∃ a C dx fs v, x = .ref a ∧ H1 a = some (.ins C dx fs) ∧ Cls K C ∧ cY K C f ∧ fs.lookup f = some v ∧ Q v H1
def ir (K : W.Frag) (ta tv : TE) (f : Str) : TS := fun D σ H => tv σ H fun y H1 => ta σ H1 fun x H2 => ∃ a C dx fs, x = .ref a ∧ H2 a = some (.ins C dx fs) ∧ Cls K C ∧ cY K C f ∧ fs.length < 1000 ∧
 D.nx σ (upd H2 a (.ins C dx (du f y fs)))
section
variable {X : Cx} {o e value : Expr} {f : Str} {pos pos' tpos : Pos} {ta tv : TE}
theorem wx (he : PE X e ta) (hb : attributeBase e f X.env (eval e X.env) = eval e X.env) : PE X (.Attribute e f pos) (dv X.K ta f) := by
 intro pins s σ H Q I h
 refine vz hb (thn (he pins s σ H _ I h) fun u s1 ⟨x, H1, I1, rx, a, C, dx, fs, v, ex, ea, c, n, l, q⟩ => ?_)
 subst ex
 obtain rfl : u = Value.ref a := rx
 exact ja I1 ea c n l fun u' s2 I2 ru => ⟨v, H1, I2, ru, q⟩
theorem xt (ha : PE X o ta) (hv : PE X value tv) (hs : swapsWith value (some (.Attribute o f pos')) pos.line X.env = pure false) : PS X (.Assign [.Attribute o f pos'] value pos) (ir X.K ta tv f) := by
 intro pins s σ H D I h
 refine plainObj_wpAny_Assign_Attribute (thn (hv pins s σ H _ I h) fun u s1 ⟨y, H1, I1, ry, q⟩ => thn (ha pins s1 σ H1 _ I1 q) fun ov s2 ⟨x, H2, I2, rx, a, C, dx, fs, ex, ea, c, n, l, q2⟩ => ?_) hs
 subst ex
 obtain rfl : ov = Value.ref a := rx
 exact oG I2 ea c n l ry fun s3 I3 => ⟨σ, _, I3, q2⟩
end
section
variable {X : Cx} {pins : List (Addr × Obj)} {σ : St} {H : Hp} {s : Shared} {A : Around} {E : Value → Shared → Prop} {Q : Value → Shared → Prop} {c : Value} {b : Bool}
inductive dU (K : W.Frag) (H : Hp) : V → Value → Prop where
 | non : dU K H .non (.type "NoneType")
 | bl (x : Bool) : dU K H (.bl x) (.type "bool")
 | int (i : Int) : dU K H (.int i) (.type "int")
 | str (x : Str) : dU K H (.str x) (.type "str")
 | flt (x : UInt64) : dU K H (.flt x) (.type "float")
 | lst {a : Addr} {xs : List V} (e : H a = some (.lst xs)) : dU K H (.ref a) (.type "list")
 | frz {a : Addr} {o : Obj} {xs : List V} (e : H a = some (.frz o (.lst xs))) : dU K H (.ref a) (.type "list")
 | tup {a : Addr} {xs : List V} (e : H a = some (.tup xs)) : dU K H (.ref a) (.type "tuple")
 | dK {a : Addr} {kvs : List (Key × V)} (e : H a = some (.dK kvs)) : dU K H (.ref a) (.type "dict")
 | dT {a : Addr} {kvs : List (List Key × V)} (e : H a = some (.dT kvs)) : dU K H (.ref a) (.type "dict")
 | ins {a C dx : Addr} {fs : List (Str × V)} (e : H a = some (.ins C dx fs)) (cl : Cls K C) (ha : W.findIn K (.ref C) "__class__" = some (some (.builtin "object.__class__")))
  (hn : W.specialIn K (.builtin "object.__class__") "__get__" = some (some (.builtin "getset_descriptor.__get__"))) (htk : W.takesIn K (.builtin "object.__class__") = some true)
  (hm : W.mroIn K C (.type "object") = some true) : dU K H (.ref a) (.ref C)
theorem pC {x : V} {u t : Value} (I : Inv X pins σ H s) (rx : aC x u) (ty : dU X.K H x t) (e : W.kitOne X.K t c = some b) (h : ∀ tk, Q (.bool b) { s with toks := tk }) :
    wpAny (model X.prog X.w) A (call (.builtin "isinstance") [u, c]) Q E s := by
  cases ty with
  | non => cases (show u = Value.none from rx); exact W.kia_one W.kitx_none I.kIn True.intro e (fun z => nomatch z) h
  | bl y => cases (show u = Value.bool y from rx); exact W.kia_one W.kitx_bool I.kIn True.intro e (fun z => nomatch z) h
  | int i => obtain ⟨t, q⟩ := (show ∃ t, u = Value.int i t from rx); cases q; exact W.kia_one W.kitx_int I.kIn True.intro e (fun z => nomatch z) h
  | str y => obtain ⟨t, q⟩ := (show ∃ t, u = Value.str y t from rx); cases q; exact W.kia_one W.kitx_str I.kIn True.intro e (fun z => nomatch z) h
  | flt y => obtain ⟨t, q⟩ := (show ∃ t, u = Value.float y t from rx); cases q; exact W.kia_one W.kitx_float I.kIn True.intro e (fun z => nomatch z) h
  | @lst a xs ea =>
    cases (show u = Value.ref a from rx)
    obtain ⟨_, _, n, _, h1⟩ := (show aM X.prog X.w H s.heap a (.lst xs) from I.hok a _ ea)
    exact W.kia_one W.kitx_list I.kIn ⟨_, h1, rfl⟩ e (fun z => nomatch z) h
  | @frz a ob xs ea =>
    cases (show u = Value.ref a from rx)
    obtain ⟨_, _, _, n, _, h1⟩ := (show aM X.prog X.w H s.heap a (.frz ob (.lst xs)) from I.hok a _ ea)
    exact W.kia_one W.kitx_list I.kIn ⟨_, h1, rfl⟩ e (fun z => nomatch z) h
  | @tup a xs ea =>
    cases (show u = Value.ref a from rx)
    obtain ⟨_, _, _, p⟩ := (show aM X.prog X.w H s.heap a (.tup xs) from I.hok a _ ea)
    obtain ⟨o, h1, h2, _⟩ := p
    exact W.kia_one W.kitx_tuple I.kIn ⟨o, h1, h2⟩ e (fun z => nomatch z) h
  | @dK a kvs ea =>
    cases (show u = Value.ref a from rx)
    obtain ⟨_, _, vs, _, p⟩ := (show aM X.prog X.w H s.heap a (.dK kvs) from I.hok a _ ea)
    obtain ⟨o, es, ep, h1, h2, _⟩ := p
    exact W.kia_one W.kitx_dict I.kIn ⟨o, h1, h2.1⟩ e (fun z => nomatch z) h
  | @dT a kvs ea =>
    cases (show u = Value.ref a from rx)
    obtain ⟨_, _, xs, _, o, es, ep, h1, h2, _⟩ := (show aM X.prog X.w H s.heap a (.dT kvs) from I.hok a _ ea)
    exact W.kia_one W.kitx_dict I.kIn ⟨o, h1, h2.1⟩ e (fun z => nomatch z) h
  | @ins a C dx fs ea cl ha hn htk hm =>
    cases (show u = Value.ref a from rx)
    obtain ⟨mA, O, _⟩ := fL I.hok ea
    obtain ⟨od, J, _⟩ := O.look
    exact W.kia_one (W.kitx_own (cl.get _) cl.hd ha hn htk hm) I.kIn J e (fun z => nomatch z) h
end
end L2
namespace L2
open PySem PySem.Spec PyProof.Rows
structure aO (k : Nat) (A : Around) : Prop where
 hd : A.handled = none
 dp : A.depth + 3 * k + 5 < recursionLimit
 un : A.units + 16 * k + 200 < cLine
theorem aO.mono {j k : Nat} {A : Around} (r : aO k A) (h : j ≤ k) : aO j A := ⟨r.hd, by have := r.dp; omega, by have := r.un; omega⟩
theorem aO.deeper {k : Nat} {A : Around} (r : aO (k + 1) A) (env : Env) : aO k (A.deeper env) :=
 ⟨r.hd, by have := r.dp; show A.depth + 1 + 3 * k + 5 < _; omega, by have := r.un; show A.units + 3 + 16 * k + 200 < _; omega⟩
theorem nH {A : Around} {C : Addr} {us : List Value} {kw : List (Str × Value)} : (A.under (.builtin "type.__call__" ⟨.ref C :: us, kw⟩)).depth = A.depth + 1 := by
 first | rfl | simp [Around.under, Code.weight, Code.isCreation, Code.isGuard, Code.isCaller, Code.frames, Code.isFrame, guardIds]
theorem oK {A : Around} {C : Addr} {us : List Value} {kw : List (Str × Value)} : (A.under (.builtin "type.__call__" ⟨.ref C :: us, kw⟩)).units = A.units + 1 := by
 first | rfl | simp [Around.under, Code.cUnits, Code.frames, Code.isFrame]
theorem aO.make {k : Nat} {A : Around} (r : aO (k + 1) A) (C : Addr) (us : List Value) (kw : List (Str × Value)) : aO k (A.under (.builtin "type.__call__" ⟨.ref C :: us, kw⟩)) :=
 ⟨r.hd, by have := r.dp; rw [nH]; omega, by have := r.un; rw [oK]; omega⟩
theorem aO.depth {k : Nat} {A : Around} (r : aO k A) : A.depth < recursionLimit := by have := r.dp; omega
def ag : TA := fun _ H Q => Q [] H
def ac (ta : TE) (tr : TA) : TA := fun σ H Q => ta σ H fun x H1 => tr σ H1 fun xs H2 => Q (x :: xs) H2
section
variable {X : Cx} {e : Expr} {es : List Expr} {te : TE} {t : TA} {pos : Pos}
theorem vK : PA X [] ag := fun _ _ _ _ H Q I h => Calls.spliced_nil ⟨[], H, I, .nil, h⟩
theorem uM (ha : PE X e te) (hr : PA X es t) (hs : starEach (e :: es) X.env = (false, eval e X.env) :: starEach es X.env := by rfl) : PA X (e :: es) (ac te t) := by
 intro pos pins s σ H Q I h
 rw [hs]
 show wpAny _ _ (spliced ((false, eval e X.env) :: backTo pos (starEach es X.env))) _ _ s
 refine Calls.spliced_cons (thn (ha pins s σ H _ I h) fun u s1 ⟨x, H1, I1, r1, q1⟩ => ?_)
 exact thn (hr pos pins s1 σ H1 _ I1 q1) fun us s2 ⟨xs, H2, I2, r2, q2⟩ => ⟨x :: xs, H2, I2, .cons r1 r2, q2⟩
def cO (t : TA) : TE := fun σ H Q => t σ H fun xs H1 => xs.length ≤ sizeLine ∧ ∀ p, H1 p = none → Q (.ref p) (upd H1 p (.tup xs))
def gz (t : TA) : TE := fun σ H Q => t σ H fun xs H1 => xs.length ≤ sizeLine ∧ ∀ p, H1 p = none → Q (.ref p) (upd H1 p (.lst xs))
theorem wW {x1} (h : PA X es t) : PE X (.Tuple es x1 pos) (cO t) := by
 intro pins s σ H Q I hq
 refine wpAny_Tuple_spliced (thn (h pos pins s σ H _ I hq) fun us s1 ⟨xs, H1, I1, r, z, q⟩ => ⟨by rw [← r.length]; exact z, ?_⟩)
 have hf : H1 s1.heap.objs.size = none := I1.hok.fresh (Nat.le_refl _)
 refine ⟨.ref s1.heap.objs.size, upd H1 s1.heap.objs.size (.tup xs), I1.laid (t' := s1.toks) (fun b u e => Heap.get?_push_of_some _ e) (Nat.le_refl _) ?_, rfl, q _ hf⟩
 exact ⟨z, us, r, ⟨_, Heap.get?_push_size _ rfl, rfl, _, rfl⟩⟩
theorem we (h : PA X es t) : PE X (.List es pos) (gz t) := by
 intro pins s σ H Q I hq
 refine wpAny_List_spliced (thn (h pos pins s σ H _ I hq) fun us s1 ⟨xs, H1, I1, r, z, q⟩ => ⟨by rw [← r.length]; exact z, ?_⟩)
 have hf : H1 s1.heap.objs.size = none := I1.hok.fresh (Nat.le_refl _)
 refine ⟨.ref s1.heap.objs.size, upd H1 s1.heap.objs.size (.lst xs), I1.laid (t' := s1.toks) (fun b u e => Heap.get?_push_of_some _ e) (Nat.le_refl _) ?_, rfl, q _ hf⟩
 exact ⟨z, us, 0, r, Heap.get?_push_size _ rfl⟩
end
abbrev Sp := List V → Hp → VK → XK → Prop
abbrev CXT := List Env → Hp → Shared → XK → Value → Shared → Prop
structure gr (P : Program) (w : World) (K : W.Frag) (mg : Str → Option Value) (base : Heap) (A : Around) (outer : List Env) (s : Shared) (H : Hp) : Prop where
 frames : A.frames = some outer
 mod : Mod K mg base
 bs : ∀ b o, base.get? b = some o → s.heap.get? b = some o ∧ H b = none
 bsz : base.objs.size ≤ s.heap.objs.size
 funs : s.heap.FunFrames base outer
 frf : ∀ b ∈ frs outer, H b = none
 hok : HOk P w H s.heap
 bare : AllBare s.gens
def CE (outer : List Env) (P : Program) (w : World) (H : Hp) (s : Shared) (Q : VK) (u : Value) (s' : Shared) : Prop :=
 ∃ v H', s'.os = s.os ∧ AllBare s'.gens ∧ Un (frs outer) [] H H' s.heap s'.heap ∧ HOk P w H' s'.heap ∧ aC v u ∧ Q v H'
def CR (CX : CXT) (outer : List Env) (P : Program) (w : World) (H : Hp) (s : Shared) (Q : VK) (E : XK) (r : Result) (s' : Shared) : Prop :=
 match r with
 | .ok (.ret u) => CE outer P w H s Q u s'
 | .ok _ => False
 | .error e => CX outer H s E e s'
structure aJ (P : Program) (w : World) (K : W.Frag) (mg : Str → Option Value) (base : Heap) (CX : CXT) (k : Nat) (f : Addr) (fd : FuncData) (ps : List Str) (sp : Sp) : Prop where
 len : ∀ vs H Q E, sp vs H Q E → vs.length = ps.length
 run : ∀ (A : Around) (outer : List Env) (s : Shared) (H : Hp) (args : Args) (us : List Value) (vs : List V) (Q : VK) (E : XK), aO k A → gr P w K mg base A outer s H → BindsTo s fd args (ps.zip us) → ax vs us → sp vs H Q E →
  codeAny (model P w) A (.call (.ref f) args) (CR CX outer P w H s Q E) s
theorem gr.make {P : Program} {w : World} {K : W.Frag} {mg : Str → Option Value} {base : Heap} {A : Around} {outer : List Env} {s : Shared} {H : Hp} (e : gr P w K mg base A outer s H) (C : Addr) (us : List Value) (kw : List (Str × Value)) :
 gr P w K mg base (A.under (.builtin "type.__call__" ⟨.ref C :: us, kw⟩)) outer s H := ⟨by first | exact e.frames | (simpa [Around.under, Code.envs, Code.isFrame, pushEnvs] using e.frames), e.mod, e.bs, e.bsz, e.funs, e.frf, e.hok, e.bare⟩
section
variable {X : Cx} {pins : List (Addr × Obj)} {σ : St} {H : Hp} {s s' : Shared}
theorem Inv.env0 (I : Inv X pins σ H s) : gr X.prog X.w X.K X.mg X.base X.A X.stack s H :=
 ⟨I.ok.frames, I.ok.mod, I.bs, Nat.le_trans I.ok.bsz I.sz, I.stack, I.stkFree, I.hok, I.bare⟩
theorem Inv.after {Q : VK} {u : Value} (I : Inv X pins σ H s) (h : CE X.stack X.prog X.w H s Q u s') : EP X pins σ Q u s' := by
 obtain ⟨v, H', os, bare, un, hok, r, q⟩ := h
 obtain ⟨hh, g, d, t, os'⟩ := s'
 obtain rfl : os' = s.os := os
 exact ⟨v, H', I.call (h' := hh) (g' := g) (d' := d) (t' := t) (ch := []) un hok bare (fun b z => absurd z (by simp)), r, q⟩
end
def bu (K : W.Frag) (fd : FuncData) (ps : List Str) (ds : List Value) : Prop :=
 ∀ (s : Shared) (us : List Value), K.In s.heap → (us ++ ds).length = ps.length → BindsTo s fd ⟨us, []⟩ (ps.zip (us ++ ds))
theorem bu.all {K : W.Frag} {fd : FuncData} {ps : List Str} (h : ∀ us : List Value, us.length = ps.length → bindArgs fd ⟨us, []⟩ = pure (ps.zip us)) : bu K fd ps [] := fun s us _ hl => by
 rw [List.append_nil] at hl ⊢
 exact .of_eq (h us hl)
section
variable {X : Cx} {CX : CXT} {k : Nat} {f C : Addr} {fd : FuncData} {ps : List Str} {sp : Sp} {dvs : List V} {ds : List Value} {E : XK} {x m : Str} {p pos apos : Pos} {e o : Expr} {es : List Expr} {ta : TE} {t : TA}
structure Mk (K : W.Frag) (C f : Addr) : Prop where
 makes : W.makesIn K C = true
 init : W.findIn K (.ref C) "__init__" = some (some (.ref f))
 fn : W.isFn K (.ref f) = true
 kp : W.keepIn K (.ref C) = true
end
section
variable {X : Cx} {CX : CXT} {k : Nat} {f C : Addr} {fd : FuncData} {ps ks : List Str} {sp : Sp} {E : XK} {x m : Str} {p pos apos kpos : Pos} {e o : Expr} {es : List Expr} {kws : List Keyword} {te ta : TE} {t tk : TA} {nm : Option Str}
variable {g : List Value → List Value → List Value} {gV : List V → List V → List V}
end
structure aw (N P : List Str) (sc : Scope) : Prop where
 kind : sc.kind = .function
 co : sc.isCoroutine = false
 gen : sc.isGenerator = false
 nd : N.Nodup
 pre : N.take P.length = P
 par : ∀ x ∈ P, sc.names.lookup x = some .local ∨ sc.names.lookup x = some .cell
 nofree : ∀ y ∈ sc.names, y.2 ≠ .free
theorem kj {kindOf : Str → Option NameKind} {x : Str} : ∀ {binds : List (Str × Value)} {m : Str → Option Value}, (∀ v, (x, v) ∉ binds) → bindL kindOf binds m x = m x
  | [], _, _ => rfl
  | (n, v) :: r, m, h => by
    unfold bindL
    rw [kj fun w hw => h w (List.mem_cons_of_mem _ hw)]
    split
    · have : x ≠ n := by rintro rfl; exact h v List.mem_cons_self
      simp [this]
    · rfl
theorem jT {kindOf : Str → Option NameKind} {x : Str} : ∀ {binds : List (Str × Value)} {m : Str → Option Value}, (∀ v, (x, v) ∉ binds) → bindC kindOf binds m x = m x
  | [], _, _ => rfl
  | (n, v) :: r, m, h => by
    unfold bindC
    rw [jT fun w hw => h w (List.mem_cons_of_mem _ hw)]
    split
    · rfl
    · have : x ≠ n := by rintro rfl; exact h v List.mem_cons_self
      simp [this]
theorem jZ {kindOf : Str → Option NameKind} {x : Str} {v : Value} : ∀ {P : List Str} {vs : List Value} {i : Nat} {m : Str → Option Value}, P.Nodup → P[i]? = some x → vs[i]? = some v → kindOf x = some .local →
    bindL kindOf (P.zip vs) m x = some v
  | [], _, _, _, _, h, _, _ => by simp at h
  | _ :: _, [], _, _, _, _, h, _ => by simp at h
  | p :: P, w :: vs, 0, m, nd, h1, h2, hk => by
    simp at h1 h2; subst h1; subst h2
    show bindL kindOf ((p, w) :: P.zip vs) m p = _
    unfold bindL
    rw [kj fun v hv => (List.nodup_cons.mp nd).1 (List.of_mem_zip hv).1, if_pos hk]
    simp
  | p :: P, w :: vs, i + 1, m, nd, h1, h2, hk => by
    show bindL kindOf ((p, w) :: P.zip vs) m x = _
    unfold bindL
    exact jZ (i := i) (List.nodup_cons.mp nd).2 (by simpa using h1) (by simpa using h2) hk
theorem ke {kindOf : Str → Option NameKind} {x : Str} {v : Value} : ∀ {P : List Str} {vs : List Value} {i : Nat} {m : Str → Option Value}, P.Nodup → P[i]? = some x → vs[i]? = some v → kindOf x ≠ some .local →
    bindC kindOf (P.zip vs) m x = some v
  | [], _, _, _, _, h, _, _ => by simp at h
  | _ :: _, [], _, _, _, _, h, _ => by simp at h
  | p :: P, w :: vs, 0, m, nd, h1, h2, hk => by
    simp at h1 h2; subst h1; subst h2
    show bindC kindOf ((p, w) :: P.zip vs) m p = _
    unfold bindC
    rw [jT fun v hv => (List.nodup_cons.mp nd).1 (List.of_mem_zip hv).1, if_neg hk]
    simp
  | p :: P, w :: vs, i + 1, m, nd, h1, h2, hk => by
    show bindC kindOf ((p, w) :: P.zip vs) m x = _
    unfold bindC
    exact ke (i := i) (List.nodup_cons.mp nd).2 (by simpa using h1) (by simpa using h2) hk
def bY (N : List Str) (vs : List V) : St := vs.map some ++ List.replicate (N.length - vs.length) none
def dL (CX : CXT) (P : Program) (w : World) (K : W.Frag) (mg : Str → Option Value) (base : Heap) (N : List Str) (qual : Str) (scope : Scope) (f : Addr) (cd : Value) (A : Around) (outer : List Env) (s : Shared) (H : Hp) (E : XK) : Cx where
 prog := P
 w := w
 K := K
 mg := mg
 base := base
 A := A.deeper (envOfC qual scope s.heap.objs.size f cd)
 N := N
 s₀ := s
 H₀ := H
 env := envOfC qual scope s.heap.objs.size f cd
 outer := outer
 stack := envOfC qual scope s.heap.objs.size f cd :: outer
 ex := []
 calm := true
 fn := fun _ => true
 pn := []
 xe := fun e s' => wpAny (model P w) (A.deeper (envOfC qual scope s.heap.objs.size f cd)) (leaving (envOfC qual scope s.heap.objs.size f cd) e) (fun _ s'' => CX outer H s E e s'') (fun e' s'' => CX outer H s E e' s'') s'
theorem lR {sc : Scope} {n : Nat} {x : Str} (h : sc.names.lookup x = some .cell) : ∃ c, (cellsFrom n sc.names []).lookup x = some c := by
 have q := W.cellsFrom_some sc.names n [] (.inl h)
 exact Option.isSome_iff_exists.mp q
theorem jS {CX : CXT} {P : Program} {w : World} {K : W.Frag} {mg : Str → Option Value} {base : Heap} {N ps : List Str} {qual : Str} {scope : Scope} {f : Addr} {cd : Value} {A : Around} {outer : List Env} {s s1 : Shared} {H : Hp} {E : XK} {us : List Value} {vs : List V}
   (S : aw N ps scope) (hd : A.handled = none) (e0 : gr P w K mg base A outer s H) (hl : vs.length = ps.length) (r : ax vs us)
   (x : InCallC s s.heap.objs.size (bindL (envOfC qual scope s.heap.objs.size f cd).kindOf (ps.zip us) fun _ => none) (cellsFrom (s.heap.objs.size + 1) scope.names []) (bindC (envOfC qual scope s.heap.objs.size f cd).kindOf (ps.zip us) fun _ => none) s1) :
   Inv (dL CX P w K mg base N qual scope f cd A outer s H E) [] (bY N vs) H s1 := by
 have hpl : ps.length ≤ N.length := by have := congrArg List.length S.pre; rw [List.length_take] at this; omega
 obtain ⟨h1, tk, rfl, hk⟩ := x.done
 have noA : ∀ b : Addr, b ∉ (dL CX P w K mg base N qual scope f cd A outer s H E).ex := fun b z => absurd (show b ∈ ([] : List Addr) from z) (by simp)
 refine ⟨⟨e0.mod, S.kind, rfl, rfl, Nat.le_refl _, fun y z c h1 h2 => ?_, fun y hy => ?_, fun y c _ h => ?_, fun _ => hd, Around.frames_deeper e0.frames, .inr ⟨rfl, rfl⟩, fun b z => absurd z (noA b), e0.bs, e0.bsz, fun b _ _ => noA b, fun b z => absurd z (noA b), e0.funs, e0.frf⟩,
   rfl, e0.bare, Un.kept hk, ⟨_, x.toInCall.ns, fun i y v h1 h2 h3 => ?_⟩, fun y c h => ⟨_, x.cell y c h⟩, e0.hok.fresh (Nat.le_refl _), fun y c h => ?_, fun p hp => absurd (show p ∈ ([] : List (Addr × Obj)) from hp) (by simp), e0.hok.kept hk, ?_⟩
 · exact name_of_addr x.apart (PySem.mem_of_lookup h1) (PySem.mem_of_lookup h2)
 · have hy : scope.names.lookup y = some .cell ∨ scope.names.lookup y = some .free := hy
   rcases hy with hy | hy
   · exact lR hy
   · exact absurd rfl (S.nofree _ (PySem.mem_of_lookup hy))
 · exact Nat.le_of_lt (x.above y c (PySem.mem_of_lookup h))
 · have hi : i < vs.length := by
     unfold bY at h2
     by_cases hi : i < vs.length
     · exact hi
     · rw [List.getElem?_append_right (by simpa using hi)] at h2
       rw [List.getElem?_replicate] at h2
       split at h2 <;> cases h2
   have ha : vs[i]? = some v := by
     unfold bY at h2
     rw [List.getElem?_append_left (by simpa using hi), List.getElem?_map] at h2
     cases e : vs[i]? with
     | none => rw [e] at h2; cases h2
     | some a => rw [e] at h2; cases h2; rfl
   obtain ⟨u, hu, rv⟩ := r.get ha
   have hp : ps[i]? = some y := by
     rw [← S.pre, List.getElem?_take_of_lt (by omega)]; exact h1
   have ndP : ps.Nodup := by rw [← S.pre]; exact S.nd.sublist (List.take_sublist _ _)
   refine ⟨u, rv, ?_⟩
   rcases S.par y (List.mem_of_getElem? hp) with k | k
   · exact .inl ⟨k, jZ ndP hp hu k⟩
   · obtain ⟨c, e⟩ := lR (n := s.heap.objs.size + 1) k
     refine .inr ⟨.inl k, c, e, ?_⟩
     have q := x.cell y c e
     rw [ke ndP hp hu (by show scope.names.lookup y ≠ _; rw [k]; decide)] at q
     exact q
 · exact e0.hok.fresh (Nat.le_of_lt (x.above y c (PySem.mem_of_lookup h)))
 · unfold bY
   show _ = N.length
   rw [List.length_append, List.length_map, List.length_replicate]
   omega
theorem yR {CX : CXT} {P : Program} {w : World} {K : W.Frag} {mg : Str → Option Value} {base : Heap} {k : Nat} {f : Addr} {name qual : Str} {params : Arguments} {body : List Stmt} {scope : Scope} {dV kV doc pm cdv ct oc : Value} {an od : Option Addr}
    {osl : Array (Option Value)} {N ps : List Str} {sp : Sp} (lk : K.lookup f = some ⟨oc, od, .func (W.fnOf name qual params body scope dV kV doc pm an cdv ct), osl⟩) (hcd : W.codeIn K cdv qual = true) (S : aw N ps scope)
    (len : ∀ vs H Q E, sp vs H Q E → vs.length = ps.length)
    (hbody : ∀ (A : Around) (outer : List Env) (s : Shared) (H : Hp) (vs : List V) (Q : VK) (E : XK), aO k (A.deeper (envOfC qual scope s.heap.objs.size f cdv)) → sp vs H Q E →
      ∃ t, PSs (dL CX P w K mg base N qual scope f cdv A outer s H E) body t ∧ t { nx := fun _ H' => Q .non H', rt := Q } (bY N vs) H) :
    aJ P w K mg base CX (k + 1) f (W.fnOf name qual params body scope dV kV doc pm an cdv ct) ps sp := by
  refine ⟨len, fun A outer s H args us vs Q E hr e0 hb r hsp => ?_⟩
  have hl := len _ _ _ _ hsp
  have KX : K.In s.heap := e0.mod.kin.keeps fun b o e => (e0.bs b o e).1
  have lim : s.heap.NoLimit := e0.mod.nolimit.keeps fun b o e => (e0.bs b o e).1
  have hkind : ∀ y ∈ ps.zip us, scope.names.lookup y.1 = some .local ∨ (scope.names.lookup y.1 = some .cell ∧ ((cellsFrom (s.heap.objs.size + 1) scope.names []).lookup y.1).isSome = true) := fun ⟨n, v⟩ hy => by
    rcases S.par n (List.of_mem_zip hy).1 with q | q
    · exact .inl q
    · exact .inr ⟨q, W.cellsFrom_some _ _ _ (.inl q)⟩
  refine codeAny_call_function hr.depth (KX _ _ lk) rfl S.co S.gen rfl (W.codeRec_of KX hcd) (hb _ _ _ _ ?_)
  refine wpAny_newFunctionEnv_cells S.kind hkind fun env he s1 x => ?_
  subst he
  refine ⟨lim.keeps x.toInCall.keep, codeAny_func ?_⟩
  obtain ⟨t, ht, hq⟩ := hbody A outer s H vs Q E (hr.deeper _) hsp
  have I : Inv (dL CX P w K mg base N qual scope f cdv A outer s H E) [] (bY N vs) H s1 := jS S hr.hd e0 hl r x
  refine wpAny_mono (ht [] s1 (bY N vs) H _ I hq) (fun fl s' hs => ?_) fun e s' hs => hs
  have fin : ∀ {σ' : St} {H' : Hp} {v : V} {u : Value}, Inv (dL CX P w K mg base N qual scope f cdv A outer s H E) [] σ' H' s' → aC v u → Q v H' → CE outer P w H s Q u s' :=
    fun {σ' H' v u} J rv q => ⟨v, H', J.os, J.bare, J.base, J.hok, rv, q⟩
  cases fl with
  | ret u =>
    obtain ⟨v, σ', H', J, rv, q⟩ := hs
    exact fin J rv q
  | next =>
    obtain ⟨σ', H', J, q⟩ := hs
    exact fin (v := V.non) (u := Value.none) J rfl q
  | brk =>
    obtain ⟨_, _, _, q⟩ := hs
    exact False.elim q
  | cont =>
    obtain ⟨_, _, _, q⟩ := hs
    exact False.elim q
end L2
namespace L2
open PySem PySem.Spec PyProof.Rows
section
variable {X : Cx} {x : Str} {p pos : Pos} {e : Expr} {es : List Expr} {t : TA} {id T : String} {r : List V → Hp → VK → Prop}
def tCB (r : List V → Hp → VK → Prop) (t : TA) : TE := fun σ H Q => t σ H fun vs H1 => r vs H1 Q
theorem rN (hc : bB X (.builtin id) r) (hg : Gl X x) (hm : X.mg x = none) (hv : bootBuiltins x = some (.builtin id)) (ha : PA X (e :: es) t) (hn : x ≠ "__name__" := by decide) (hdb : (x == ("__debug__" : Str)) = false := by decide)
  (he : starEach (e :: es) X.env = (false, eval e X.env) :: starEach es X.env := by rfl) (hpl : (backTo pos (starEach es X.env)).any (·.1) = false := by rfl) : PE X (.Call (.Name x p) (e :: es) [] pos) (tCB r t) := by
 intro pins s σ H Q I h
 refine wpAny_Call_Name_kw (dg I hg hm hv ?_ hn hdb)
 exact PyProof.Rows.callWith_builtin1 (thn (ha pos pins s σ H _ I h) fun us s1 ⟨vs, H1, I1, r1, q1⟩ => hc pins s1 σ H1 vs us Q I1 r1 q1) he hpl
theorem qC (hc : bB X (.type T) r) (hg : Gl X x) (hm : X.mg x = none) (hv : bootBuiltins x = some (.type T)) (ha : PA X (e :: es) t) (hn : x ≠ "__name__" := by decide) (hdb : (x == ("__debug__" : Str)) = false := by decide)
  (he : starEach (e :: es) X.env = (false, eval e X.env) :: starEach es X.env := by rfl) (hpl : (backTo pos (starEach es X.env)).any (·.1) = false := by rfl) : PE X (.Call (.Name x p) (e :: es) [] pos) (tCB r t) := by
 intro pins s σ H Q I h
 refine wpAny_Call_Name_kw (dg I hg hm hv ?_ hn hdb)
 exact PyProof.Rows.callWith_type1 (thn (ha pos pins s σ H _ I h) fun us s1 ⟨vs, H1, I1, r1, q1⟩ => hc pins s1 σ H1 vs us Q I1 r1 q1) he hpl
end
end L2
namespace HT
open PySem PyProof.Rows
section
open PySem.SeqAt
open PySem.AutoSeq1 (wpAny_loadPart')
open PySem.MeetsSeq PySem.MeetsSeq2 PySem.MeetsSeq3
end
section
variable {prog : Program} {w : World} {A : Around} {E : Value → Shared → Prop} {s : Shared}
theorem vt {t b : Addr} {vs ws : List Value} {Q : Value → Shared → Prop} (ht : IsTup s.heap t vs.toArray) (hb : IsTup s.heap b ws.toArray) (hv : vs ≠ [])
   (h1 : ws = [] → Q (.ref t) s) (h2 : ws ≠ [] → Q (.ref s.heap.objs.size) { s with heap := s.heap.push { cls := .type "tuple", data := .seq (vs ++ ws).toArray } })
   (hsz : vs.length + ws.length ≤ sizeLine) : wpAny (model prog w) A (binaryOp .Add (.ref t) (.ref b)) Q E s := by
 obtain ⟨⟨cls, dd, data, sl⟩, ho, hc, n, hd⟩ := id ht
 obtain ⟨⟨cls2, dd2, data2, sl2⟩, ho2, hc2, n2, hd2⟩ := id hb
 simp only at hc hd hc2 hd2
 subst hc hd hc2 hd2
 have e : vs.toArray ++ ws.toArray = (vs ++ ws).toArray := by simp
 by_cases hw : ws = []
 · exact concat_meets ⟨_, ho, rfl⟩ ⟨_, ho2, rfl⟩ noFill_tuple_add seq_tuple_add PySem.F.slot_tuple_add PySem.F.entry_tuple_add (PySem.F.args_tuple_add_2 _ _)
    (tuple_addW1 t b vs.toArray ws.toArray n n2 dd dd2 sl sl2 (by simpa using hv) (by simp [hw])) ⟨ho, ho2, h1 hw⟩
 · refine concat_meets ⟨_, ho, rfl⟩ ⟨_, ho2, rfl⟩ noFill_tuple_add seq_tuple_add PySem.F.slot_tuple_add PySem.F.entry_tuple_add (PySem.F.args_tuple_add_2 _ _)
    (tuple_addW2 t b vs.toArray ws.toArray n n2 dd dd2 sl sl2 (by simpa using hv) (by simpa using hw) (by rw [List.size_toArray, List.size_toArray]; exact hsz)) ⟨ho, ho2, ?_⟩
   rw [e]
   exact h2 hw
def sIx (n d : Nat) : Option Int → Nat
 | none => d
 | some v => if v < 0 then (v + (n : Int)).toNat else min v.toNat n
theorem lC (n d : Nat) : sIx n d none = d := rfl
theorem eX (n d k : Nat) : sIx n d (some (k : Int)) = min k n := by
 show (if (k : Int) < 0 then ((k : Int) + (n : Int)).toNat else min (k : Int).toNat n) = min k n
 rw [if_neg (by omega), Int.toNat_natCast]
theorem wm (n d : Nat) (hd : d ≤ n) (o : Option Int) : sIx n d o ≤ n := by
  cases o with
  | none => exact hd
  | some v =>
    show (if v < 0 then (v + (n : Int)).toNat else min v.toNat n) ≤ n
    by_cases hv : v < 0
    · rw [if_pos hv]; omega
    · rw [if_neg hv]; exact Nat.min_le_right _ _
theorem mB (v : Int) (n d : Nat) : (if v < 0 then max (v + (n : Int)) 0 else min v (n : Int)) = ((sIx n d (some v) : Nat) : Int) := by
 show (if v < 0 then max (v + (n : Int)) 0 else min v (n : Int)) = (((if v < 0 then (v + (n : Int)).toNat else min v.toNat n) : Nat) : Int)
 by_cases hv : v < 0
 · simp only [if_pos hv]; omega
 · simp only [if_neg hv]; omega
theorem oA (lo hi : Option Int) (n : Nat) : Builtin.Slice.sliceAdjust lo hi 1 (n : Int) = (((sIx n 0 lo : Nat) : Int), ((sIx n n hi : Nat) : Int)) := by
 have h1 : ¬ ((1 : Int) < 0) := by omega
 unfold Builtin.Slice.sliceAdjust
 simp only [h1, if_false]
 refine Prod.ext ?_ ?_
 · cases lo with
   | none => rfl
   | some v => exact mB v n 0
 · cases hi with
   | none => rfl
   | some v => exact mB v n n
theorem oh (i j : Nat) : Builtin.Slice.slicePlaces (i : Int) (j : Int) 1 = j - i := by
 unfold Builtin.Slice.slicePlaces
 have h1 : (1 : Int) > 0 := by omega
 simp only [h1, if_true, Int.ediv_one]
 split <;> omega
theorem jf {v : Value} {o : Option Int} {Q : Option Int → Shared → Prop} (p : IsPart v o) (h : Q o s) : wpAny (model prog w) A (Builtin.Slice.slicePartIndex v) Q E s := by
 cases p with
 | none => exact slicePart_none h
 | int i t => exact slicePart_int h
theorem fq {sl : Addr} {vl vu : Value} {lo hi : Option Int} {n : Nat} {Q : Int × Int × Nat → Shared → Prop} (hs : s.heap.IsSliceOf sl vl vu .none) (pl : IsPart vl lo) (pu : IsPart vu hi)
  (h : Q (((sIx n 0 lo : Nat) : Int), 1, sIx n n hi - sIx n 0 lo) s) : wpAny (model prog w) A (Builtin.Slice.sliceApplied (.ref sl) (pure (n : Int))) Q E s := by
 obtain ⟨os, hos, hcs, hds⟩ := id hs
 unfold Builtin.Slice.sliceApplied Builtin.Slice.sliceFields
 refine wpAny_bind (wpAny_bind (wpAny_field hos hds (x := vl) rfl (wpAny_bind (wpAny_field hos hds (x := vu) rfl (wpAny_bind (wpAny_field hos hds (x := .none) rfl (wpAny_pure ?_)))))))
 refine wpAny_bind (slicePart_none ?_)
 show wpAny _ _ (if ((1 : Int) == 0) = true then _ else _) _ _ s
 rw [if_neg (by decide)]
 refine wpAny_bind (jf pl (wpAny_bind (jf pu (wpAny_bind (wpAny_pure ?_)))))
 show wpAny _ _ (match Builtin.Slice.sliceAdjust lo hi 1 (n : Int) with | (lo, hi) => pure (lo, (1 : Int), Builtin.Slice.slicePlaces lo hi 1)) _ _ s
 rw [oA lo hi n]
 show wpAny _ _ (pure (((sIx n 0 lo : Nat) : Int), (1 : Int), Builtin.Slice.slicePlaces ((sIx n 0 lo : Nat) : Int) ((sIx n n hi : Nat) : Int) 1)) _ _ s
 rw [oh]
 exact wpAny_pure h
theorem sd (xs : Array Value) (i k : Nat) : ((List.range k).filterMap fun (m : Nat) => xs[((i : Int) + (m : Int) * 1).toNat]?).toArray = ((xs.toList.drop i).take k).toArray := by
 have e : (fun (m : Nat) => xs[((i : Int) + (m : Int) * 1).toNat]?) = fun m => xs[i + m]? := by
  funext m
  have : ((i : Int) + (m : Int) * 1).toNat = i + m := by omega
  rw [this]
 rw [e]
 have := pick_run xs i k
 rw [List.filterMap_map] at this
 have e2 : ((fun x => xs[x]?) ∘ fun x => i + x) = fun m => xs[i + m]? := rfl
 rw [e2] at this
 rw [this]
theorem ij {t sl : Addr} {items : Array Value} {vl vu : Value} {lo hi : Option Int} {Q : Value → Shared → Prop} (ht : IsTup s.heap t items) (hs : s.heap.IsSliceOf sl vl vu .none) (pl : IsPart vl lo) (pu : IsPart vu hi)
  (hw : ¬ (sIx items.size 0 lo = 0 ∧ sIx items.size items.size hi = items.size))
  (h : Q (.ref s.heap.objs.size) { s with heap := s.heap.push { cls := .type "tuple", data := .seq ((items.toList.drop (sIx items.size 0 lo)).take (sIx items.size items.size hi - sIx items.size 0 lo)).toArray } })
  (hsz : items.size ≤ sizeLine) : wpAny (model prog w) A (getItem (.ref t) (.ref sl)) Q E s := by
 have htake : sizeOk (.seq ((items.toList.drop (sIx items.size 0 lo)).take (sIx items.size items.size hi - sIx items.size 0 lo)).toArray) := by
  show ((items.toList.drop (sIx items.size 0 lo)).take (sIx items.size items.size hi - sIx items.size 0 lo)).toArray.size ≤ sizeLine
  rw [List.size_toArray, List.length_take, List.length_drop, Array.length_toList]
  omega
 have hj : sIx items.size items.size hi ≤ items.size := wm _ _ (Nat.le_refl _) hi
 obtain ⟨os, hos, hcs, hds⟩ := id hs
 have hTs : s.TypeIs (.ref sl) "slice" := ⟨os, hos, hcs⟩
 unfold getItem
 try with_reducible refine wpAny_holding ?_
 first | refine wpAny_bind (wpAny_pure ?_) | skip
 refine wpAny_bind (wpAny_sequenceKey ht.typeIs (by decide) ?_)
 refine wpAny_bind (wpAny_callSpecial?_slot (name := Str.ofString "__getitem__") ht.typeIs PyProof.Rows.slot_tuple_getitem
  (wpAny_call_entry PyProof.Rows.slot_tuple_getitem ht.typeIs entry_tuple_getitem ?_ (args_tuple_getitem _ _)))
 show wpAny _ _ (Builtin.Tuple.tupleItemsOf (.ref t) >>= _) _ _ s
 refine wpAny_bind (tupleItemsOf_ ht ?_)
 refine wpAny_bind (wpAny_typeOf hTs ?_)
 rw [if_pos (by decide)]
 refine wpAny_bind (fq hs pl pu ?_)
 have hno : ¬ ((((sIx items.size 0 lo : Nat) : Int) == 0 && (1 : Int) == 1 && (sIx items.size items.size hi - sIx items.size 0 lo) == items.size) = true) := by
  intro q
  rw [Bool.and_eq_true, Bool.and_eq_true] at q
  have q1 : ((sIx items.size 0 lo : Nat) : Int) = 0 := eq_of_beq q.1.1
  have q2 : sIx items.size items.size hi - sIx items.size 0 lo = items.size := eq_of_beq q.2
  exact hw ⟨by omega, by omega⟩
 show wpAny _ _ (if (((sIx items.size 0 lo : Nat) : Int) == 0 && (1 : Int) == 1 && (sIx items.size items.size hi - sIx items.size 0 lo) == items.size) = true then _ else _) _ _ s
 rw [if_neg hno, sd]
 first
  | exact wpAny_bind (m := Builtin.Tuple.tupleExact _) (wpAny_newObj_type (wpAny_pure ⟨_, rfl, wpAny_pure h⟩) htake)
  | exact wpAny_bind (m := Builtin.Tuple.tupleExact _) (wpAny_newObj_type (wpAny_bind (wpAny_pure (wpAny_pure ⟨_, rfl, wpAny_pure h⟩))) htake)
  | exact wpAny_bind (wpAny_bind (m := Builtin.Tuple.tupleExact _) (wpAny_newObj_type (wpAny_pure (wpAny_pure ⟨_, rfl, wpAny_pure h⟩)) htake))
  | exact wpAny_bind (wpAny_bind (m := Builtin.Tuple.tupleExact _) (wpAny_newObj_type (wpAny_pure ⟨_, rfl, wpAny_pure h⟩) htake))
end
end HT
namespace L2
open PySem PySem.Spec PyProof.Rows
abbrev TO := St → Hp → (Option Int → Hp → Prop) → Prop
def PO (X : Cx) (e : Option Expr) (t : TO) : Prop :=
 ∀ (pins : List (Addr × Obj)) (s : Shared) (σ : St) (H : Hp) (Q : Option Int → Hp → Prop), Inv X pins σ H s → t σ H Q →
  wpAny (model X.prog X.w) X.A (evalPart e X.env) (fun u s' => ∃ o H', Inv X pins σ H' s' ∧ IsPart u o ∧ Q o H') X.xe s
def bv : TO := fun _ H Q => Q none H
def bD (t : TE) : TO := fun σ H Q => t σ H fun x H1 => ∃ i, x = .int i ∧ Q (some i) H1
section
variable {X : Cx} {e : Expr} {te : TE} {lo hi : Option Expr} {tl th : TO} {pos p2 : Pos}
theorem vm : PO X none bv := by
 intro pins s σ H Q I h
 rw [evalPart_none]
 exact wpAny_pure ⟨none, H, I, .none, h⟩
theorem uL (h : PE X e te) : PO X (some e) (bD te) := by
 intro pins s σ H Q I hw
 rw [evalPart_some]
 refine thn (h pins s σ H _ I hw) fun u s1 ⟨x, H1, I1, r1, q1⟩ => ?_
 obtain ⟨i, rfl, q⟩ := q1
 obtain ⟨t, rfl⟩ := r1
 exact ⟨some i, H1, I1, .int i t, q⟩
def SlR (X : Cx) (r : V → Option Int → Option Int → Hp → VK → Prop) : Prop :=
 ∀ (pins : List (Addr × Obj)) (s : Shared) (σ : St) (H : Hp) (x : V) (v vl vu : Value) (lo hi : Option Int) (sl : Addr) (Q : VK), Inv X pins σ H s → aC x v → s.heap.IsSliceOf sl vl vu .none → IsPart vl lo → IsPart vu hi → r x lo hi H Q →
  ∃ T id, typeLookup (.type T) "__getitem__" = pure (some (.builtin id)) ∧ s.TypeIs v T ∧ wpAny (model X.prog X.w) X.A (getItem v (.ref sl)) (EP X pins σ Q) X.xe s
theorem SlR.or {r r' : V → Option Int → Option Int → Hp → VK → Prop} (h : SlR X r) (h' : SlR X r') : SlR X (fun x lo hi H Q => r x lo hi H Q ∨ r' x lo hi H Q) := by
 intro pins s σ H x v vl vu lo hi sl Q I rx hs pl pu q
 rcases q with q | q
 · exact h pins s σ H x v vl vu lo hi sl Q I rx hs pl pu q
 · exact h' pins s σ H x v vl vu lo hi sl Q I rx hs pl pu q
def tSl (r : V → Option Int → Option Int → Hp → VK → Prop) (te : TE) (tl th : TO) : TE := fun σ H Q => te σ H fun x H1 => tl σ H1 fun l H2 => th σ H2 fun u H3 => r x l u H3 Q
theorem sP {r : V → Option Int → Option Int → Hp → VK → Prop} (hr : SlR X r) (he : PE X e te) (hl : PO X lo tl) (hu : PO X hi th) : PE X (.Subscript e (.Slice lo hi none p2) pos) (tSl r te tl th) := by
 intro pins s σ H Q I h
 refine Subscript_ (thn (he pins s σ H _ I h) fun v s1 ⟨x, H1, I1, r1, q1⟩ => ?_)
 refine wpAny_Slice (thn (hl pins s1 σ H1 _ I1 q1) fun vl s2 ⟨l, H2, I2, pl, q2⟩ => thn (hu pins s2 σ H2 _ I2 q2) fun vu s3 ⟨u, H3, I3, pu, q3⟩ => ?_)
 rw [evalPart_none]
 refine wpAny_pure ?_
 have I4 : Inv X pins σ H3 { s3 with heap := s3.heap.push { cls := .type "slice", data := .fields #[vl, vu, .none] } } := I3.kept (t' := s3.toks) fun b ob q => Heap.get?_push_of_some _ q
 obtain ⟨T, id, hT, ht, hg⟩ := hr pins { s3 with heap := s3.heap.push { cls := .type "slice", data := .fields #[vl, vu, .none] } } σ H3 x v vl vu l u s3.heap.objs.size Q I4 r1 (Heap.IsSliceOf.new ..) pl pu q3
 show wpAny (model X.prog X.w) X.A (subscriptTail e (.Slice lo hi none p2) v (.ref s3.heap.objs.size)) (EP X pins σ Q) X.xe { s3 with heap := s3.heap.push { cls := .type "slice", data := .fields #[vl, vu, .none] } }
 exact tail_any (ops := [.ref s3.heap.objs.size, v]) ht hT hg (by with_unfolding_all rfl)
def df (xs : List V) (lo hi : Option Int) : List V := (xs.drop (HT.sIx xs.length 0 lo)).take (HT.sIx xs.length xs.length hi - HT.sIx xs.length 0 lo)
theorem im (xs : List V) (lo hi : Option Int) : (df xs lo hi).length ≤ xs.length := by
 unfold df
 rw [List.length_take, List.length_drop]
 omega
def BU (K : W.Frag) : V → Option Int → Option Int → Hp → VK → Prop := fun x lo hi H Q => ∃ a xs, x = .ref a ∧ SqT K H a xs ∧
 ¬ (HT.sIx xs.length 0 lo = 0 ∧ HT.sIx xs.length xs.length hi = xs.length) ∧ ∀ p, H p = none → Q (.ref p) (upd H p (.tup (df xs lo hi)))
theorem yk : SlR X (BU X.K) := by
 intro pins s σ H x v vl vu lo hi sl Q I rx hs pl pu h
 obtain ⟨a, xs, rfl, hx, hw, q⟩ := h
 cases rx
 obtain ⟨its, r, ht, hz⟩ := I.tuple hx
 have hlen : its.toArray.size = xs.length := by rw [List.size_toArray]; exact r.length.symm
 refine ⟨"tuple", _, PyProof.Rows.slot_tuple_getitem.lookup, ht.typeIs, ?_⟩
 refine HT.ij ht hs pl pu (by rw [hlen]; exact hw) ?_ (by rw [hlen]; exact hz)
 rw [hlen]
 refine ⟨.ref s.heap.objs.size, _, I.laid (t' := s.toks) (o := .tup (df xs lo hi)) (fun b ob q => Heap.get?_push_of_some _ q) (Nat.le_refl _) ?_, rfl, q _ (I.hok.fresh (Nat.le_refl _))⟩
 exact ⟨Nat.le_trans (im xs lo hi) hz, _, (r.drop (HT.sIx xs.length 0 lo)).take (HT.sIx xs.length xs.length hi - HT.sIx xs.length 0 lo), IsTup.new _ _⟩
def zR (K : W.Frag) : R2 := fun x y H Q => ∃ a b xs ys, x = .ref a ∧ y = .ref b ∧ SqT K H a xs ∧ SqT K H b ys ∧ xs ≠ [] ∧ xs.length + ys.length ≤ sizeLine ∧
 (ys = [] → Q (.ref a) H) ∧ (ys ≠ [] → ∀ p, H p = none → Q (.ref p) (upd H p (.tup (xs ++ ys))))
theorem ax.nil_iff {xs : List V} {us : List Value} (r : ax xs us) : us = [] ↔ xs = [] := by
 cases r with
 | nil => simp
 | cons _ _ => simp
theorem ve : OpR X (binaryOp .Add) (zR X.K) := by
 intro pins s σ H x y v u Q I rx ry h
 obtain ⟨a, b, xs, ys, rfl, rfl, ha, hb, hx, hz, q1, q2⟩ := h
 cases rx
 cases ry
 obtain ⟨its, r1, p1, _⟩ := I.tuple ha
 obtain ⟨its2, r2, p2, _⟩ := I.tuple hb
 refine HT.vt p1 p2 (fun z => hx (r1.nil_iff.mp z)) (fun z => ⟨.ref a, H, I, rfl, q1 (r2.nil_iff.mp z)⟩) (fun z => ?_) (by rw [← r1.length, ← r2.length]; exact hz)
 refine ⟨.ref s.heap.objs.size, _, I.laid (t' := s.toks) (o := .tup (xs ++ ys)) (fun b ob q => Heap.get?_push_of_some _ q) (Nat.le_refl _) ?_, rfl, q2 (fun w => z (r2.nil_iff.mpr w)) _ (I.hok.fresh (Nat.le_refl _))⟩
 exact ⟨by rw [List.length_append]; exact hz, _, r1.append r2, IsTup.new _ _⟩
end
end L2
namespace L2
open PySem PySem.Spec PyProof.Rows
def ixN (n : Nat) (i : Int) : Option Nat := if 0 ≤ i then (if i < n then some i.toNat else none) else if -(n : Int) ≤ i then some (i + n).toNat else none
def atI {α : Type} (xs : List α) (i : Int) : Option α := (ixN xs.length i).bind fun j => xs[j]?
theorem mK {n : Nat} {i : Int} {j : Nat} (h : ixN n i = some j) : seqIndex? i n = some j ∧ j < n ∧ -(n : Int) ≤ i ∧ i < n := by
 unfold ixN at h
 by_cases h0 : 0 ≤ i
 · rw [if_pos h0] at h
   by_cases h1 : i < n
   · rw [if_pos h1] at h
     have e : i.toNat = j := Option.some.inj h
     exact ⟨by rw [seqIndex_of h0 h1, e], by omega, by omega, h1⟩
   · rw [if_neg h1] at h; cases h
 · rw [if_neg h0] at h
   by_cases h1 : -(n : Int) ≤ i
   · rw [if_pos h1] at h
     have e : (i + n).toNat = j := Option.some.inj h
     exact ⟨by rw [seqIndex_neg (by omega) h1, e], by omega, h1, by omega⟩
   · rw [if_neg h1] at h; cases h
theorem ib {α : Type} {xs : List α} {i : Int} {v : α} (h : atI xs i = some v) : ∃ j, seqIndex? i xs.length = some j ∧ xs[j]? = some v ∧ j < xs.length ∧ -(xs.length : Int) ≤ i ∧ i < xs.length := by
  unfold atI at h
  cases e : ixN xs.length i with
  | none => rw [e] at h; cases h
  | some j =>
    rw [e] at h
    obtain ⟨h1, h2, h3, h4⟩ := mK e
    exact ⟨j, h1, h, h2, h3, h4⟩
theorem tU {α : Type} (xs : List α) (v : α) : atI (xs ++ [v]) (-1) = some v := by
 have hl : (xs ++ [v]).length = xs.length + 1 := by simp
 have e : ixN (xs ++ [v]).length (-1) = some xs.length := by
  unfold ixN
  rw [hl, if_neg (by decide), if_pos (by omega)]
  congr 1
  omega
 unfold atI
 rw [e]
 show (xs ++ [v])[xs.length]? = some v
 simp
def mC (b : Expr) : Prop := ∀ o i, subscripted b false o i = operate [o, i] (getItem o i)
def IxR (X : Cx) (r : R2) : Prop :=
 ∀ (value slice : Expr) (pins : List (Addr × Obj)) (s : Shared) (σ : St) (H : Hp) (x y : V) (v u : Value) (Q : VK), Inv X pins σ H s → aC x v → aC y u → r x y H Q →
  subscripted slice false v u = operate [v, u] (getItem v u) → wpAny (model X.prog X.w) X.A (subscriptTail value slice v u) (EP X pins σ Q) X.xe s
def MtR (X : Cx) (id : String) (r : V → List V → Hp → VK → Prop) : Prop :=
 ∀ (pins : List (Addr × Obj)) (s : Shared) (σ : St) (H : Hp) (x : V) (xs : List V) (v : Value) (us : List Value) (Q : VK), Inv X pins σ H s → aC x v → ax xs us → r x xs H Q →
  wpAny (model X.prog X.w) X.A (call (.builtin id) (v :: us)) (EP X pins σ Q) X.xe s
section
variable {X : Cx} {a b : Expr} {ta tb : TE} {pos : Pos}
theorem IxR.or {r r' : R2} (h : IxR X r) (h' : IxR X r') : IxR X (fun x y H Q => r x y H Q ∨ r' x y H Q) := by
 intro value slice pins s σ H x y v u Q I rx ry q hs
 rcases q with q | q
 · exact h value slice pins s σ H x y v u Q I rx ry q hs
 · exact h' value slice pins s σ H x y v u Q I rx ry q hs
theorem zM {r : R2} (hr : IxR X r) (ha : PE X a ta) (hb : PE X b tb) (hs : mC b) : PE X (.Subscript a b pos) (tOp r ta tb) := by
 intro pins s σ H Q I h
 exact Subscript_ (sC ha hb I h fun v u s2 x y H2 I2 rx ry q => hr a b pins s2 σ H2 x y v u Q I2 rx ry q (hs _ _))
def xE (K : W.Frag) : R2 := fun x y H Q => ∃ p xs i v, x = .ref p ∧ y = .int i ∧ SqL K H p xs ∧ atI xs i = some v ∧ Q v H
def yd (K : W.Frag) : R2 := fun x y H Q => ∃ p xs i v, x = .ref p ∧ y = .int i ∧ SqT K H p xs ∧ atI xs i = some v ∧ Q v H
def xf : R2 := fun x y H Q => ∃ z i c, x = .str z ∧ y = .int i ∧ z.length ≤ sizeLine ∧ atI z.cps.toList i = some c ∧ Q (.str ⟨#[c]⟩) H
theorem uE : IxR X (xE X.K) := by
 intro value slice pins s σ H x y v u Q I rx ry h hs
 obtain ⟨p, xs, i, z, rfl, rfl, hq, he, q⟩ := h
 cases rx
 obtain ⟨t, rfl⟩ := ry
 obtain ⟨its, r, pl, hz⟩ := I.list hq
 obtain ⟨j, h1, h2, h3, h4, h5⟩ := ib he
 obtain ⟨w, ew, rw'⟩ := r.get h2
 have hl := r.length
 have hn := fY
 have fin : EP X pins σ Q w s := ⟨z, H, I, rw', q⟩
 by_cases h0 : 0 ≤ i
 · have hj : i.toNat = j := by
    rw [seqIndex_of h0 h5] at h1
    exact Option.some.inj h1
   exact item_listR pl.isList h0 (by omega) (by rw [hj]; simpa using ew) fin hs
 · have hj : (i + (its.toArray.size : Int)).toNat = j := by
    rw [seqIndex_neg (by omega) h4] at h1
    rw [List.size_toArray, ← hl]
    exact Option.some.inj h1
   exact subscriptTail_builtinR (x := w) pl.isList.typeIs slot_list_getitem.lookup
    (wpAny_getItem_list_neg (Q := fun r s' => r = w ∧ EP X pins σ Q r s') pl.isList (by omega) (by rw [List.size_toArray] <;> omega) (by omega) (by rw [hj]; simpa using ew) ⟨rfl, fin⟩) hs
theorem xT : IxR X (yd X.K) := by
 intro value slice pins s σ H x y v u Q I rx ry h hs
 obtain ⟨p, xs, i, z, rfl, rfl, hq, he, q⟩ := h
 cases rx
 obtain ⟨t, rfl⟩ := ry
 obtain ⟨its, r, pl, hz⟩ := I.tuple hq
 obtain ⟨j, h1, h2, h3, h4, h5⟩ := ib he
 obtain ⟨w, ew, rw'⟩ := r.get h2
 have hl := r.length
 have hn := fY
 have fin : EP X pins σ Q w s := ⟨z, H, I, rw', q⟩
 exact subscriptTail_builtinR (x := w) pl.typeIs slot_tuple_getitem.lookup
  (getItem_tuple (j := j) (Q := fun r s' => r = w ∧ EP X pins σ Q r s') pl (by omega) (by omega) (by rw [List.size_toArray, ← hl]; exact h1) (by simpa using ew) ⟨rfl, fin⟩) hs
theorem vP : IxR X xf := by
 intro value slice pins s σ H x y v u Q I rx ry h hs
 obtain ⟨z, i, c, rfl, rfl, hz, he, q⟩ := h
 obtain ⟨t, rfl⟩ := rx
 obtain ⟨t', rfl⟩ := ry
 obtain ⟨j, h1, h2, h3, h4, h5⟩ := ib he
 have hl : z.cps.toList.length = z.length := by simp [Str.length]
 rw [hl] at h1 h4 h5
 have hn := fY
 exact tail_any (typeIs_str s z t) slot_str_getitem.lookup (getItem_str (c := c) (by
  have e1 : decide (i < -(2 ^ 63 : Int)) = false := decide_eq_false (by omega)
  have e2 : decide (i ≥ 2 ^ 63) = false := decide_eq_false (by omega)
  rw [e1, e2, Bool.or_false]) (by rw [h1]; simpa using h2) ⟨.str ⟨#[c]⟩, H, I.tok _, ⟨_, rfl⟩, q⟩) hs
def rIx (K : W.Frag) : R2 := fun x y H Q => xE K x y H Q ∨ yd K x y H Q ∨ xf x y H Q
theorem yf : IxR X (rIx X.K) := uE.or (xT.or vP)
theorem oQ (its : List Value) (n j : Nat) (u : Value) : Obj.mapSeq (·.setIfInBounds j u) { cls := .type "list", data := .seq its.toArray n } = { cls := .type "list", data := .seq (its.set j u).toArray n } := by
 simp [Obj.mapSeq]
theorem Inv.lst {pins : List (Addr × Obj)} {σ : St} {H : Hp} {s : Shared} {p : Addr} {xs : List V} (I : Inv X pins σ H s) (h : H p = some (.lst xs)) :
  ∃ (its : List Value) (n : Nat), ax xs its ∧ s.heap.get? p = some { cls := .type "list", data := .seq its.toArray n } ∧ xs.length ≤ sizeLine := by
 obtain ⟨z, its, n, r, e⟩ := I.hok p _ h
 exact ⟨its, n, r, e, z⟩
theorem Inv.lstUpd {pins : List (Addr × Obj)} {σ : St} {H : Hp} {s : Shared} {p : Addr} {xs ys : List V} {its its' : List Value} {n n' : Nat} {f : Obj → Obj} (I : Inv X pins σ H s) (h : H p = some (.lst xs))
  (ho : s.heap.get? p = some { cls := .type "list", data := .seq its.toArray n }) (hf : f { cls := .type "list", data := .seq its.toArray n } = { cls := .type "list", data := .seq its'.toArray n' }) (r : ax ys its') (hz : ys.length ≤ sizeLine) (t : Nat) :
  Inv X pins σ (upd H p (.lst ys)) { s with heap := s.heap.update p f, toks := t } := by
 have e : (s.heap.update p f).get? p = some { cls := .type "list", data := .seq its'.toArray n' } := by
  rw [Heap.get?_update_self f ho (by rw [hf] <;> rfl), hf]
 refine I.write (x := p) (e := p) (by rw [h]; trivial) (.inl rfl) (fun b u hb q => (Heap.get?_update_other _ _ (Ne.symm hb)).trans q) ⟨_, e⟩ ?_
 exact ⟨hz, its', n', r, e⟩
def um : V → V → V → Hp → (Hp → Prop) → Prop := fun o i v H Q => ∃ p xs k j, o = .ref p ∧ i = .int k ∧ H p = some (.lst xs) ∧ ixN xs.length k = some j ∧ Q (upd H p (.lst (xs.set j v)))
theorem tO : nN X um := by
 intro pins s σ H o i v ov iv u Q I ro ri rv h
 obtain ⟨p, xs, k, j, rfl, rfl, hp, hj, q⟩ := h
 cases ro
 obtain ⟨t, rfl⟩ := ri
 obtain ⟨its, n, r, ho, hz⟩ := I.lst hp
 obtain ⟨h1, h2, h3, h4⟩ := mK hj
 have hl := r.length
 have hn := fY
 have I' : Inv X pins σ (upd H p (.lst (xs.set j v))) { s with heap := s.heap.update p (Obj.mapSeq (·.setIfInBounds j u)) } :=
   I.lstUpd hp ho (oQ its n j u) (r.set rv j) (by rw [List.length_set]; exact hz) s.toks
 by_cases h0 : 0 ≤ k
 · have hk : k.toNat = j := by
    rw [seqIndex_of h0 h4] at h1
    exact Option.some.inj h1
   exact W.ki_setAt ho h0 (by omega) (by rw [List.size_toArray, ← hl]; exact h4) (by rw [hk]; exact ⟨_, I', q⟩)
 · have hk : (k + (its.toArray.size : Int)).toNat = j := by
    rw [seqIndex_neg (by omega) h3] at h1
    rw [List.size_toArray, ← hl]
    exact Option.some.inj h1
   exact W.ki_setBack ho (by omega) (by rw [List.size_toArray, ← hl]; exact h3) (by omega) (by rw [hk]; exact ⟨_, I', q⟩)
theorem lU (lo hi : Option Int) (n : Nat) : (sliceBounds lo hi none n).1 = ((HT.sIx n 0 lo : Nat) : Int) ∧ (sliceBounds lo hi none n).2.1 = ((HT.sIx n n hi : Nat) : Int) ∧ (sliceBounds lo hi none n).2.2 = 1 := by
  refine ⟨?_, ?_, rfl⟩
  · cases lo with
    | none => simp [sliceBounds, HT.sIx]
    | some i =>
      simp only [sliceBounds, HT.sIx, Option.getD_none, show (1 : Int) > 0 by decide, if_true]
      by_cases h : i < 0
      · simp only [h, if_true] <;> omega
      · simp only [h, if_false] <;> omega
  · cases hi with
    | none => simp [sliceBounds, HT.sIx]
    | some i =>
      simp only [sliceBounds, HT.sIx, Option.getD_none, show (1 : Int) > 0 by decide, if_true]
      by_cases h : i < 0
      · simp only [h, if_true] <;> omega
      · simp only [h, if_false] <;> omega
theorem km (its : List Value) (lo hi : Option Int) : slicePick its.toArray lo hi none = ((its.drop (HT.sIx its.length 0 lo)).take (HT.sIx its.length its.length hi - HT.sIx its.length 0 lo)).toArray := by
 obtain ⟨h1, h2, h3⟩ := lU lo hi its.toArray.size
 unfold slicePick
 rw [h1, h2, h3]
 simp only [sliceRange_one, pick_run, List.size_toArray] <;> rfl
def yb (K : W.Frag) : V → Option Int → Option Int → Hp → VK → Prop := fun x lo hi H Q => ∃ a xs, x = .ref a ∧ SqL K H a xs ∧ ∀ p, H p = none → Q (.ref p) (upd H p (.lst (df xs lo hi)))
theorem vi : SlR X (yb X.K) := by
 intro pins s σ H x v vl vu lo hi sl Q I rx hs pl pu h
 obtain ⟨a, xs, rfl, hx, q⟩ := h
 cases rx
 obtain ⟨its, r, ht, hz⟩ := I.list hx
 have hlen := r.length
 refine ⟨"list", _, slot_list_getitem.lookup, ht.isList.typeIs, ?_⟩
 refine wpAny_getItem_list_slice ht.isList hs pl pu .none (by simp) ?_ (by rw [List.size_toArray] <;> omega)
 rw [km, ← hlen]
 refine ⟨.ref s.heap.objs.size, _, I.laid (t' := s.toks) (o := .lst (df xs lo hi)) (fun b ob q => Heap.get?_push_of_some _ q) (Nat.le_refl _) ?_, rfl, q _ (I.hok.fresh (Nat.le_refl _))⟩
 exact ⟨Nat.le_trans (im xs lo hi) hz, _, 0, (r.drop (HT.sIx xs.length 0 lo)).take (HT.sIx xs.length xs.length hi - HT.sIx xs.length 0 lo), Heap.get?_push_size _ rfl⟩
theorem bB.or {f : Value} {r r' : List V → Hp → VK → Prop} (h : bB X f r) (h' : bB X f r') : bB X f (fun xs H Q => r xs H Q ∨ r' xs H Q) := by
 intro pins s σ H xs us Q I rs q
 rcases q with q | q
 · exact h pins s σ H xs us Q I rs q
 · exact h' pins s σ H xs us Q I rs q
theorem lB : bB X (.type "list") (fun xs H Q => ∃ p ys, xs = [.ref p] ∧ (SqL X.K H p ys ∨ SqT X.K H p ys) ∧ ∀ l, H l = none → Q (.ref l) (upd H l (.lst ys))) := by
 intro pins s σ H xs us Q I r h
 obtain ⟨p, ys, rfl, hq, q⟩ := h
 obtain ⟨u, rfl, rx⟩ := fA r
 cases rx
 have fin : ∀ (its : List Value), ax ys its → ys.length ≤ sizeLine → ∀ (h' : Heap) (c' : Nat), (∀ b o', s.heap.get? b = some o' → h'.get? b = some o') →
    h'.get? s.heap.objs.size = some { cls := .type "list", dict := none, data := .seq its.toArray c', slots := #[] } → EP X pins σ Q (.ref s.heap.objs.size) { s with heap := h' } := fun its r' hz h' c' kp e =>
   ⟨.ref s.heap.objs.size, _, I.laid (t' := s.toks) kp (Nat.le_refl _) (show aM X.prog X.w _ h' _ (.lst ys) from ⟨hz, its, c', r', e⟩), rfl, q _ (I.hok.fresh (Nat.le_refl _))⟩
 rcases hq with hq | hq
 · obtain ⟨its, r', pl, hz⟩ := I.list hq
   have hlen := r'.length
   obtain ⟨o, ho, hc, n, hd⟩ := pl.isList
   exact call_list_seq p (.inl rfl) ho hc hd (fun h' c' kp e => fin its r' hz h' c' kp e) (by simp only [List.size_toArray] <;> omega)
 · obtain ⟨its, r', pl, hz⟩ := I.tuple hq
   have hlen := r'.length
   obtain ⟨o, ho, hc, n, hd⟩ := pl
   exact call_list_seq p (.inr rfl) ho hc hd (fun h' c' kp e => fin its r' hz h' c' kp e) (by simp only [List.size_toArray] <;> omega)
theorem ko : bB X (.type "tuple") (fun xs H Q => ∃ p ys, xs = [.ref p] ∧ ((SqL X.K H p ys ∧ ∀ l, H l = none → Q (.ref l) (upd H l (.tup ys))) ∨ (SqT X.K H p ys ∧ Q (.ref p) H))) := by
 intro pins s σ H xs us Q I r h
 obtain ⟨p, ys, rfl, h⟩ := h
 obtain ⟨u, rfl, rx⟩ := fA r
 cases rx
 rcases h with ⟨hq, q⟩ | ⟨hq, q⟩
 · obtain ⟨its, r', pl, hz⟩ := I.list hq
   have hlen := r'.length
   refine call_tuple_list pl.isList (fun h' kp => ?_) (by simp only [List.size_toArray] <;> omega)
   have I1 : Inv X pins σ H { s with heap := h' } := I.kept (t' := s.toks) kp
   have I2 : Inv X pins σ (upd H h'.objs.size (.tup ys)) { s with heap := h'.push { cls := .type "tuple", data := .seq its.toArray } } :=
    I1.laid (t' := s.toks) (fun b o e => Heap.get?_push_of_some _ e) (Nat.le_refl _) (show aM X.prog X.w _ _ _ (.tup ys) from ⟨hz, its, r', IsTup.new _ _⟩)
   exact ⟨.ref h'.objs.size, _, I2, rfl, q _ (I1.hok.fresh (Nat.le_refl _))⟩
 · obtain ⟨its, r', pl, hz⟩ := I.tuple hq
   exact call_tuple_same pl ⟨.ref p, H, I, rfl, q⟩
def tyV (K : W.Frag) (T : String) (x : V) (H : Hp) : Prop := match x with
 | .str _ => T = "str"
 | .int _ => T = "int"
 | .ref p => (T = "list" ∧ ∃ xs, SqL K H p xs) ∨ (T = "tuple" ∧ ∃ o, K.lookup p = some o ∧ o.cls = .type "tuple" ∧ o.dict = none) ∨
  (T = "dict" ∧ ((∃ kvs, H p = some (.dK kvs)) ∨ ∃ kvs, H p = some (.dT kvs))) ∨ (T = "set" ∧ ∃ S n, H p = some (.set S n))
 | _ => False
theorem pN {pins : List (Addr × Obj)} {σ : St} {H : Hp} {s : Shared} {T : String} {x : V} {v : Value} (I : Inv X pins σ H s) (r : aC x v) (ty : tyV X.K T x H) :
    s.TypeIs v T ∧ ∀ a, v = .ref a → ∃ ob, s.heap.get? a = some ob ∧ ob.dict = none := by
  cases x with
  | str z =>
    obtain ⟨t, rfl⟩ := r
    cases (show T = "str" from ty)
    exact ⟨typeIs_str s z t, fun _ e => nomatch e⟩
  | int i =>
    obtain ⟨t, rfl⟩ := r
    cases (show T = "int" from ty)
    exact ⟨typeIs_int s i t, fun _ e => nomatch e⟩
  | ref p =>
    cases r
    rcases ty with ⟨rfl, xs, hq⟩ | ⟨rfl, o, hk, hc, hd⟩ | ⟨rfl, hk⟩ | ⟨rfl, S, n, hk⟩
    · obtain ⟨its, _, pl, _⟩ := I.list hq
      refine ⟨pl.isList.typeIs, fun a e => ?_⟩
      cases e
      obtain ⟨o, n, e, c, hd, _⟩ := pl
      exact ⟨o, e, hd⟩
    · refine ⟨⟨o, I.kIn p o hk, hc⟩, fun a e => ?_⟩
      cases e
      exact ⟨o, I.kIn _ o hk, hd⟩
    · have z : ∃ o, s.heap.get? p = some o ∧ o.ExactDict := by
        rcases hk with ⟨kvs, hk⟩ | ⟨kvs, hk⟩
        · obtain ⟨_, _, _, _, o, _, _, e, ex, _⟩ := I.hok p _ hk
          exact ⟨o, e, ex⟩
        · obtain ⟨_, _, _, _, o, _, _, e, ex, _⟩ := I.hok p _ hk
          exact ⟨o, e, ex⟩
      obtain ⟨o, e, ex⟩ := z
      refine ⟨⟨o, e, ex.1⟩, fun a e2 => ?_⟩
      cases e2
      exact ⟨o, e, ex.2.1⟩
    · obtain ⟨o, _, _, _, e, ex, _⟩ := I.hok p _ hk
      refine ⟨⟨o, e, ex.1⟩, fun a e2 => ?_⟩
      cases e2
      exact ⟨o, e, ex.2.1⟩
  | _ => exact False.elim ty
def gt (K : W.Frag) (T : String) (r : V → List V → Hp → VK → Prop) (to : TE) : TE := fun σ H Q => to σ H fun x H1 => tyV K T x H1 ∧ r x [] H1 Q
def tBM (K : W.Frag) (T : String) (r : V → List V → Hp → VK → Prop) (to : TE) (t : TA) : TE := fun σ H Q => to σ H fun x H1 => tyV K T x H1 ∧ t σ H1 fun xs H2 => r x xs H2 Q
variable {o e : Expr} {es : List Expr} {to : TE} {t : TA} {name : Str} {apos cpos : Pos} {T id : String} {r : V → List V → Hp → VK → Prop}
theorem wz (pa : PlainAttrs T) (slot : Slot T name id) (hty : typeOf (.builtin id) = pure (.type "method_descriptor")) (hm : MtR X id r) (ho : PE X o to)
  (hbase : attributeBase o name X.env (eval o X.env) = eval o X.env := by rfl) (hline : (apos.endLine == cpos.line) = true := by rfl) : PE X (.Call (.Attribute o name apos) [] [] cpos) (gt X.K T r to) := by
 intro pins s σ H Q I h
 refine wpAny_Call_method0_late hbase hline (thn (ho pins s σ H _ I h) fun v s1 ⟨x, H1, I1, r1, ty, q1⟩ => ?_)
 obtain ⟨h1, h2⟩ := pN I1 r1 ty
 exact ⟨T, id, pa, slot, hty, h1, h2, Calls.callWith_builtin rfl (PySem.evalArgs_none (hm pins s1 σ H1 x [] v [] Q I1 r1 .nil q1))⟩
theorem AN (pa : PlainAttrs T) (slot : Slot T name id) (hty : typeOf (.builtin id) = pure (.type "method_descriptor")) (hm : MtR X id r) (ho : PE X o to) (ha : PA X (e :: es) t)
  (hbase : attributeBase o name X.env (eval o X.env) = eval o X.env := by rfl)
  (hfew : ((backTo cpos (starEach (e :: es) X.env)).all (fun x => !x.1) && (backToKw cpos (keywordEach [] X.env)).all (fun x => x.1.isSome)
   && decide ((e :: es).length + ([] : List Keyword).length + (if ([] : List Keyword).isEmpty then 0 else 1) < 30)) = true := by rfl)
  (hline : (apos.endLine == cpos.line) = true := by rfl) (hs : starEach (e :: es) X.env = (false, eval e X.env) :: starEach es X.env := by rfl) (hplain : (backTo cpos (starEach es X.env)).any (·.1) = false := by rfl) :
  PE X (.Call (.Attribute o name apos) (e :: es) [] cpos) (tBM X.K T r to t) := by
 intro pins s σ H Q I h
 refine wpAny_Call_method_late hbase hfew hline rfl (thn (ho pins s σ H _ I h) fun v s1 ⟨x, H1, I1, r1, ty, q1⟩ => ?_)
 obtain ⟨h1, h2⟩ := pN I1 r1 ty
 refine ⟨T, id, pa, slot, hty, h1, h2, ?_⟩
 have hA := ha cpos pins s1 σ H1 _ I1 q1
 rw [hs] at hA ⊢
 refine Calls.callWith_builtin (by show (false || (backTo cpos (starEach es X.env)).any (·.1)) = false; rw [hplain] <;> rfl) (Calls.evalArgs_plain ?_)
 exact thn hA fun us s2 ⟨vs, H2, I2, r2, q2⟩ => hm pins s2 σ H2 x vs v us Q I2 r1 r2 q2
end
end L2
namespace L2
open PySem PySem.Spec PyProof.Rows
def MtM (X : Cx) (id : String) (r : V → List V → Hp → VK → Prop) : Prop :=
 ∀ (pins : List (Addr × Obj)) (s : Shared) (σ : St) (H : Hp) (x : V) (xs : List V) (v : Value) (us : List Value) (Q : VK), Inv X pins σ H s → aC x v → ax xs us → r x xs H Q →
  wpAny (model X.prog X.w) X.A (call (.builtin id) (v :: us)) (EP X pins σ Q) X.xe s
theorem ax.one : ∀ {x : V} {us : List Value}, ax [x] us → ∃ u, us = [u] ∧ aC x u
 | _, _, .cons r .nil => ⟨_, rfl, r⟩
theorem ax.zero : ∀ {us : List Value}, ax [] us → us = []
 | _, .nil => rfl
theorem ax.dropLast {xs : List V} {us : List Value} (h : ax xs us) : ax xs.dropLast us.dropLast := by
  induction h with
  | nil => exact .nil
  | cons r t ih =>
    cases t with
    | nil => exact .nil
    | cons q t' => exact .cons r ih
theorem ax.reverse {xs : List V} {us : List Value} (h : ax xs us) : ax xs.reverse us.reverse := by
 induction h with
 | nil => exact .nil
 | cons r t ih => rw [List.reverse_cons, List.reverse_cons]; exact ax.append ih (.cons r .nil)
theorem ax.rep {xs : List V} {us : List Value} (h : ax xs us) : ∀ k : Nat, ax (List.replicate k xs).flatten (List.replicate k us).flatten
  | 0 => .nil
  | k + 1 => by
    rw [List.replicate_succ, List.replicate_succ, List.flatten_cons, List.flatten_cons]
    exact ax.append h (ax.rep h k)
theorem nO {α : Type} (l : List α) : l.eraseIdx (l.length - 1) = l.dropLast := by
  induction l with
  | nil => rfl
  | cons a r ih =>
    cases r with
    | nil => rfl
    | cons b r =>
      have e : (a :: b :: r).length - 1 = ((b :: r).length - 1) + 1 := by
        have h1 : (a :: b :: r).length = r.length + 2 := rfl
        have h2 : (b :: r).length = r.length + 1 := rfl
        omega
      rw [e, List.eraseIdx_cons_succ, ih]
      all_goals rfl
theorem jM (its : List Value) : ∀ (k : Nat) (acc : List Value),
    List.foldl (fun x1 x2 => x1 ++ x2) acc.toArray (List.replicate k its.toArray) = (acc ++ (List.replicate k its).flatten).toArray
  | 0, acc => by simp
  | k + 1, acc => by
    have e : acc.toArray ++ its.toArray = (acc ++ its).toArray := by simp
    have e2 : (acc ++ its) ++ (List.replicate k its).flatten = acc ++ (List.replicate (k + 1) its).flatten := by
      rw [List.replicate_succ, List.flatten_cons, List.append_assoc]
    rw [← e2, ← jM its k (acc ++ its), ← e, List.replicate_succ, List.foldl_cons]
section
variable {X : Cx} {pins : List (Addr × Obj)} {σ : St} {H : Hp} {s : Shared} {l b : Addr} {xs ys zs : List V}
theorem Inv.lset {its its' : List Value} {n : Nat} {f : Array Value → Array Value} {t' : Nat} (I : Inv X pins σ H s) (hH : H l = some (.lst xs))
  (e : s.heap.get? l = some { cls := .type "list", data := .seq its.toArray n }) (hf : f its.toArray = its'.toArray) (hv : ax ys its') (hz : ys.length ≤ sizeLine) :
  Inv X pins σ (upd H l (.lst ys)) { s with heap := s.heap.update l (Obj.mapSeq f), toks := t' } := by
 have q := PySem.IsL.update e f
 rw [hf] at q
 refine I.write (x := l) (e := l) (by rw [hH]; exact trivial) (.inl rfl) (fun b' u hb hu => (Heap.get?_update_other s.heap (Obj.mapSeq f) (Ne.symm hb)).trans hu) ⟨_, q⟩ ?_
 exact ⟨hz, its', _, hv, q⟩
theorem Inv.lnew {its : List Value} {t' : Nat} (I : Inv X pins σ H s) (hv : ax ys its) (hz : ys.length ≤ sizeLine) :
  Inv X pins σ (upd H s.heap.objs.size (.lst ys)) { s with heap := s.heap.push { cls := .type "list", data := .seq its.toArray }, toks := t' } :=
 I.laid (fun _ _ q => Heap.get?_push_of_some _ q) (Nat.le_refl _) ⟨hz, its, 0, hv, Heap.get?_push_size _ rfl⟩
theorem Inv.fresh (I : Inv X pins σ H s) : H s.heap.objs.size = none := I.hok.fresh (Nat.le_refl _)
theorem Inv.lstM (I : Inv X pins σ H s) (hH : H l = some (.lst xs)) : xs.length ≤ sizeLine ∧ ∃ (its : List Value) (n : Nat), ax xs its ∧ xs.length = its.length ∧ s.heap.get? l = some { cls := .type "list", data := .seq its.toArray n } := by
 obtain ⟨z, its, n, r, e⟩ := I.hok l _ hH
 exact ⟨z, its, n, r, r.length, e⟩
end
section
variable {X : Cx}
def cE : V → List V → Hp → VK → Prop := fun x vs H Q => ∃ l xs y, x = .ref l ∧ vs = [y] ∧ H l = some (.lst xs) ∧ xs.length < sizeLine ∧ Q .non (upd H l (.lst (xs ++ [y])))
theorem bT : MtM X "list.append" cE := by
 intro pins s σ H x vs v us Q I rx rv h
 obtain ⟨l, xs, y, rfl, rfl, hH, hz, q⟩ := h
 cases rx
 obtain ⟨u, rfl, ru⟩ := rv.one
 obtain ⟨z, its, n, r, hl, e⟩ := I.lstM hH
 refine call_meets F.slot_list_append ⟨_, e, rfl⟩ F.entry_list_append (F.args_list_append_2 _ _) (PySem.list_append l its.toArray n u (by rw [List.size_toArray]; omega)) ⟨e, ?_⟩
 refine ⟨.non, _, I.lset (its' := its ++ [u]) hH e (by simp) (r.append (.cons ru .nil)) ?_, rfl, q⟩
 rw [List.length_append, List.length_singleton]
 omega
def jD : V → List V → Hp → VK → Prop := fun x vs H Q => ∃ l xs y, x = .ref l ∧ vs = [] ∧ H l = some (.lst xs) ∧ xs[xs.length - 1]? = some y ∧ Q y (upd H l (.lst xs.dropLast))
theorem me : MtM X "list.pop" jD := by
 intro pins s σ H x vs v us Q I rx rv h
 obtain ⟨l, xs, y, rfl, rfl, hH, hy, q⟩ := h
 cases rx
 have hus := rv.zero
 subst hus
 obtain ⟨z, its, n, r, hl, e⟩ := I.lstM hH
 obtain ⟨u, hu, ru⟩ := r.get hy
 have hy' : its.toArray[its.toArray.size - 1]? = some u := by
   show its.toArray[its.length - 1]? = some u
   rw [← Array.getElem?_toList, ← hl]
   exact hu
 refine call_meets F.slot_list_pop ⟨_, e, rfl⟩ F.entry_list_pop (F.args_list_pop_1 _) (MeetsSeq.list_pop_last l its.toArray n u hy' (by rw [List.size_toArray]; omega)) ⟨e, ?_⟩
 refine ⟨y, _, I.lset (its' := its.dropLast) hH e ?_ r.dropLast ?_, ru, q⟩
 · show its.toArray.eraseIdxIfInBounds (its.toArray.size - 1) = its.dropLast.toArray
   rw [List.size_toArray, List.eraseIdxIfInBounds_toArray, nO]
 · rw [List.length_dropLast]
   omega
def wg : R2 := fun x y H Q => ∃ l b xs zs, x = .ref l ∧ y = .ref b ∧ H l = some (.lst xs) ∧ H b = some (.lst zs) ∧ xs.length + zs.length ≤ sizeLine ∧ ∀ p, H p = none → Q (.ref p) (upd H p (.lst (xs ++ zs)))
theorem wY : OpR X (binaryOp .Add) wg := by
 intro pins s σ H x y v u Q I rx ry h
 obtain ⟨l, b, xs, zs, rfl, rfl, hH, hB, hz, q⟩ := h
 cases rx
 cases ry
 obtain ⟨z, its, n, r, hl, e⟩ := I.lstM hH
 obtain ⟨z2, its2, n2, r2, hl2, e2⟩ := I.lstM hB
 refine PySem.P.add_list e e2 ?_ (by rw [List.size_toArray, List.size_toArray]; omega)
 have ea : its.toArray ++ its2.toArray = (its ++ its2).toArray := by simp
 rw [ea]
 exact ⟨.ref _, _, I.lnew (t' := s.toks) (r.append r2) (by rw [List.length_append]; omega), rfl, q _ I.fresh⟩
theorem mZ {α : Type} (xs : List α) (k : Nat) : (List.replicate k xs).flatten.length = k * xs.length := by
 induction k with
 | zero => simp
 | succ k ih => rw [List.replicate_succ, List.flatten_cons, List.length_append, ih, Nat.succ_mul, Nat.add_comm]
end
section
variable {prog : Program} {w : World} {A : Around} {E : Value → Shared → Prop} {s : Shared}
set_option maxRecDepth 100000 in
end
section
variable {X : Cx}
end
end L2
namespace L2
open PySem PySem.Spec PyProof.Rows
section
variable {κ : Type} [DecidableEq κ]
def bE (kvs : List (κ × V)) (k : κ) : Option V := (kvs.find? fun kv => decide (kv.1 = k)).map (·.2)
def bx (kvs : List (κ × V)) (k : κ) (v : V) : List (κ × V) :=
 if (kvs.any fun kv => decide (kv.1 = k)) = true then kvs.map (fun kv => if kv.1 = k then (kv.1, v) else kv) else kvs ++ [(k, v)]
theorem cr {p : κ × V} {r : List (κ × V)} {k : κ} (e : p.1 = k) : bE (p :: r) k = some p.2 := by simp [bE, List.find?_cons, e]
theorem cA {p : κ × V} {r : List (κ × V)} {k : κ} (e : ¬ p.1 = k) : bE (p :: r) k = bE r k := by simp [bE, List.find?_cons, e]
theorem fv (k : κ) : ∀ kvs : List (κ × V), (kvs.any fun kv => decide (kv.1 = k)) = (bE kvs k).isSome
  | [] => rfl
  | p :: r => by
    rw [List.any_cons]
    by_cases e : p.1 = k
    · simp only [cr e, decide_eq_true e, Bool.true_or, Option.isSome_some]
    · rw [cA e, decide_eq_false e, Bool.false_or]; exact fv k r
theorem lP (k j : κ) (y : V) : ∀ kvs : List (κ × V), bE (kvs.map fun kv => if kv.1 = k then (kv.1, y) else kv) j = (bE kvs j).map fun x => if j = k then y else x
  | [] => rfl
  | p :: r => by
    have ih := lP k j y r
    rw [List.map_cons]
    by_cases h : p.1 = k
    · rw [if_pos h]
      by_cases e : p.1 = j
      · rw [cr (p := (p.1, y)) e, cr e, Option.map_some, if_pos (e.symm.trans h)]
      · rw [cA (p := (p.1, y)) e, cA e, ih]
    · rw [if_neg h]
      by_cases e : p.1 = j
      · rw [cr (p := p) e, cr e, Option.map_some, if_neg (fun z => h (e.trans z))]
      · rw [cA (p := p) e, cA e, ih]
theorem jR (k j : κ) (y : V) : ∀ kvs : List (κ × V), bE kvs k = none → bE (kvs ++ [(k, y)]) j = if j = k then some y else bE kvs j
  | [], _ => by
    by_cases e : k = j
    · rw [if_pos e.symm]; exact cr (p := (k, y)) e
    · rw [if_neg (fun z => e z.symm)]; exact cA (p := (k, y)) e
  | p :: r, hn => by
    rw [List.cons_append]
    have hk : ¬ p.1 = k := fun z => by rw [cr z] at hn; cases hn
    rw [cA hk] at hn
    have ih := jR k j y r hn
    by_cases e : p.1 = j
    · rw [cr e, cr e, if_neg (fun z => hk (e.trans z))]
    · rw [cA e, cA e, ih]
theorem iF (kvs : List (κ × V)) (k j : κ) (y : V) : bE (bx kvs k y) j = if j = k then some y else bE kvs j := by
 unfold bx
 by_cases a : (kvs.any fun kv => decide (kv.1 = k)) = true
 · rw [if_pos a, lP]
   rw [fv] at a
   by_cases e : j = k
   · obtain ⟨x, hx⟩ := Option.isSome_iff_exists.mp a
     rw [if_pos e, e, hx, Option.map_some, if_pos rfl]
   · rw [if_neg e]
     cases bE kvs j with
     | none => rfl
     | some x => rw [Option.map_some, if_neg e]
 · rw [if_neg a]
   refine jR k j y kvs ?_
   rw [fv] at a
   cases q : bE kvs k with
   | none => rfl
   | some x => rw [q] at a; exact (a rfl).elim
theorem eA (kvs : List (κ × V)) (k : κ) (v : V) : (bx kvs k v).length ≤ kvs.length + 1 := by
 unfold bx
 split
 · rw [List.length_map]; omega
 · rw [List.length_append, List.length_cons, List.length_nil]; omega
theorem qZ {kvs : List (κ × V)} {k : κ} (v : V) (h : bE kvs k = none) : bx kvs k v = kvs ++ [(k, v)] := by
 unfold bx
 rw [fv, h]
 exact if_neg (by decide)
theorem cL.isSome_eq {o : Option V} {u : Option Value} (r : cL o u) : o.isSome = u.isSome := by
  cases o with
  | none => cases u with
    | none => rfl
    | some _ => exact (show False from r).elim
  | some _ => cases u with
    | none => exact (show False from r).elim
    | some _ => rfl
theorem KV.val {kvs : List (κ × V)} {vs : List (κ × Value)} (r : KV kvs vs) (k : κ) : cL (bE kvs k) (valueAt vs k) := by
  unfold KV at r
  induction r with
  | nil => exact True.intro
  | @cons p q ps qs h t ih =>
    obtain ⟨h1, h2⟩ := h
    by_cases e : p.1 = k
    · have e' : q.1 = k := h1.symm.trans e
      have b : valueAt (q :: qs) k = some q.2 := by simp [valueAt, List.find?_cons, e']
      rw [cr e, b]; exact h2
    · have e' : ¬ q.1 = k := fun z => e (h1.trans z)
      have b : valueAt (q :: qs) k = valueAt qs k := by simp [valueAt, List.find?_cons, e']
      rw [cA e, b]; exact ih
theorem KV.any {kvs : List (κ × V)} {vs : List (κ × Value)} (r : KV kvs vs) (k : κ) : (kvs.any fun kv => decide (kv.1 = k)) = vs.any fun kv => decide (kv.1 = k) := by
 unfold KV at r
 induction r with
 | nil => rfl
 | cons h t ih => rw [List.any_cons, List.any_cons, ih, h.1]
theorem KV.repl {kvs : List (κ × V)} {vs : List (κ × Value)} (r : KV kvs vs) (k : κ) {y : V} {u : Value} (ry : aC y u) :
    KV (kvs.map fun kv => if kv.1 = k then (kv.1, y) else kv) (vs.map fun kv => if kv.1 = k then (kv.1, u) else kv) := by
  unfold KV at r ⊢
  induction r with
  | nil => exact .nil
  | @cons p q ps qs h t ih =>
    rw [List.map_cons, List.map_cons]
    refine .cons ?_ ih
    obtain ⟨h1, h2⟩ := h
    by_cases e : p.1 = k
    · rw [if_pos e, if_pos (h1.symm.trans e)]; exact ⟨h1, ry⟩
    · rw [if_neg e, if_neg (fun z => e (h1.trans z))]; exact ⟨h1, h2⟩
theorem KV.put {kvs : List (κ × V)} {vs : List (κ × Value)} (r : KV kvs vs) (k : κ) {y : V} {u : Value} (ry : aC y u) : KV (bx kvs k y) (stored vs k u) := by
 unfold bx stored
 rw [r.any k]
 by_cases e : (vs.any fun kv => decide (kv.1 = k)) = true
 · rw [if_pos e, if_pos e]; exact r.repl k ry
 · rw [if_neg e, if_neg e]; exact Paired.snoc r ⟨rfl, ry⟩
theorem KV.length {kvs : List (κ × V)} {vs : List (κ × Value)} (r : KV kvs vs) : kvs.length = vs.length := Paired.length r
end
theorem ie {P : Program} {w : World} {k : Key} {u : Value} (r : aC (kV k) u) : (bI P w).is k u = true := by
 cases k with
 | inl i => obtain ⟨t, e⟩ := (show ∃ t, u = Value.int i t from r); subst e; exact mt P w i t
 | inr x => obtain ⟨t, e⟩ := (show ∃ t, u = Value.str x t from r); subst e; exact mj P w x t
theorem iY {a b : Key} (e : kV a = kV b) : a = b := by
  cases a with
  | inl i => cases b with
    | inl j => have e' : V.int i = V.int j := e; injection e' with e'; rw [e']
    | inr y => exact nomatch (show V.int i = V.str y from e)
  | inr x => cases b with
    | inl j => exact nomatch (show V.str x = V.int j from e)
    | inr y => have e' : V.str x = V.str y := e; injection e' with e'; rw [e']
theorem nk : ∀ {a b : List Key}, a.map kV = b.map kV → a = b
  | [], [], _ => rfl
  | [], _ :: _, e => by simp at e
  | _ :: _, [], e => by simp at e
  | x :: xs, y :: ys, e => by
    rw [List.map_cons, List.map_cons] at e
    injection e with e1 e2
    rw [iY e1, nk e2]
theorem jY {P : Program} {w : World} : ∀ {ks : List Key} {us : List Value}, ax (ks.map kV) us → ItemsAre (bI P w) ks us
  | [], _, r => by rw [List.map_nil] at r; cases r; exact .nil
  | k :: ks, _, r => by
    rw [List.map_cons] at r
    cases r with
    | cons h t => exact .cons (ie h) (jY t)
abbrev KT (H : Hp) : List (List Key × V) → List (List Key × Addr × Value) → Prop := Paired fun p q => p.1 = q.1 ∧ H q.2.1 = some (.tup (p.1.map kV)) ∧ aC p.2 q.2.2
theorem KT.val {H : Hp} {kvs : List (List Key × V)} {xs : List (List Key × Addr × Value)} (r : KT H kvs xs) (k : List Key) : cL (bE kvs k) ((atKey xs k).map (·.2)) := by
  induction r with
  | nil => exact True.intro
  | @cons p q ps qs h t ih =>
    obtain ⟨h1, _, h2⟩ := h
    by_cases e : p.1 = k
    · have e' : q.1 = k := h1.symm.trans e
      have b : atKey (q :: qs) k = some q.2 := by simp [atKey, List.find?_cons, e']
      rw [cr e, b]; exact h2
    · have e' : ¬ q.1 = k := fun z => e (h1.trans z)
      have b : atKey (q :: qs) k = atKey qs k := by simp [atKey, List.find?_cons, e']
      rw [cA e, b]; exact ih
theorem KT.repl {H : Hp} {kvs : List (List Key × V)} {xs : List (List Key × Addr × Value)} (r : KT H kvs xs) (k : List Key) {y : V} {u : Value} (ry : aC y u) :
    KT H (kvs.map fun kv => if kv.1 = k then (kv.1, y) else kv) (xs.map (putAt k u)) := by
  induction r with
  | nil => exact .nil
  | @cons p q ps qs h t ih =>
    rw [List.map_cons, List.map_cons]
    refine .cons ?_ ih
    obtain ⟨h1, h2, h3⟩ := h
    unfold putAt
    by_cases e : p.1 = k
    · rw [if_pos e, if_pos (h1.symm.trans e)]; exact ⟨h1, h2, ry⟩
    · rw [if_neg e, if_neg (fun z => e (h1.trans z))]; exact ⟨h1, h2, h3⟩
theorem KT.put {H : Hp} {kvs : List (List Key × V)} {xs : List (List Key × Addr × Value)} (r : KT H kvs xs) (k : List Key) {b : Addr} {y : V} {u : Value} (hb : H b = some (.tup (k.map kV))) (ry : aC y u) :
   KT H (bx kvs k y) (storedH xs k b u) := by
 have e : (kvs.any fun kv => decide (kv.1 = k)) = (atKey xs k).isSome := by
   rw [fv, (r.val k).isSome_eq, Option.isSome_map]
 unfold bx storedH
 rw [e]
 by_cases q : (atKey xs k).isSome = true
 · rw [if_pos q, if_pos q]; exact r.repl k ry
 · rw [if_neg q, if_neg q]; exact Paired.snoc r ⟨rfl, hb, ry⟩
theorem KT.keeps {H H' : Hp} {kvs : List (List Key × V)} {xs : List (List Key × Addr × Value)} (r : KT H kvs xs) (ht : ∀ b ys, H b = some (.tup ys) → H' b = some (.tup ys)) : KT H' kvs xs :=
 Paired.mapP r fun _ _ z => ⟨z.1, ht _ _ z.2.1, z.2.2⟩
section
variable {P : Program} {w : World} {H : Hp} {h : Heap} {a : Addr}
theorem tV {u : HO} (ok : HOk P w H h) (e : Rd H a u) : aM P w H h a u := e.ok ok
theorem ii {kvs : List (Key × V)} (ok : HOk P w H h) (e : Rd H a (.dK kvs)) : kvs.length ≤ sizeLine ∧ (a == sysModules) = false ∧ ∃ vs, KV kvs vs ∧ h.DictOf (bI P w) a vs :=
 show aM P w H h a (.dK kvs) from tV ok e
theorem uh {kvs : List (Key × V)} (ok : HOk P w H h) (e : H a = some (.dK kvs)) : kvs.length ≤ sizeLine ∧ (a == sysModules) = false ∧ ∃ vs, KV kvs vs ∧ h.DictOf (bI P w) a vs := ii ok (.inl e)
theorem fO {ks : List Key} (ok : HOk P w H h) (e : H a = some (.tup (ks.map kV))) : (tupleKind (bI P w)).is h ks a := by
 obtain ⟨_, its, r, o, h1, h2, n, h3⟩ := (show aM P w H h a (.tup (ks.map kV)) from ok a _ e)
 exact ⟨o, its.toArray, n, h1, h2, h3, by simpa using jY r⟩
theorem iO {kvs : List (List Key × V)} (ok : HOk P w H h) (e : Rd H a (.dT kvs)) : kvs.length ≤ sizeLine ∧ (a == sysModules) = false ∧
    ∃ xs, KT H kvs xs ∧ h.DictOfH (tupleKind (bI P w)) a xs := by
  obtain ⟨z, y, xs, r, o, es, ep, h1, h2, h3, h4, h5⟩ := (show aM P w H h a (.dT kvs) from tV ok e)
  refine ⟨z, y, xs, r, o, es, ep, h1, h2, h3, h4, fun x hx => ?_, h5⟩
  have all : ∀ {l : List (List Key × V)} {m : List (List Key × Addr × Value)}, KT H l m → ∀ x ∈ m, (tupleKind (bI P w)).is h x.1 x.2.1 := by
    intro l m q
    induction q with
    | nil => intro x hx; exact nomatch hx
    | @cons p q ps qs hq t ih =>
      intro x hx
      rcases List.mem_cons.mp hx with e | hx
      · subst e
        exact fO ok (by rw [← hq.1]; exact hq.2.1)
      · exact ih x hx
  exact all r x hx
theorem pd {kvs : List (List Key × V)} (ok : HOk P w H h) (e : H a = some (.dT kvs)) : kvs.length ≤ sizeLine ∧ (a == sysModules) = false ∧
 ∃ xs, KT H kvs xs ∧ h.DictOfH (tupleKind (bI P w)) a xs := iO ok (.inl e)
end
def dH (H : Hp) (a : Addr) (y : V) (r : Option V) : Prop :=
 (∃ kvs k, Rd H a (.dK kvs) ∧ y = kV k ∧ r = bE kvs k) ∨ ∃ kvs k b, Rd H a (.dT kvs) ∧ y = .ref b ∧ H b = some (.tup (k.map kV)) ∧ r = bE kvs k
def sS (H : Hp) (a : Addr) (y v : V) (H' : Hp) : Prop :=
 (∃ kvs k, H a = some (.dK kvs) ∧ y = kV k ∧ kvs.length < sizeLine ∧ H' = upd H a (.dK (bx kvs k v))) ∨
 ∃ kvs k b, H a = some (.dT kvs) ∧ y = .ref b ∧ H b = some (.tup (k.map kV)) ∧ kvs.length < sizeLine ∧ H' = upd H a (.dT (bx kvs k v))
theorem dH.t {H : Hp} {a b : Addr} {kvs : List (List Key × V)} {k : List Key} (e : H a = some (.dT kvs)) (eb : H b = some (.tup (k.map kV))) : dH H a (.ref b) (bE kvs k) := .inr ⟨kvs, k, b, .inl e, rfl, eb, rfl⟩
section
variable {X : Cx} {pins : List (Addr × Obj)} {σ : St} {H : Hp} {s : Shared} {a : Addr} {y v : V} {u r : Value} {o : Option V} {A : Around} {E : Value → Shared → Prop}
theorem Inv.big (I : Inv X pins σ H s) : sysModules < s.heap.objs.size := by
 have h : mainGlobals < s.heap.objs.size := (I.mod.glob.keeps I.bk).lt
 exact Nat.lt_trans (by decide) h
theorem pP {Q : Value → Shared → Prop} (hu : A.units + 1 < cLine) (I : Inv X pins σ H s) (g : dH H a y (some v)) (ry : aC y u) (h : ∀ w' s', Inv X pins σ H s' → aC v w' → Q w' s') :
   wpAny (model X.prog X.w) A (getItem (.ref a) u) Q E s := by
 rcases g with ⟨kvs, k, e, ey, l⟩ | ⟨kvs, k, b, e, ey, eb, l⟩
 · subst ey
   obtain ⟨z, hd, vs, rel, dd⟩ := ii I.hok e
   obtain ⟨w', hw, rw'⟩ := cL.some_of (v := v) (o := valueAt vs k) (by rw [l]; exact rel.val k)
   exact wpAny_getItem_of (ie ry) dd.mapOf hw (h w' _ (I.tok _) rw')
 · subst ey
   cases (show u = Value.ref b from ry)
   obtain ⟨z, hd, xs, rel, dd⟩ := iO I.hok e
   obtain ⟨w', hw, rw'⟩ := cL.some_of (v := v) (o := (atKey xs k).map (·.2)) (by rw [l]; exact rel.val k)
   obtain ⟨p, hp, hp2⟩ := Option.map_eq_some_iff.mp hw
   refine wpAny_getItem_heap (tupleKind_room_in1 hu) (fO I.hok eb) dd hp ?_
   rw [hp2]
   exact h w' _ (I.tok _) rw'
theorem vg {Q : Value → Shared → Prop} (hu : A.units + 1 < cLine) (I : Inv X pins σ H s) (g : dH H a y o) (ry : aC y u) (h : ∀ s', Inv X pins σ H s' → Q (.bool (!o.isSome)) s') :
   wpAny (model X.prog X.w) A (compareOp .NotIn u (.ref a)) Q E s := by
 rcases g with ⟨kvs, k, e, ey, l⟩ | ⟨kvs, k, b, e, ey, eb, l⟩
 · subst ey
   obtain ⟨z, hd, vs, rel, dd⟩ := ii I.hok e
   refine wpAny_notIn_of (ie ry) hd dd.mapOf ?_
   rw [← (rel.val k).isSome_eq, ← l]
   exact h _ (I.tok _)
 · subst ey
   cases (show u = Value.ref b from ry)
   obtain ⟨z, hd, xs, rel, dd⟩ := iO I.hok e
   refine wpAny_notIn_heap (tupleKind_room_in1 hu) (fO I.hok eb) hd dd ?_
   have q := (rel.val k).isSome_eq
   rw [Option.isSome_map] at q
   rw [← q, ← l]
   exact h _ (I.tok _)
theorem gW {h' : Heap} {t' : Nat} {ob : HO} (I : Inv X pins σ H s) (mu : Mut (H a)) (hs : Heap.SameBut a s.heap h') (he : ∃ q, h'.get? a = some q) (new : aM X.prog X.w (upd H a ob) h' a ob) :
  Inv X pins σ (upd H a ob) { s with heap := h', toks := t' } :=
 I.write (x := a) (e := a) mu (.inl rfl) (fun b q hb z => (hs.2 b hb).trans z) he new
theorem qx {P : Program} {w : World} {H' : Hp} {h' : Heap} {kvs : List (Key × V)} {vs : List (Key × Value)} (z : kvs.length ≤ sizeLine) (hd : (a == sysModules) = false) (rel : KV kvs vs) (dd : h'.DictOf (bI P w) a vs) :
 aM P w H' h' a (.dK kvs) := ⟨z, hd, vs, rel, dd⟩
theorem pI {H' : Hp} {Q : Unit → Shared → Prop} (hu : A.units + 1 < cLine) (I : Inv X pins σ H s) (g : sS H a y v H') (ry : aC y u) (rv : aC v r) (h : ∀ s', Inv X pins σ H' s' → Q () s') :
   wpAny (model X.prog X.w) A (setItem (.ref a) u r) Q E s := by
 rcases g with ⟨kvs, k, e, ey, l, eH⟩ | ⟨kvs, k, b, e, ey, eb, l, eH⟩
 · subst ey eH
   obtain ⟨z, hd, vs, rel, dd⟩ := uh I.hok e
   have hz : vs.length ≤ sizeLine := by rw [← rel.length]; exact z
   have hl : (bx kvs k v).length ≤ sizeLine := by have := eA kvs k v; omega
   refine wpAny_setItem_pairs (hsz := hz) (ie ry) dd fun h' dd' hs => h _ ?_
   have he : ∃ q, h'.get? a = some q := let ⟨q, _, _, hq, _⟩ := dd'; ⟨q, hq⟩
   exact gW I (by rw [e]; exact True.intro) hs he (qx hl hd (rel.put k rv) dd')
 · subst ey eH
   cases (show u = Value.ref b from ry)
   obtain ⟨z, hd, xs, rel, dd⟩ := pd I.hok e
   have hz : xs.length ≤ sizeLine := by rw [← Paired.length rel]; exact z
   have hl : (bx kvs k v).length ≤ sizeLine := by have := eA kvs k v; omega
   refine wpAny_setItem_heap (hsz := hz) (tupleKind_room_in1 hu) (fO I.hok eb) dd fun h' dd' hs => h _ ?_
   obtain ⟨q, es, ep, hq, h2, h3, h4, _, h5⟩ := dd'
   refine gW I (by rw [e]; exact True.intro) hs ⟨q, hq⟩ ⟨hl, hd, _, (rel.put k eb rv).keeps fun c ys ec => ?_, q, es, ep, hq, h2, h3, h4, h5⟩
   rw [ae (aS ec e (fun z => nomatch z))]
   exact ec
end
section
variable {X : Cx} {pins : List (Addr × Obj)} {σ : St} {H : Hp} {s : Shared} {a : Addr} {kvs : List (Key × V)} {k : Key} {u : Value} {A : Around} {E : Value → Shared → Prop}
theorem zU {Q : Value → Shared → Prop} (I : Inv X pins σ H s) (e : Rd H a (.dK kvs)) (h : ∀ t s', Inv X pins σ H s' → Q (.int kvs.length t) s') : wpAny (model X.prog X.w) A (call (.builtin "len") [.ref a]) Q E s := by
 obtain ⟨z, hd, vs, rel, dd⟩ := ii I.hok e
 refine call_len_dict hd dd (by rw [← rel.length]; rw [sizeLine_eq] at z; omega) ?_
 rw [← rel.length]
 exact h _ _ (I.tok _)
end
theorem mo {X : Cx} {pins : List (Addr × Obj)} {σ : St} {H : Hp} {s : Shared} {a : Addr} {y : V} {o : Option V} (I : Inv X pins σ H s) (g : dH H a y o) : s.TypeIs (.ref a) "dict" := by
 rcases g with ⟨kvs, k, e, _, _⟩ | ⟨kvs, k, b, e, _, _, _⟩
 · obtain ⟨_, _, vs, _, dd⟩ := ii I.hok e
   exact dd.typeIs
 · obtain ⟨_, _, xs, _, dd⟩ := iO I.hok e
   exact dd.typeIs
section
variable {X : Cx} {o i e value : Expr} {pos pos' tpos : Pos} {td ty tv : TE}
end
theorem rS {P : Program} {w : World} {H : Hp} (h : Heap) (hb : sysModules < h.objs.size) : aM P w H (h.push { cls := .type "dict", data := .dict #[] }) h.objs.size (.dK []) :=
 ⟨Nat.zero_le _, beq_eq_false_iff_ne.mpr (Ne.symm (Nat.ne_of_lt hb)), [], .nil, Heap.DictOf.new h⟩
theorem qX {P : Program} {w : World} {H : Hp} (h : Heap) (hb : sysModules < h.objs.size) : aM P w H (h.push { cls := .type "dict", data := .dict #[] }) h.objs.size (.dT []) :=
 ⟨Nat.zero_le _, beq_eq_false_iff_ne.mpr (Ne.symm (Nat.ne_of_lt hb)), [], .nil, _, #[], 0, Heap.get?_push_size _ rfl, ⟨rfl, rfl, rfl⟩, rfl, rfl, List.nodup_nil⟩
def qm : TE := fun _ H Q => ∀ p, H p = none → Q (.ref p) (upd H p (.dK []))
def qJ : TE := fun _ H Q => ∀ p, H p = none → Q (.ref p) (upd H p (.dT []))
section
variable {X : Cx} {pos : Pos}
theorem rZ : PE X (.Dict [] [] pos) qm := fun pins s σ H Q I h =>
 wpAny_Dict_empty ⟨.ref s.heap.objs.size, _, I.laid (a := s.heap.objs.size) (o := .dK []) (t' := s.toks) (fun _ _ q => Heap.get?_push_of_some _ q) (Nat.le_refl _) (rS s.heap I.big), rfl, h _ (I.hok.fresh (Nat.le_refl _))⟩
theorem sZ : PE X (.Dict [] [] pos) qJ := fun pins s σ H Q I h =>
 wpAny_Dict_empty ⟨.ref s.heap.objs.size, _, I.laid (a := s.heap.objs.size) (o := .dT []) (t' := s.toks) (fun _ _ q => Heap.get?_push_of_some _ q) (Nat.le_refl _) (qX s.heap I.big), rfl, h _ (I.hok.fresh (Nat.le_refl _))⟩
end
section
variable {X : Cx} {pins : List (Addr × Obj)} {σ : St} {H : Hp} {s : Shared} {a : Addr} {y d : V} {u r : Value} {o : Option V} {A : Around} {E : Value → Shared → Prop}
end
section
variable {X : Cx} {o e f : Expr} {apos cpos : Pos} {td ty tx : TE}
end
section
variable {X : Cx} {pins : List (Addr × Obj)} {σ : St} {H : Hp} {s : Shared} {a : Addr} {kvs : List (Key × V)} {A : Around} {E : Value → Shared → Prop}
end
section
variable {X : Cx} {pins : List (Addr × Obj)} {σ : St} {H : Hp} {s : Shared} {a : Addr} {y : V} {u : Value} {A : Around} {E : Value → Shared → Prop}
end
end L2
namespace Att
open PySem PySem.W PySem.Calls PyProof.Rows
theorem ints_of_wellAll {P : Params} {h : Heap} : ∀ (ns : List Int) (vs : List Value), WellAll P h vs (ns.map WData.int) → IntsAre vs ns := by
  intro ns
  induction ns with
  | nil =>
    intro vs w
    rw [List.map_nil] at w
    cases w
    exact .nil
  | cons n ns ih =>
    intro vs w
    rw [List.map_cons] at w
    cases w with
    | cons a b =>
      cases a
      exact .cons _ _ (ih _ b)
theorem script_of {l : OpenLaw} {n : Nat} (hn : l.most = some n) {P : Params} {h : Heap} {args : List WData} {vals : List Value}
    (hpre : l.row.toRowW.claim.pre args = true) (hwl : WellAll P h vals args) :
    ∃ a vs ns, vals = [Value.ref a] ∧ args = [WData.list (ns.map WData.int)] ∧ h.get? a = some { cls := .type "list", data := .seq vs.toArray } ∧ IntsAre vs ns ∧ ns.length ≤ n := by
  have hsh : WShape.hasAll [] args [.list .int] = true := (pre_splitW hpre).1
  have hc : l.pre.holds [] { args := args } = true := (pre_splitW hpre).2
  obtain ⟨d, r, rfl, h1, h2⟩ := hasAllW_cons hsh
  obtain rfl := hasAllW_nil h2
  obtain ⟨xs, rfl, h3⟩ := hasW_list h1
  obtain ⟨ns, rfl⟩ := items_int h3
  have hlen : ns.length ≤ n := by
    unfold OpenLaw.pre at hc
    have h4 : (WTm.not (.lt (.lit (.int (n : Int))) (.len (.arg 0)))).holds [] { args := [.list (ns.map .int)] } = true := by
      have h4 := (holds_andW hc).1
      rw [hn] at h4
      exact h4
    have h5 := condW_of h4 (w_not (w_lt w_lit (w_len_list (w_arg rfl))))
    rw [List.length_map] at h5
    refine Nat.le_of_not_lt fun q => ?_
    have q' : (n : Int) < ((ns.length : Nat) : Int) := by omega
    first
      | (rw [decide_eq_true q'] at h5; exact absurd h5 (by decide))
      | (simp at h5; omega)
  cases hwl with
  | cons w1 w2 =>
    cases w2
    cases w1 with
    | list ho hall => exact ⟨_, _, ns, rfl, rfl, ho, ints_of_wellAll ns _ hall, hlen⟩
theorem post_true (l : OpenLaw) (args : List WData) : l.row.toRowW.claim.post args (.bool true) args = true :=
 postW_of (r := l.row.toRowW) (X := (true == true))
  (show WShape.has [] (.bool true) .bool = true by first | rfl | decide | simp [WShape.has, WShape.arms, WShape.armsAll])
  (show (WTm.eq .res (.lit (.bool true))).value [] { args := args, res := some (.bool true), after := args } = some (.bool (true == true)) from w_eq_bool (w_res rfl) w_lit) rfl
theorem attach_call {l : OpenLaw} {n : Nat} {q : Program} {loose : List Str} {XP : (Str → Option Value) → Heap → Prop} {YP : World → Heap → Prop} {d : DefRec}
  (hn : l.most = some n) (hdf : d.params.defaults = [])
  (call : ∀ (w : World) (s₀ s₁ : Shared) (mg mb : Str → Option Value) (fa : Addr) (o : Obj) (pm cd doc : Value) (a : Addr) (vs : List Value) (ns : List Int),
   Ground q loose [] XP w s₀ mg mb s₁.heap → YP w s₁.heap →
   s₁.heap.get? fa = some o → o.data = .func (docDef d.name d.params d.body d.scope pm cd doc) → s₁.heap.CodeRec cd d.name → mg d.name = some (.ref fa) →
   s₁.heap.get? a = some { cls := .type "list", data := .seq vs.toArray } → IntsAre vs ns → ns.length ≤ n → s₁.gens = #[] →
   codeAny (model l.prog w) callerA (.call (.ref fa) ⟨[.ref a], []⟩) (fun r s' => r = .ok (.ret (.bool true)) ∧ OldK s₁.heap s'.heap ∧ s'.os = s₁.os ∧ AllBare s'.gens) s₁) :
  WalkO q loose XP YP l.row.toRowW d [] (fun f vs => PySem.call f vs) := by
 intro w s₀ s₁ mg mb G Y fa o pm cd doc dV kV ho hd hcd hD hmg hg args vals as hpre hlay hrd hwl hlo
 obtain rfl : dV = .none := Dflts.none hD hdf
 obtain rfl : kV = .none := Dflts.noKw hD
 obtain ⟨a, vs, ns, rfl, rfl, hobj, hints, hlen⟩ := script_of hn hpre hwl
 refine enter_call (codeAny_mono (call w s₀ s₁ mg mb fa o pm cd doc a vs ns G Y ho (fd_plain hd) hcd hmg hobj hints hlen hg) fun r s' hq => ?_)
 obtain ⟨rfl, h2, h3, h4⟩ := hq
 exact ⟨.inl ⟨.bool true, .bool true, [], rfl, fun _ => rfl, .bool true, post_true l _, fun _ => ⟨List.Pairwise.nil, fun _ hm => (nomatch hm)⟩⟩, h2, h3, h4⟩
section
variable {prog : Program} {w : World} {A : Around} {E : Value → Shared → Prop} {s : Shared} {K : Frag}
end
end Att
namespace L2
open PySem PySem.Spec PyProof.Rows
theorem ki : ∀ {vs : List Value} {ns : List Int}, IntsAre vs ns → ax (ns.map V.int) vs
 | _, _, .nil => .nil
 | _, _, .cons n t h => .cons ⟨t, rfl⟩ (ki h)
end L2
namespace L2
open PySem PySem.Spec PyProof.Rows
end L2
namespace L2
open PySem PySem.Spec PyProof.Rows
def bA (s : Stmt) : Arguments := match s with
 | .FunctionDef _ a _ _ _ _ _ _ _ _ => a
 | _ => { posonlyargs := [], args := [], vararg := none, kwonlyargs := [], kw_defaults := [], kwarg := none, defaults := [] }
def aK (s : Stmt) : List Stmt := match s with
 | .FunctionDef _ _ b _ _ _ _ _ _ _ => b
 | _ => []
def ak (s : Stmt) : Scope := match s with
 | .FunctionDef _ _ _ _ _ _ sc _ _ _ => sc
 | _ => { kind := .function, names := [], isGenerator := false, isCoroutine := false }
abbrev E0 : XK := fun _ _ _ => False
structure Fun (K : W.Frag) (x qual : Str) (st : Stmt) (f : Addr) (fd : FuncData) : Prop where
 ex : ∃ (oc : Value) (od : Option Addr) (kV doc pm : Value) (an : Option Addr) (cdv ct : Value) (osl : Array (Option Value)),
  fd = W.fnOf x qual (bA st) (aK st) (ak st) .none kV doc pm an cdv ct ∧ K.lookup f = some ⟨oc, od, .func fd, osl⟩ ∧ W.codeIn K cdv qual = true
 kp : W.keepIn K (.ref f) = true
section
variable {P : Program} {w : World} {K : W.Frag} {mg : Str → Option Value} {base : Heap}
theorem Fun.binds {x qual : Str} {st : Stmt} {f : Addr} {fd : FuncData} {ps : List Str} (F : Fun K x qual st f fd)
  (h : ∀ (kV doc pm : Value) (an : Option Addr) (cdv ct : Value) (us : List Value), us.length = ps.length → bindArgs (W.fnOf x qual (bA st) (aK st) (ak st) .none kV doc pm an cdv ct) ⟨us, []⟩ = pure (ps.zip us)) : bu K fd ps [] := by
 obtain ⟨oc, od, kV, doc, pm, an, cdv, ct, osl, rfl, lk, hcd⟩ := F.ex
 exact .all (h kV doc pm an cdv ct)
theorem dj {x qual : Str} {st : Stmt} {f : Addr} {oc : Value} {od an : Option Addr} {osl : Array (Option Value)} {kV doc pm cdv ct : Value} (l : K.lookup f = some ⟨oc, od, .func (W.fnOf x qual (bA st) (aK st) (ak st) .none kV doc pm an cdv ct), osl⟩)
 (c : W.codeIn K cdv qual = true) (k : W.keepIn K (.ref f) = true) : Fun K x qual st f (W.fnOf x qual (bA st) (aK st) (ak st) .none kV doc pm an cdv ct) := ⟨⟨oc, od, kV, doc, pm, an, cdv, ct, osl, rfl, l, c⟩, k⟩
end
theorem cm {n : Nat} (h : n ≤ 1000) : n < sizeLine := Nat.lt_of_le_of_lt h (by decide)
section
variable {X : Cx}
theorem pT : bB X (.builtin "len") (fun xs H Q => ∃ a kvs, xs = [V.ref a] ∧ H a = some (.dK kvs) ∧ Q (.int kvs.length) H) := by
 intro pins s σ H xs us Q I r h
 obtain ⟨a, kvs, rfl, ha, q⟩ := h
 obtain ⟨u, rfl, ru⟩ := fA r
 cases ru
 exact zU I (.inl ha) fun t s' I' => ⟨.int kvs.length, H, I', ⟨t, rfl⟩, q⟩
end
theorem md {A B : Prop} (h : A) : if true = true then A else B := by
 rw [if_pos rfl]
 exact h
def am (H H' : Hp) : Prop := ∀ b o, H b = some o → H' b = some o
theorem am.refl (H : Hp) : am H H := fun _ _ h => h
theorem am.trans {H H1 H2 : Hp} (a : am H H1) (b : am H1 H2) : am H H2 := fun c o h => b c o (a c o h)
theorem am.free {H H' : Hp} (e : am H H') {l : Addr} (h : H' l = Option.none) : H l = Option.none := by
  cases q : H l with
  | none => rfl
  | some o =>
    rw [e l o q] at h
    cases h
section
variable {κ : Type} [DecidableEq κ]
end
end L2
namespace L2
open PySem PySem.Spec PyProof.Rows
def cT : List (Str × NameKind) → List (Str × Addr) → List (Str × Addr) → List (Str × Addr)
 | [], _, cs => cs
 | (n, k) :: r, cells, cs => cT r cells (if k == .free then (match cells.lookup n with | some a => (n, a) :: cs | none => cs) else cs)
theorem lV {scope : Scope} {env : Env} (h : ∀ y ∈ scope.names, y.2 = .free → (env.cells.lookup y.1).isSome = true) : closureFor scope env = pure (cT scope.names env.cells []) := by
  have key : ∀ (l : List (Str × NameKind)) (cs : List (Str × Addr)), (∀ y ∈ l, y.2 = .free → (env.cells.lookup y.1).isSome = true) →
      (forIn l cs (fun (x : Str × NameKind) (cs : List (Str × Addr)) => (if (x.2 == NameKind.free) = true then (do let a ← cellOf env x.1; pure (ForInStep.yield ((x.1, a) :: cs))) else (pure (ForInStep.yield cs) : Sem _))) : Sem (List (Str × Addr))) = pure (cT l env.cells cs) := by
    intro l
    induction l with
    | nil => intro cs _; rfl
    | cons y r ih =>
      intro cs hy
      obtain ⟨n, k⟩ := y
      rw [List.forIn_cons]
      by_cases hk : k = .free
      · subst hk
        have hs := hy (n, .free) List.mem_cons_self rfl
        cases e : env.cells.lookup n with
        | none => rw [e] at hs; cases hs
        | some a =>
          have := ih ((n, a) :: cs) (fun z hz => hy z (List.mem_cons_of_mem _ hz))
          simp only [cT, beq_self_eq_true, if_true, e, cellOf, pure_bind]
          exact this
      · have hb : (k == NameKind.free) = false := by simpa using hk
        have := ih cs (fun z hz => hy z (List.mem_cons_of_mem _ hz))
        simp only [cT, hb, Bool.false_eq_true, if_false, pure_bind]
        exact this
  have := key scope.names [] h
  unfold closureFor
  simpa using this
theorem jO : ∀ {l : List (Str × NameKind)} {cells cs : List (Str × Addr)} {x : Str} {c : Addr}, (∀ x c, cs.lookup x = some c → cells.lookup x = some c) → (cT l cells cs).lookup x = some c → cells.lookup x = some c
  | [], _, _, _, _, h, e => h _ _ e
  | (n, k) :: r, cells, cs, x, c, h, e => by
    refine jO (l := r) (fun y d hy => ?_) e
    split at hy
    · split at hy
      · rename_i a ha
        by_cases hyn : y = n
        · subst hyn
          rw [List.lookup_cons_self] at hy
          rw [← hy]; exact ha
        · rw [List.lookup_cons] at hy
          have : (y == n) = false := by simpa using hyn
          rw [this] at hy
          exact h _ _ hy
      · exact h _ _ hy
    · exact h _ _ hy
theorem iL : ∀ {l : List (Str × NameKind)} {cells cs : List (Str × Addr)} {x : Str}, (cs.lookup x).isSome = true → ((cT l cells cs).lookup x).isSome = true
  | [], _, _, _, h => h
  | (n, k) :: r, cells, cs, x, h => by
    refine iL (l := r) ?_
    split
    · split
      · rw [List.lookup_cons]
        split
        · rfl
        · exact h
      · exact h
    · exact h
theorem gR : ∀ {l : List (Str × NameKind)} {cells cs : List (Str × Addr)} {x : Str}, (x, NameKind.free) ∈ l → (cells.lookup x).isSome = true → ((cT l cells cs).lookup x).isSome = true
  | [], _, _, _, h, _ => by cases h
  | (n, k) :: r, cells, cs, x, h, hs => by
    rcases List.mem_cons.mp h with e | h
    · cases e
      refine iL (l := r) ?_
      simp only [beq_self_eq_true, if_true]
      cases e : cells.lookup n with
      | none => rw [e] at hs; cases hs
      | some a => simp only [List.lookup_cons_self]; rfl
    · exact gR (l := r) h hs
theorem jq {x : Str} {k : NameKind} : ∀ {l : List (Str × NameKind)}, l.lookup x = some k → (x, k) ∈ l := fun h => PySem.mem_of_lookup h
inductive eM (X : Cx) (scope : Scope) : List Str → List Nat → Prop where
 | nil : eM X scope [] []
 | cons {y : Str} {i : Nat} {ys : List Str} {is : List Nat} (h1 : X.N[i]? = some y) (h2 : X.env.kindOf y = some .cell ∨ X.env.kindOf y = some .free) (h3 : scope.names.lookup y = some .free) (h : eM X scope ys is) : eM X scope (y :: ys) (i :: is)
structure dC (scope : Scope) (x : Str) (ys : List Str) : Prop where
 kind : scope.kind = .function
 nocell : ∀ y ∈ scope.names, y.2 ≠ .cell
 names : ∀ y ∈ scope.names, y.2 = .local → scope.names.lookup y.1 = some .local
 own : scope.names.lookup x = some .local
 all : ∀ y ∈ scope.names, y.2 = .free → y.1 ∈ ys
 nd : (x :: ys).Nodup
def aV (X : Cx) (scope : Scope) (C : Addr) (N : List Str) (s : Shared) (H : Hp) (fp : List Addr) : Cx :=
 { X with N := N, s₀ := s, H₀ := H, env := compEnvC scope (cT scope.names X.env.cells []) C X.env, outer := X.stack, ex := fp, fn := fun _ => false, pn := [], xe := fun _ _ => False }
def bg (σ : St) (is : List Nat) : St := is.map fun i => (σ[i]?).getD none
theorem fZ {f : Str × NameKind → Str × NameKind} (hf : ∀ p, (f p).1 = p.1) {x : Str} : ∀ (l : List (Str × NameKind)), (l.map f).lookup x = (l.lookup x).map fun k => (f (x, k)).2
  | [] => rfl
  | (n, k) :: r => by
    have ih := fZ hf (x := x) r
    have e : f (n, k) = (n, (f (n, k)).2) := Prod.ext (hf (n, k)) rfl
    rw [List.map_cons, e, List.lookup_cons, List.lookup_cons]
    cases hx : x == n with
    | true =>
      have e' : x = n := by simpa using hx
      subst e'; rfl
    | false => exact ih
theorem gf (scope : Scope) (env : Env) (x : Str) : (relabel scope env).names.lookup x = (scope.names.lookup x).map fun k => if (k == NameKind.free && env.scope.kind == .function && env.kindOf x == some .cell) then NameKind.cell else k := by
 have hf : ∀ p : Str × NameKind, ((fun (n, k) => if (k == NameKind.free && env.scope.kind == .function && env.kindOf n == some .cell) then (n, NameKind.cell) else (n, k)) p : Str × NameKind).1 = p.1 := by
  intro p
  obtain ⟨n, k⟩ := p
  show (if _ then (n, NameKind.cell) else (n, k)).1 = n
  split <;> rfl
 have := fZ hf (x := x) scope.names
 show List.lookup x (List.map _ scope.names) = _
 rw [this]
 congr 1
 funext k
 show (if _ then (x, NameKind.cell) else (x, k)).2 = _
 split <;> rfl
theorem fT {scope : Scope} {env : Env} {x : Str} {k : NameKind} (nc : ∀ y ∈ scope.names, y.2 ≠ .cell) (h : (relabel scope env).names.lookup x = some k) (hk : k = .cell ∨ k = .free) : (x, NameKind.free) ∈ scope.names := by
  rw [gf] at h
  cases q : scope.names.lookup x with
  | none => rw [q] at h; cases h
  | some k' =>
    have hm := jq q
    rw [q] at h
    have h : (if (k' == NameKind.free && env.scope.kind == .function && env.kindOf x == some .cell) then NameKind.cell else k') = k := Option.some.inj h
    by_cases hc : k' = .free
    · subst hc; exact hm
    · have hb : (k' == NameKind.free) = false := by simpa using hc
      rw [hb] at h
      have h : k' = k := h
      subst h
      rcases hk with z | z
      · exact absurd z (nc _ hm)
      · exact absurd z hc
theorem lr {scope : Scope} {env : Env} {x : Str} (h : scope.names.lookup x = some .free) : (relabel scope env).names.lookup x = some .cell ∨ (relabel scope env).names.lookup x = some .free := by
 rw [gf, h]
 show some (if _ then _ else _) = _ ∨ some (if _ then _ else _) = _
 split
 · exact .inl rfl
 · exact .inr rfl
theorem kz {scope : Scope} {env : Env} {x : Str} (h : scope.names.lookup x = some .local) : (relabel scope env).names.lookup x = some .local := by
 rw [gf, h]; rfl
theorem qP {X : Cx} {scope : Scope} {ys : List Str} {is : List Nat} {m : Str → Option Value} {h : Heap} {σ : St} (hc : eM X scope ys is)
    (hl : ∀ (i : Nat) (x : Str) (v : V), X.N[i]? = some x → σ[i]? = some (some v) → Vis X.env.scope x → ∃ u, aC v u ∧ wX X.env h m x u) (nd : True) :
    ∀ (j : Nat) (y : Str) (v : V), ys[j]? = some y → (bg σ is)[j]? = some (some v) → ∃ u, aC v u ∧ scope.names.lookup y = some .free ∧ ∃ c, X.env.cells.lookup y = some c ∧ h.IsCell c (some u) := by
  induction hc with
  | nil => intro j y v e; simp at e
  | @cons z i zs js h1 h2 h3 hr ih =>
    intro j y v e1 e2
    cases j with
    | zero =>
      simp at e1; subst e1
      have e2 : (σ[i]?).getD none = some v := by simpa [bg] using e2
      have e3 : σ[i]? = some (some v) := by
        cases q : σ[i]? with
        | none => rw [q] at e2; simp at e2
        | some o => rw [q] at e2; simp at e2; rw [e2]
      have hv : Vis X.env.scope z := by
        rcases h2 with q | q
        · exact .inr (.inl q)
        · exact .inr (.inr q)
      obtain ⟨u, r, l⟩ := hl i z v h1 e3 hv
      refine ⟨u, r, h3, ?_⟩
      rcases l with ⟨k, _⟩ | ⟨_, c, e, ic⟩
      · rcases h2 with q | q
        · rw [q] at k; cases k
        · rw [q] at k; cases k
      · exact ⟨c, e, ic⟩
    | succ j =>
      exact ih j y v (by simpa using e1) (by simpa [bg] using e2)
end L2
namespace L2
open PySem PySem.Spec PyProof.Rows
def ui (is : List Nat) (tc : TT) (te : TE) (σ : St) (D : Addr) (J : It) (H1 : Hp) (Q : VK) : Prop := ∃ W : Nat → Nat → List V → Hp → Prop, (∃ m, W 0 m [] (upd H1 D (.lst []))) ∧
 ∀ i m ys H2, W i m ys H2 → (J.stop i H2 ∧ Q (.ref D) H2) ∨ (J.go i H2 ∧ ∀ x H3, J.yld i H2 x H3 → tc (some x :: bg σ is) H3 fun b H4 => if b = true then
  te (some x :: bg σ is) H4 fun y H5 => H5 D = some (.lst ys) ∧ ys.length < sizeLine ∧ ∃ m', m' < m ∧ W (i + 1) m' (ys ++ [y]) (upd H5 D (.lst (ys ++ [y])))
  else ∃ m', m' < m ∧ W (i + 1) m' ys H4)
def eB (is : List Nat) (wi : TI) (tc : TT) (te : TE) : TE := fun σ H Q => wi σ H fun J H1 => ∀ D, H1 D = none → ui is tc te σ D J H1 Q
theorem mw (elt target iter c : Expr) (scope : Scope) (pos : Pos) (it acc : Value) (env : Env) :
    compTurn (.ListComp elt [⟨target, iter, [c], 0⟩] scope pos) 0 it acc env = (standAt iter.pos >>= fun _ => pyNext it >>= fun r => match r with
      | none => pure (.done .next)
      | some v => letOwnedTupleGo target it v >>= fun _ => assign target env v >>= fun _ => isTrue c env (eval c env) >>= fun ok =>
        (if ok = true then (eval elt env >>= fun x => call (.builtin "list.append") [acc, x] >>= fun _ => pure ()) else pure ()) >>= fun _ =>
          again (.compLoop (.ListComp elt [⟨target, iter, [c], 0⟩] scope pos) 0 it acc env)) := by
  unfold compTurn
  simp only [List.forIn_cons, List.forIn_nil, List.getElem?_cons_zero, List.getElem?_cons_succ, List.getElem?_nil, bind_assoc, pure_bind, bne_self_eq_false, Bool.false_eq_true, if_false, if_true]
  congr 1
  funext _
  congr 1
  funext r
  cases r with
  | none => rfl
  | some v =>
    simp only [bind_assoc, pure_bind, if_true]
    congr 1; funext _
    congr 1; funext _
    congr 1; funext b
    cases b <;> simp
section
variable {prog : Program} {w : World} {A : Around} {R : Result → Shared → Prop} {s : Shared}
theorem gG {elt target iter c : Expr} {scope : Scope} {pos : Pos} {it acc : Value} {env : Env} (I : Nat → Shared → Prop)
    (turn : ∀ n s, I n s → wpAny (model prog w) A (pyNext it) (fun r s₁ => match r with
      | none => R (.ok .next) s₁
      | some v => wpAny (model prog w) A (letOwnedTupleGo target it v) (fun _ s₁ => wpAny (model prog w) A (assign target env v) (fun _ s₂ => wpAny (model prog w) A (isTrue c env (eval c env)) (fun ok s₂ => if ok = true then wpAny (model prog w) A (eval elt env) (fun x s₃ =>
          wpAny (model prog w) A (call (.builtin "list.append") [acc, x]) (fun _ s₄ => ∃ m, m < n ∧ I m s₄) (notedBy (model prog w) A env fun e s' => R (.error e) s') s₃)
          (notedBy (model prog w) A env fun e s' => R (.error e) s') s₂ else ∃ m, m < n ∧ I m s₂) (notedBy (model prog w) A env fun e s' => R (.error e) s') s₂) (notedBy (model prog w) A env fun e s' => R (.error e) s') s₁) (notedBy (model prog w) A env fun e s' => R (.error e) s') s₁) (notedBy (model prog w) A env fun e s' => R (.error e) s') s)
    (n : Nat) (h : I n s) :
    codeAny (model prog w) A (.compLoop (.ListComp elt [⟨target, iter, [c], 0⟩] scope pos) 0 it acc env) R s := by
  refine codeAny_loop rfl I (fun n s hI => ?_) n h
  show wpAny _ _ ((compTurn (.ListComp elt [⟨target, iter, [c], 0⟩] scope pos) 0 it acc env).onRaise (fun x => do noteFrame x env; theTreesLotGoes x)) _ _ s
  refine wpAny_noted ?_
  rw [mw]
  refine wpAny_bind (wpAny_standAt (wpAny_bind (wpAny_mono (turn n s hI) (fun r s₁ h₁ => ?_) fun _ _ h' => h')))
  cases r with
  | none => exact wpAny_pure h₁
  | some v =>
    refine wpAny_bind (wpAny_mono h₁ (fun _ s₁ h₁ => wpAny_bind (wpAny_mono h₁ (fun _ s₂ h₂ => wpAny_bind (wpAny_mono h₂ (fun ok s₃ h₃ => ?_) fun _ _ h' => h')) fun _ _ h' => h')) fun _ _ h' => h')
    cases ok with
    | true =>
      rw [if_pos rfl] at h₃
      simp only [if_true]
      exact wpAny_bind (wpAny_bind (wpAny_mono h₃ (fun x s₃ h₃ => wpAny_bind (wpAny_mono h₃ (fun _ s₄ h₄ => wpAny_pure (wpAny_pure ⟨rfl, h₄⟩)) fun _ _ h' => h')) fun _ _ h' => h'))
    | false =>
      rw [if_neg Bool.false_ne_true] at h₃
      simp only [Bool.false_eq_true, if_false]
      exact wpAny_bind (wpAny_pure (wpAny_pure ⟨rfl, h₃⟩))
theorem gD {elt target iter : Expr} {scope : Scope} {pos : Pos} {it acc : Value} {env : Env} (I : Nat → Shared → Prop)
    (turn : ∀ n s, I n s → wpAny (model prog w) A (pyNext it) (fun r s₁ => match r with
      | none => R (.ok .next) s₁
      | some v => wpAny (model prog w) A (letOwnedTupleGo target it v) (fun _ s₁ => wpAny (model prog w) A (assign target env v) (fun _ s₂ => wpAny (model prog w) A (eval elt env) (fun x s₃ =>
          wpAny (model prog w) A (call (.builtin "list.append") [acc, x]) (fun _ s₄ => ∃ m, m < n ∧ I m s₄) (notedBy (model prog w) A env fun e s' => R (.error e) s') s₃)
          (notedBy (model prog w) A env fun e s' => R (.error e) s') s₂) (notedBy (model prog w) A env fun e s' => R (.error e) s') s₁) (notedBy (model prog w) A env fun e s' => R (.error e) s') s₁) (notedBy (model prog w) A env fun e s' => R (.error e) s') s)
    (n : Nat) (h : I n s) :
    codeAny (model prog w) A (.compLoop (.ListComp elt [⟨target, iter, [], 0⟩] scope pos) 0 it acc env) R s := by
  refine codeAny_loop rfl I (fun n s hI => ?_) n h
  show wpAny _ _ ((compTurn (.ListComp elt [⟨target, iter, [], 0⟩] scope pos) 0 it acc env).onRaise (fun x => do noteFrame x env; theTreesLotGoes x)) _ _ s
  refine wpAny_noted ?_
  rw [compTurn_list1]
  refine wpAny_bind (wpAny_standAt (wpAny_bind (wpAny_mono (turn n s hI) (fun r s₁ h₁ => ?_) fun _ _ h' => h')))
  cases r with
  | none => exact wpAny_pure h₁
  | some v =>
    exact wpAny_bind (wpAny_mono h₁ (fun _ s₁ h₁ => wpAny_bind (wpAny_mono h₁ (fun _ s₂ h₂ => wpAny_bind (wpAny_bind (wpAny_mono h₂ (fun x s₃ h₃ => wpAny_bind (wpAny_mono h₃
      (fun _ s₄ h₄ => wpAny_pure (wpAny_pure ⟨rfl, h₄⟩)) fun _ _ h' => h')) fun _ _ h' => h'))) fun _ _ h' => h')) fun _ _ h' => h')
end
def pc (X : Cx) (ifs : List Expr) (tc : TT) : Prop := match ifs with
 | [] => tc = fun _ H Q => Q true H
 | [c] => PT X c tc
 | _ => False
section
variable {X : Cx}
theorem sL {scope : Scope} {ys : List Str} {is : List Nat} (h : eM X scope ys is) : is.length = ys.length := by
 induction h with
 | nil => rfl
 | cons _ _ _ _ ih => simp [ih]
theorem kg {scope : Scope} {ys : List Str} {is : List Nat} (h : eM X scope ys is) {y : Str} (hy : y ∈ ys) : X.env.kindOf y = some .cell ∨ X.env.kindOf y = some .free := by
  induction h with
  | nil => cases hy
  | cons _ h2 _ _ ih =>
    rcases List.mem_cons.mp hy with e | e
    · rw [e]; exact h2
    · exact ih e
theorem jQ {elt iter : Expr} {ifs : List Expr} {x : Str} {px pos : Pos} {scope : Scope} {ys : List Str} {is : List Nat} {tc : TT} {te : TE} {pins : List (Addr × Obj)} {σ : St} {H2 : Hp} {s2 : Shared} {it : Addr} {fp : List Addr} {tn : Nat → Heap → Prop} {J : It} {E : Value → Shared → Prop} {Q : VK} {RR : Value → Addr → Result → Shared → Prop}
    (hc : X.calm = true) (S : dC scope x ys) (hcap : eM X scope ys is)
    (hif : ∀ C s H fp, pc (aV X scope C (x :: ys) s H fp) ifs tc) (he : ∀ C s H fp, PE (aV X scope C (x :: ys) s H fp) elt te)
    (I2 : Inv X pins σ H2 s2) (T : fx X.prog X.w X.K (.Name x px) J fp it tn) (st2 : tn 0 s2.heap) (f2 : ∀ b ∈ fp, gn X pins H2 b)
    (hW : ∀ D, H2 D = none → ∃ W : Nat → Nat → List V → Hp → Prop, (∃ m, W 0 m [] (upd H2 D (.lst []))) ∧
      ∀ i m ys H2, W i m ys H2 → (J.stop i H2 ∧ Q (.ref D) H2) ∨ (J.go i H2 ∧ ∀ x H3, J.yld i H2 x H3 → tc (some x :: bg σ is) H3 fun b H4 => if b = true then
        te (some x :: bg σ is) H4 fun y H5 => H5 D = some (.lst ys) ∧ ys.length < sizeLine ∧ ∃ m', m' < m ∧ W (i + 1) m' (ys ++ [y]) (upd H5 D (.lst (ys ++ [y])))
        else ∃ m', m' < m ∧ W (i + 1) m' ys H4))
    (hRR : ∀ D C H' s', (X.s₀.heap.objs.size ≤ C ∧ ∀ p ∈ X.pn ++ pins, p.1 ≠ C) → (∃ m, s'.heap.Ns C m) → C ≠ X.env.locals → H' C = none → Inv X pins σ H' s' → (∀ h', Heap.SameBut C s'.heap h' → Inv X pins σ H' { s' with heap := h' }) → Q (.ref D) H' → RR (.ref D) C (.ok .next) s') :
    wpAny (model X.prog X.w) X.A (newList []) (fun acc s₃ => wpAny (model X.prog X.w) X.A (newFunctionEnv scope X.env.globals (cT scope.names X.env.cells []) [] X.env.qual none .none (some X.env)) (fun cenv s₄ =>
      codeAny (model X.prog X.w) X.A (.compStart (.ListComp elt [⟨.Name x px, iter, ifs, 0⟩] scope pos) 0 (.ref it) acc { cenv with scope := relabel scope X.env }) (RR acc cenv.locals) s₄) E s₃) E s2 := by
  have hf2 : H2 s2.heap.objs.size = none := I2.fresh
  refine wpAny_newObj_type (wpAny_newFunctionEnv S.nocell (by intro y hy; simp at hy) (fun h₁ hns₁ hsb₁ => ?_) S.kind)
  dsimp only at hns₁ hsb₁ ⊢
  have I3 : Inv X pins σ (upd H2 s2.heap.objs.size (.lst [])) { s2 with heap := s2.heap.push { cls := .type "list", data := .seq ([] : List Value).toArray } } := I2.lnew (t' := s2.toks) (ys := []) .nil (Nat.zero_le _)
  obtain ⟨W, ⟨m0, w0⟩, turn⟩ := hW _ hf2
  generalize hD : s2.heap.objs.size = D at I3 w0 turn hf2 ⊢
  generalize hs3 : ({ s2 with heap := s2.heap.push { cls := .type "list", data := .seq ([] : List Value).toArray } } : Shared) = s3 at I3
  have hp3 : s2.heap.push { cls := .type "list", dict := none, data := .seq ([] : List Value).toArray } = s3.heap := by rw [← hs3]
  rw [hp3] at hns₁ hsb₁ ⊢
  have tk3 : s2.toks = s3.toks := by rw [← hs3]
  generalize hH3 : upd H2 D (.lst []) = H3 at I3 w0
  generalize hC : s3.heap.objs.size = C at hns₁ hsb₁ ⊢
  have keep2 : ∀ b o, s2.heap.get? b = some o → s3.heap.get? b = some o := fun b o e => by rw [← hp3]; exact Heap.get?_push_of_some _ e
  have keep3 : ∀ b o, s3.heap.get? b = some o → h₁.get? b = some o := fun b o e => hsb₁.extBut b o (by rw [← hC]; exact Nat.ne_of_lt (Heap.lt_size e)) (Heap.get?_push_of_some _ e)
  have st3 : tn 0 s3.heap := T.keep _ _ _ st2 fun b _ o e => keep2 b o e
  have st4 : tn 0 h₁ := T.keep _ _ _ st3 fun b _ o e => keep3 b o e
  have fp3 : ∀ b ∈ fp, H3 b = none ∧ b < C := fun b hb => by
    obtain ⟨o, e, _⟩ := T.obj _ _ st2 b hb
    refine ⟨?_, by rw [← hC]; exact Heap.lt_size (keep2 b o e)⟩
    rw [← hH3, ae (by rw [← hD]; exact Nat.ne_of_lt (Heap.lt_size e))]
    exact (f2 b hb).1
  have hcells : ∀ {z : Str} {c : Addr}, (cT scope.names X.env.cells []).lookup z = some c → X.env.cells.lookup z = some c := fun h => jO (fun _ _ q => by cases q) h
  have hX : (aV X scope C (x :: ys) s3 H3 fp).Ok := by
    refine ⟨I3.ok.mod, S.kind, I3.ok.glob, I3.ok.blt, Nat.le_of_eq hC, fun y z c h1 h2 => I3.ok.inj y z c (hcells h1) (hcells h2), fun y hy => ?_, fun y c h _ => absurd (show false = true from h) Bool.false_ne_true, I3.ok.hd, I3.ok.frames, .inl rfl, fun b hb => ⟨Nat.ne_of_lt (fp3 b hb).2, fun y c h => (f2 b hb).2.2.2.2.1 y c (hcells h)⟩, fun b o e => I3.bs b o e, Nat.le_trans I3.ok.bsz I3.sz, fun b o e hb => ?_, fun b hb z => ?_, I3.stack, I3.stkFree⟩
    · have hy : (relabel scope X.env).names.lookup y = some .cell ∨ (relabel scope X.env).names.lookup y = some .free := hy
      have hm : (y, NameKind.free) ∈ scope.names := by
        rcases hy with q | q
        · exact fT S.nocell q (.inl rfl)
        · exact fT S.nocell q (.inr rfl)
      have hs : ∃ c, X.env.cells.lookup y = some c := by
        by_cases hk : X.env.kindOf y = some .cell ∨ X.env.kindOf y = some .free
        · exact I3.ok.has y hk
        · exact absurd (kg hcap (S.all _ hm rfl)) hk
      exact Option.isSome_iff_exists.mp (gR hm (Option.isSome_iff_exists.mpr hs))
    · rcases (f2 b hb).2.2.2.1 with z | z
      · exact I3.ok.noex b o e z
      · exact absurd (Nat.lt_of_lt_of_le (Heap.lt_size e) (Nat.le_trans I3.ok.bsz z)) (Nat.lt_irrefl _)
    · rcases List.mem_cons.mp (I3.stkSub b z) with q | q
      · exact (f2 b hb).2.1 q
      · exact (f2 b hb).2.2.1 q
  have I4 : Inv (aV X scope C (x :: ys) s3 H3 fp) [] (none :: bg σ is) H3 { s2 with heap := h₁, toks := s2.toks + ([] : List (Str × Value)).length } := by
    obtain ⟨m3, hm3, hl3⟩ := id I3.loc
    refine ⟨hX, ?_, ?_, Un.kept keep3, ⟨_, hns₁, fun i y v e1 e2 e3 => ?_⟩, fun y c e => ?_, ?_, fun y c e => I3.freeC y c (hcells e), fun p hp => absurd (show p ∈ ([] : List (Addr × Obj)) from hp) (by simp), I3.hok.kept keep3, ?_⟩
    · show s2.os = s3.os
      rw [← hs3]
    · have := I2.bare; exact this
    · cases i with
      | zero => simp at e2
      | succ j =>
        obtain ⟨u, r, hfr, c, ec, ic⟩ := qP hcap hl3 trivial j y v (by have e1' : (x :: ys)[j + 1]? = some y := e1; simpa using e1') (by simpa using e2)
        have hk := lr (env := X.env) hfr
        obtain ⟨c', ec'⟩ := Option.isSome_iff_exists.mp (gR (cs := []) (jq hfr) (by rw [ec]; rfl) (cells := X.env.cells))
        have : c' = c := by have := hcells ec'; rw [ec] at this; exact (Option.some.inj this).symm
        subst this
        obtain ⟨o, ho, hd⟩ := ic
        exact ⟨u, r, .inr ⟨hk, c', ec', o, keep3 _ _ ho, hd⟩⟩
    · obtain ⟨v, o, ho, hd⟩ := I3.cell y c (hcells e)
      exact ⟨v, o, keep3 _ _ ho, hd⟩
    · have := I3.hok.fresh (a := C) (Nat.le_of_eq hC)
      exact this
    · have := sL hcap
      show (none :: bg σ is).length = (x :: ys).length
      simp [bg, this]
  have lenσ : ∀ v : Option V, (v :: bg σ is).set 0 = fun w => w :: bg σ is := fun v => rfl
  have hown : (relabel scope X.env).names.lookup x = some .local := kz S.own
  have loop : codeAny (model X.prog X.w) X.A (.compLoop (.ListComp elt [⟨.Name x px, iter, ifs, 0⟩] scope pos) 0 (.ref it) (.ref D) (compEnvC scope (cT scope.names X.env.cells []) C X.env)) (RR (.ref D) C)
      { s2 with heap := h₁, toks := s2.toks + ([] : List (Str × Value)).length } := by
    have fin : ∀ {H' : Hp} {v : Option V} {s' : Shared}, Inv (aV X scope C (x :: ys) s3 H3 fp) [] (v :: bg σ is) H' s' → Q (.ref D) H' → RR (.ref D) C (.ok .next) s' := fun {H' v s'} J q => by
      obtain ⟨m', hm', _⟩ := J.loc
      have hCL : C ≠ X.env.locals := Ne.symm (by rw [← hC]; exact Nat.ne_of_lt I3.lt)
      have back : ∀ h', Heap.SameBut C s'.heap h' → Inv X pins σ H' { s' with heap := h' } := fun h' hs' => by
        have os' : s'.os = s3.os := J.os
        refine I3.call' (s' := { s' with heap := h' }) (ch := fp) os' ⟨fun b o e n hb hx => ?_, fun b o e n hb hx => ?_, fun b o e n hx => J.base.free b o e n hx, fun b o e hx => ?_, J.base.tups, J.base.frzs, J.base.tbls⟩ (fun b o e => ?_) J.bare fun b hb => ?_
        · exact hs'.extBut b o (by rw [← hC]; exact Nat.ne_of_lt (Heap.lt_size e)) (J.base.keep b o e n hb hx)
        · obtain ⟨sl, e1⟩ := J.base.slot b o e n hb hx
          exact ⟨sl, hs'.extBut b _ (by rw [← hC]; exact Nat.ne_of_lt (Heap.lt_size e)) e1⟩
        · obtain ⟨o', e1⟩ := J.base.there b o e hx
          exact ⟨o', hs'.extBut b _ (by rw [← hC]; exact Nat.ne_of_lt (Heap.lt_size e)) e1⟩
        · refine (J.hok b o e).stay (fun c w' hc q => (hs'.2 c ?_).trans q) (fun _ q => q) fun _ _ q => q
          have fC : H' C = none := J.free
          rintro rfl
          rcases hc with rfl | hc
          · rw [fC] at e; cases e
          · rw [fC] at hc; cases hc
        · obtain ⟨_, a1, _, a2, a3, a4⟩ := f2 b hb
          exact ⟨a2, a1, a3, a4⟩
      refine hRR D C H' s' ⟨by rw [← hC]; exact I3.sz, fun p hp => by rw [← hC]; exact Nat.ne_of_lt (Heap.lt_size (I3.pin p hp).1)⟩ ⟨m', hm'⟩ hCL J.free ?_ back q
      have := back s'.heap (.refl ..)
      exact this
    have stat : ∀ {H' : Hp}, (∀ b ∈ fp, H' b = none) → ∀ b ∈ fp, gn (aV X scope C (x :: ys) s3 H3 fp) [] H' b := fun hn b hb => by
      obtain ⟨_, a1, a5, a2, a3, a4⟩ := f2 b hb
      refine ⟨hn b hb, Nat.ne_of_lt (fp3 b hb).2, fun z => ?_, .inl hb, fun y c e => a3 y c (hcells e), fun p hp => absurd (show p ∈ ([] : List (Addr × Obj)) from hp) (by simp)⟩
      rcases List.mem_cons.mp (I3.stkSub b z) with q | q
      · exact a1 q
      · exact a5 q
    have turnAt : ∀ n s, (∃ i v ys' H', Inv (aV X scope C (x :: ys) s3 H3 fp) [] (v :: bg σ is) H' s ∧ tn i s.heap ∧ (∀ b ∈ fp, H' b = none) ∧ W i n ys' H') →
        wpAny (model X.prog X.w) X.A (pyNext (.ref it)) (fun r s₁ => match r with
          | none => RR (.ref D) C (.ok .next) s₁
          | some u => wpAny (model X.prog X.w) X.A (letOwnedTupleGo (.Name x px) (.ref it) u) (fun _ s₁ => wpAny (model X.prog X.w) X.A (assign (.Name x px) (compEnvC scope (cT scope.names X.env.cells []) C X.env) u) (fun _ s₂ =>
            ∃ (xx : V) (i : Nat) (ys' : List V) (H3' H6 : Hp) (pl : List (Addr × Obj)), Inv (aV X scope C (x :: ys) s3 H3 fp) ([] ++ pl) (some xx :: bg σ is) H6 s₂ ∧
              (∀ s7 v7 H7, Inv (aV X scope C (x :: ys) s3 H3 fp) ([] ++ pl) (v7 :: bg σ is) H7 s7 → Inv (aV X scope C (x :: ys) s3 H3 fp) [] (v7 :: bg σ is) H7 s7 ∧ tn (i + 1) s7.heap ∧ ∀ b ∈ fp, H7 b = none) ∧
              (tc (some xx :: bg σ is) H6 fun b H4 => if b = true then te (some xx :: bg σ is) H4 fun y H5 => H5 D = some (.lst ys') ∧ ys'.length < sizeLine ∧ ∃ m', m' < n ∧ W (i + 1) m' (ys' ++ [y]) (upd H5 D (.lst (ys' ++ [y])))
                else ∃ m', m' < n ∧ W (i + 1) m' ys' H4)) (fun _ _ => False) s₁) (fun _ _ => False) s₁) (fun _ _ => False) s := by
      rintro n s ⟨i, v, ys', H', J, st, fr, w'⟩
      rcases turn i n ys' H' w' with ⟨stop, qn⟩ | ⟨go, step⟩
      · refine thn (T.done (aV X scope C (x :: ys) s3 H3 fp) rfl rfl rfl hc i [] s _ H' (fun _ _ => False) J (stat fr) st stop) fun r s4 ⟨hr, J4⟩ => ?_
        subst hr
        exact fin J4 qn
      · refine thn (T.item (aV X scope C (x :: ys) s3 H3 fp) rfl rfl rfl hc i [] s _ H' (fun _ _ => False) J (stat fr) st go) fun r s4 ⟨u, hr, h4⟩ => ?_
        subst hr
        refine thn h4 fun _ s5 ⟨xx, H5, J5, r5, y5, st5, fr5⟩ => ?_
        have J5' := J5.pinned (stat fr5) (T.obj _ _ st5)
        refine wpAny_assign_Name (fe (i := 0) J5' S.nd rfl (.inl hown) r5 (fun s6 J6 => ?_) (.inr hown))
        refine ⟨xx, i, ys', H5, H5, gM fp s5.heap, J6, fun s7 v7 H7 J7 => ⟨J7.unpinned, T.keep _ _ _ st5 fun b hb o e => (J7.pin (b, o) (List.mem_append_right _ (List.mem_append_right _ (eP hb e)))).1, fun b hb => ?_⟩, step xx H5 y5⟩
        obtain ⟨o, e, d⟩ := T.obj _ _ st5 b hb
        exact (J7.pin (b, o) (List.mem_append_right _ (List.mem_append_right _ (eP hb e)))).2.1
    have start0 : ∃ i v ys' H', Inv (aV X scope C (x :: ys) s3 H3 fp) [] (v :: bg σ is) H' { s2 with heap := h₁, toks := s2.toks + ([] : List (Str × Value)).length } ∧ tn i h₁ ∧ (∀ b ∈ fp, H' b = none) ∧ W i m0 ys' H' :=
      ⟨0, none, [], H3, I4, st4, fun b hb => (fp3 b hb).1, w0⟩
    have emit : ∀ (n : Nat) (xx : V) (i : Nat) (ys' : List V) (H4 : Hp) (pl : List (Addr × Obj)) (s₂ : Shared), Inv (aV X scope C (x :: ys) s3 H3 fp) ([] ++ pl) (some xx :: bg σ is) H4 s₂ →
        (∀ s7 v7 H7, Inv (aV X scope C (x :: ys) s3 H3 fp) ([] ++ pl) (v7 :: bg σ is) H7 s7 → Inv (aV X scope C (x :: ys) s3 H3 fp) [] (v7 :: bg σ is) H7 s7 ∧ tn (i + 1) s7.heap ∧ ∀ b ∈ fp, H7 b = none) →
        (te (some xx :: bg σ is) H4 fun y H5 => H5 D = some (.lst ys') ∧ ys'.length < sizeLine ∧ ∃ m', m' < n ∧ W (i + 1) m' (ys' ++ [y]) (upd H5 D (.lst (ys' ++ [y])))) →
        wpAny (model X.prog X.w) X.A (eval elt (compEnvC scope (cT scope.names X.env.cells []) C X.env)) (fun y s₃ => wpAny (model X.prog X.w) X.A (call (.builtin "list.append") [.ref D, y]) (fun _ s₄ =>
          ∃ m, m < n ∧ ∃ i v ys' H', Inv (aV X scope C (x :: ys) s3 H3 fp) [] (v :: bg σ is) H' s₄ ∧ tn i s₄.heap ∧ (∀ b ∈ fp, H' b = none) ∧ W i m ys' H') (fun _ _ => False) s₃) (fun _ _ => False) s₂ := by
      intro n xx i ys' H4 pl s₂ J2 back q
      refine thn (he C s3 H3 fp ([] ++ pl) s₂ _ H4 _ J2 q) fun y s₃ ⟨yv, H5, J3, r3, q1, q2, q3⟩ => ?_
      refine thn (bT (X := aV X scope C (x :: ys) s3 H3 fp) ([] ++ pl) s₃ _ H5 (.ref D) [yv] (.ref D) [y] (fun v H7 => v = .non ∧ H7 = upd H5 D (.lst (ys' ++ [yv]))) J3 rfl (.cons r3 .nil) ⟨D, ys', yv, rfl, rfl, q1, q2, rfl, rfl⟩) fun _ s₄ ⟨_, H7, J4, _, _, e7⟩ => ?_
      subst e7
      obtain ⟨m', hm', w'⟩ := q3
      obtain ⟨b1, b2, b3⟩ := back s₄ _ _ J4
      exact ⟨m', hm', i + 1, some xx, ys' ++ [yv], _, b1, b2, b3, w'⟩
    have ex0 : ∀ {α : Type} {t : Sem α} {Q' : α → Shared → Prop} {E' : Value → Shared → Prop} {s : Shared}, wpAny (model X.prog X.w) X.A t Q' (fun _ _ => False) s → wpAny (model X.prog X.w) X.A t Q' E' s := fun h => wpAny_mono h (fun _ _ q => q) fun _ _ q => q.elim
    cases ifs with
    | nil =>
      have htc : tc = fun _ H Q => Q true H := hif C s3 H3 fp
      subst htc
      refine gD (fun n s => ∃ i v ys' H', Inv (aV X scope C (x :: ys) s3 H3 fp) [] (v :: bg σ is) H' s ∧ tn i s.heap ∧ (∀ b ∈ fp, H' b = none) ∧ W i n ys' H') (fun n s hI => ?_) m0 start0
      refine wpAny_mono (turnAt n s hI) (fun r s₁ h₁ => ?_) fun _ _ q => q.elim
      cases r with
      | none => exact h₁
      | some u =>
        refine wpAny_mono h₁ (fun _ s₁ h₁ => wpAny_mono h₁ (fun _ s₂ h₂ => ?_) fun _ _ q => q.elim) fun _ _ q => q.elim
        obtain ⟨xx, i, ys', _, H6, pl, J2, back, q⟩ := h₂
        dsimp only at q
        rw [if_pos rfl] at q
        exact wpAny_mono (emit n xx i ys' H6 pl s₂ J2 back q) (fun y s₃ h₃ => ex0 h₃) fun _ _ q => q.elim
    | cons c r0 =>
      cases r0 with
      | cons _ _ => exact (hif C s3 H3 fp).elim
      | nil =>
        have hpt : PT (aV X scope C (x :: ys) s3 H3 fp) c tc := hif C s3 H3 fp
        refine gG (fun n s => ∃ i v ys' H', Inv (aV X scope C (x :: ys) s3 H3 fp) [] (v :: bg σ is) H' s ∧ tn i s.heap ∧ (∀ b ∈ fp, H' b = none) ∧ W i n ys' H') (fun n s hI => ?_) m0 start0
        refine wpAny_mono (turnAt n s hI) (fun r s₁ h₁ => ?_) fun _ _ q => q.elim
        cases r with
        | none => exact h₁
        | some u =>
          refine wpAny_mono h₁ (fun _ s₁ h₁ => wpAny_mono h₁ (fun _ s₂ h₂ => ?_) fun _ _ q => q.elim) fun _ _ q => q.elim
          obtain ⟨xx, i, ys', _, H6, pl, J2, back, q⟩ := h₂
          refine wpAny_mono (hpt ([] ++ pl) s₂ _ H6 _ J2 q) (fun b s₃ h₃ => ?_) fun _ _ q => q.elim
          obtain ⟨H4, J4, q4⟩ := h₃
          cases b with
          | true =>
            rw [if_pos rfl] at q4 ⊢
            exact wpAny_mono (emit n xx i ys' H4 pl s₃ J4 back q4) (fun y s₃ h₃ => ex0 h₃) fun _ _ q => q.elim
          | false =>
            rw [if_neg Bool.false_ne_true] at q4 ⊢
            obtain ⟨m', hm', w'⟩ := q4
            obtain ⟨b1, b2, b3⟩ := back s₃ _ _ J4
            exact ⟨m', hm', i + 1, some xx, ys', _, b1, b2, b3, w'⟩
  exact codeAny_compStart_list loop (T.self X.A 0 _ _ _ st4 loop)
end
end L2
namespace L2
open PySem PySem.Spec PyProof.Rows
section
variable {X : Cx}
theorem nq {scope : Scope} {x : Str} {ys : List Str} {is : List Nat} (ok : X.Ok) (S : dC scope x ys) (hcap : eM X scope ys is) : closureFor scope X.env = pure (cT scope.names X.env.cells []) :=
 lV fun y hy hk => by
  obtain ⟨c, e⟩ := ok.has y.1 (kg hcap (S.all y hy hk))
  rw [e]; rfl
theorem uO {elt iter : Expr} {ifs : List Expr} {x : Str} {px pos : Pos} {scope : Scope} {ys : List Str} {is : List Nat} {wi : TI} {tc : TT} {te : TE}
  (hc : X.calm = true) (S : dC scope x ys) (hcap : eM X scope ys is) (hi : PI X (.Name x px) iter wi)
  (hif : ∀ C s H fp, pc (aV X scope C (x :: ys) s H fp) ifs tc) (he : ∀ C s H fp, PE (aV X scope C (x :: ys) s H fp) elt te)
  (hs : ∀ x, foldedSetIterable iter X.env x = pure x := by intro _; rfl) : PE X (.ListComp elt [⟨.Name x px, iter, ifs, 0⟩] scope pos) (eB is wi tc te) := by
 intro pins s σ H Q I h
 rw [eval_ListComp]
 refine wpAny_comprehension_free (use := none) rfl hs (nq I.ok S hcap) S.kind S.names (thn (hi pins s σ H _ I h) fun v s1 h1 => thn h1 fun itv s2 h2 => ?_)
 obtain ⟨it, fp, tn, J, H2, rfl, I2, T, st2, f2, hW⟩ := h2
 refine jQ (RR := fun acc C => compPost (model X.prog X.w) X.A X.xe none (EP X pins σ Q) acc C) hc S hcap hif he I2 T st2 f2 hW ?_
 intro D C H' s' hlt hns hne hfr I' back q
 obtain ⟨m, hm⟩ := hns
 exact ⟨m, hm, fun h' hs' => ⟨.ref D, H', back h' hs', rfl, q⟩⟩
theorem nX {elt iter : Expr} {ifs : List Expr} {x y : Str} {px py pos spos : Pos} {scope : Scope} {ys : List Str} {is : List Nat} {wi : TI} {tc : TT} {te : TE} {j : Nat}
  (hN : X.N.Nodup) (hj : X.N[j]? = some y) (hy : Loc X.env.scope y)
  (hc : X.calm = true) (S : dC scope x ys) (hcap : eM X scope ys is) (hi : PI X (.Name x px) iter wi)
  (hif : ∀ C s H fp, pc (aV X scope C (x :: ys) s H fp) ifs tc) (he : ∀ C s H fp, PE (aV X scope C (x :: ys) s H fp) elt te)
  (hsw : swapsWith (.ListComp elt [⟨.Name x px, iter, ifs, 0⟩] scope pos) (some (.Name y py)) spos.line X.env = pure true := by rfl)
  (hf : X.fn y = true ∨ X.env.scope.names.lookup y = some .local := by first | exact .inl rfl | exact .inr rfl | assumption)
  (hs : ∀ x, foldedSetIterable iter X.env x = pure x := by intro _; rfl) : PS X (.Assign [.Name y py] (.ListComp elt [⟨.Name x px, iter, ifs, 0⟩] scope pos) spos) (az (eB is wi tc te) (au j)) := by
 intro pins s σ H D I h
 rw [exec_Assign_Name_used _ _ _ _ hsw]
 refine wpAny_bind (wpAny_standAt (wpAny_bind ?_))
 show wpAny _ X.A (do let _ ← comprehension (.ListComp elt [⟨.Name x px, iter, ifs, 0⟩] scope pos) scope X.env _ (newList []) false (eval iter X.env) (some (assign (.Name y py) X.env))) _ _ s
 refine wpAny_bind (wpAny_mono (wpAny_comprehension_free (use := some (assign (.Name y py) X.env)) (Q := fun _ s' => SP X pins D .next s') rfl hs (nq I.ok S hcap) S.kind S.names
  (thn (hi pins s σ H _ I h) fun v s1 h1 => thn h1 fun itv s2 h2 => ?_)) (fun _ s' hq => wpAny_pure (wpAny_pure hq)) fun _ _ e => e)
 obtain ⟨it, fp, tn, J, H2, rfl, I2, T, st2, f2, hW⟩ := h2
 refine jQ (Q := fun x H1 => au j x σ H1 D.nx) (RR := fun acc C => compPost (model X.prog X.w) X.A X.xe (some (assign (.Name y py) X.env)) (fun _ s' => SP X pins D .next s') acc C) hc S hcap hif he I2 T st2 f2 hW ?_
 intro Da C H' s' hlt hns hne hfr I' back q
 show wpAny _ X.A (assign (.Name y py) X.env (.ref Da)) _ _ _
 obtain ⟨m, hm⟩ := hns
 refine wpAny_assign_Name (jU I' hN hj hy (v := .ref Da) rfl (fun s2 I2' ⟨a, hsb, ha⟩ => ?_) hf)
 have hCa : C ≠ a := by
  rcases ha with e | e
  · rw [e]; exact hne
  · rintro rfl
    obtain ⟨v, o, ho, hd⟩ := I'.cell y C e
    obtain ⟨o2, es, ep, ho2, hd2, _⟩ := hm
    rw [ho] at ho2; cases ho2; rw [hd] at hd2; cases hd2
 refine ⟨m, hm.sameBut hsb hCa, fun h' hs' => ?_⟩
 have hCn : ∀ y c, X.env.cells.lookup y = some c → c ≠ C := fun z c e q => by
  subst q
  obtain ⟨v, o, ho, hd⟩ := I'.cell z c e
  obtain ⟨o2, es, ep, ho2, hd2, _⟩ := hm
  rw [ho] at ho2; cases ho2; rw [hd] at hd2; cases hd2
 have I3 : Inv X pins (σ.set j (some (.ref Da))) H' { s2 with heap := h' } := by
  refine I2'.step (g' := s2.gens) (d' := s2.drawn) (t' := s2.toks) (ch := [C]) (fun b hb => ?_) (fun b o _ _ hb e _ => (hs'.2 b (fun z => hb (by simp [z]))).trans e) (fun b o _ _ hb e _ => ⟨o.slots, (hs'.2 b (fun z => hb (by simp [z]))).trans e⟩) (fun _ _ _ _ n => n) (fun b o hb e => ⟨o, (hs'.2 b (fun z => hb (by simp [z]))).trans e⟩)
    (fun _ _ e => e) (fun _ _ _ e => e) (fun b ps e => ⟨#[], by rw [e]; simp⟩) (fun m' hm' => hm'.sameBut hs' (Ne.symm hne)) (fun b o e => ?_) I2'.bare
  · have e : b = C := by simpa using hb
    subst e
    exact ⟨.inr hlt.1, hne, fun z c e => hCn z c e, hlt.2⟩
  · refine (I2'.hok b o e).stay (fun c w' hc q => (hs'.2 c ?_).trans q) (fun _ q => q) fun _ _ q => q
    rintro rfl
    rcases hc with rfl | hc
    · rw [hfr] at e; cases e
    · rw [hfr] at hc; cases hc
 exact ⟨_, H', I3, q⟩
end
end L2
namespace L2
open PySem PySem.Spec PyProof.Rows
def tyN (H : Hp) : V → Option String
  | .non => some "NoneType"
  | .bl _ => some "bool"
  | .int _ => some "int"
  | .str _ => some "str"
  | .ref a => match H a with
    | some (.lst _) => some "list"
    | some (.frz _ (.lst _)) => some "list"
    | some (.tup _) => some "tuple"
    | some (.dK _) => some "dict"
    | some (.dT _) => some "dict"
    | _ => none
  | _ => none
theorem wO {K : W.Frag} {H : Hp} {x : V} {t : String} (h : tyN H x = some t) : dU K H x (.type t) := by
  cases x with
  | non => cases h; exact .non
  | bl b => cases h; exact .bl b
  | int i => cases h; exact .int i
  | str x => cases h; exact .str x
  | byt _ => cases h
  | flt _ => cases h
  | ty _ => cases h
  | ref a =>
    unfold tyN at h
    dsimp only at h
    split at h
    · rename_i e; cases h; exact .lst e
    · rename_i e; cases h; exact .frz e
    · rename_i e; cases h; exact .tup e
    · rename_i e; cases h; exact .dK e
    · rename_i e; cases h; exact .dT e
    · cases h
def tyL : List String := ["NoneType", "bool", "int", "str", "list", "tuple", "dict"]
theorem wC {H : Hp} {x : V} {t : String} (h : tyN H x = some t) : t ∈ tyL := by
  cases x with
  | non => cases h; decide
  | bl b => cases h; decide
  | int i => cases h; decide
  | str x => cases h; decide
  | byt _ => cases h
  | flt _ => cases h
  | ty _ => cases h
  | ref a =>
    unfold tyN at h
    dsimp only at h
    split at h <;> first | (cases h; decide) | cases h
def isI (t T : String) : Bool := t == T || (T == "int" && t == "bool")
theorem yg (K : W.Frag) : ∀ t ∈ tyL, ∀ T ∈ ["int", "bool", "str", "tuple", "list", "dict"], W.kitOne K (.type t) (.type T) = some (isI t T) := by
 intro t ht T hT
 simp only [tyL, List.mem_cons, List.not_mem_nil, or_false] at ht hT
 rcases ht with rfl | rfl | rfl | rfl | rfl | rfl | rfl <;> rcases hT with rfl | rfl | rfl | rfl | rfl | rfl <;> (unfold W.kitOne; first | rfl | decide +kernel | (simp only [W.kitCls]; rfl))
section
variable {X : Cx}
theorem rC : bB X (.builtin "isinstance") (fun xs H Q => ∃ x T t, xs = [x, .ty T] ∧ T ∈ ["int", "bool", "str", "tuple", "list", "dict"] ∧ tyN H x = some t ∧ Q (.bl (isI t T)) H) := by
 intro pins s σ H xs us Q I r h
 obtain ⟨x, T, t, rfl, hT, ht, q⟩ := h
 obtain ⟨u, w', rfl, r1, r2⟩ := jr r
 cases r2
 exact pC I r1 (wO ht) (yg X.K t (wC ht) T hT) fun tk => ⟨.bl _, H, I.tok tk, rfl, q⟩
end
end L2
namespace L2
open PySem PySem.Spec PyProof.Rows
section
variable {X : Cx}
theorem my : ∀ {bs : List Bool} {us : List Value}, ax (bs.map V.bl) us → us = bs.map Value.bool
  | [], _, .nil => rfl
  | b :: bs, _, .cons r t => by
    have e : _ = Value.bool b := r
    rw [my t, List.map_cons, e]
theorem qK (bs : List Bool) : (List.range bs.length).all (fun i => bs.getD i false) = bs.all id := by
 rw [Bool.eq_iff_iff, List.all_eq_true, List.all_eq_true]
 constructor
 · intro h b hb
   obtain ⟨i, hi, e⟩ := List.mem_iff_getElem.mp hb
   have := h i (List.mem_range.mpr hi)
   simp only [List.getD_eq_getElem?_getD, List.getElem?_eq_getElem hi, Option.getD_some] at this
   rw [← e]; exact this
 · intro h i hi
   have hi := List.mem_range.mp hi
   simp only [List.getD_eq_getElem?_getD, List.getElem?_eq_getElem hi, Option.getD_some]
   exact h _ (List.getElem_mem hi)
theorem mn {prog : Program} {w : World} {A : Around} {bs : List Bool} : TruthOf prog w A (fun i v => (bs.map Value.bool).toArray[i]? = some v) (fun i => bs.getD i false) := by
  intro i v s Q E hP hQ
  have hP : (bs.map Value.bool)[i]? = some v := by simpa using hP
  rw [List.getElem?_map] at hP
  cases e : bs[i]? with
  | none => rw [e] at hP; cases hP
  | some b =>
    rw [e] at hP
    cases hP
    have hQ' : Q b s := by
      have e2 : bs.getD i false = b := by rw [List.getD_eq_getElem?_getD, e]; rfl
      have hQ2 : Q (bs.getD i false) s := hQ
      rw [e2] at hQ2; exact hQ2
    exact wpAny_of_eq (a := b) rfl hQ'
theorem rh (hc : X.calm = true) : bB X (.builtin "all") (fun xs H Q => ∃ (a : Addr) (bs : List Bool), xs = [.ref a] ∧ H a = some (.lst (bs.map V.bl)) ∧ Q (.bl (bs.all id)) H) := by
 intro pins s σ H xs us Q I r h
 obtain ⟨a, bs, rfl, hH, q⟩ := h
 obtain ⟨u, rfl, ru⟩ := fA r
 cases ru
 obtain ⟨z, its, n, rv, e⟩ := I.hok a _ hH
 have ei := my rv
 subst ei
 have hl : s.heap.IsList a (bs.map Value.bool).toArray := ⟨_, e, rfl, _, rfl⟩
 refine call_all_walk (wpAny_pyIter_list hl ?_)
 have hne : a ≠ s.heap.objs.size := Nat.ne_of_lt (Heap.lt_size e)
 refine ⟨s.heap.objs.size, _, _, _, _, _, _, rfl, Walks.list (by show X.A.handled = none; exact I.ok.hd hc) _ a hne (bs.map Value.bool).toArray, ⟨⟨_, Heap.get?_push_size _ rfl, rfl, rfl⟩, ⟨_, Heap.get?_push_of_some _ e, rfl, _, rfl⟩⟩, mn, fun h' tk hk => ?_⟩
 have e2 : ((bs.map Value.bool).toArray).size = bs.length := by simp
 rw [e2, qK]
 refine ⟨.bl _, H, I.kept (t' := tk) fun b o hb => hk b o ?_ (Heap.get?_push_of_some _ hb), rfl, q⟩
 intro z
 have : b = s.heap.objs.size := by simpa using z
 rw [this] at hb
 exact absurd (Heap.lt_size hb) (Nat.lt_irrefl _)
theorem mx : ∀ {xs : List Str} {us : List Value}, ax (xs.map V.str) us → StrsAre us xs
  | [], _, .nil => .nil
  | x :: xs, _, .cons r t => by
    obtain ⟨tk, e⟩ := (show ∃ t, _ = Value.str x t from r)
    rw [e]
    exact .cons _ _ (mx t)
def kI : V → List V → Hp → VK → Prop := fun x vs H Q => ∃ (z : Str) (a : Addr) (xs : List Str), x = .str z ∧ vs = [.ref a] ∧ H a = some (.lst (xs.map V.str)) ∧ (xs.map (·.length)).sum + xs.length * z.length ≤ 16777216 ∧ Q (.str (Txt.join z xs)) H
theorem mQ : MtM X "str.join" kI := by
 intro pins s σ H x vs v us Q I rx rv h
 obtain ⟨z, a, xs, rfl, rfl, hH, hz, q⟩ := h
 obtain ⟨t, rfl⟩ := (show ∃ t, v = Value.str z t from rx)
 obtain ⟨u, rfl, ru⟩ := rv.one
 cases ru
 obtain ⟨_, its, n, rv, e⟩ := I.hok a _ hH
 refine join_list (items := its.toArray) ⟨_, e, rfl, _, rfl⟩ (by simpa using mx rv) hz fun t' k => ⟨.str _, H, I.tok k, ⟨_, rfl⟩, q⟩
end
end L2
namespace L2
open PySem PySem.Spec PyProof.Rows
@[irreducible] def Sel (b : Bool) (A B : Prop) : Prop := if b = true then A else B
theorem Sel.mk {b : Bool} {A B : Prop} (h1 : b = true → A) (h2 : b = false → B) : Sel b A B := by
 unfold Sel
 cases b with
 | true => exact h1 rfl
 | false => exact h2 rfl
theorem Sel.t {A B : Prop} (h : A) : Sel true A B := .mk (fun _ => h) fun e => by cases e
theorem Sel.f {A B : Prop} (h : B) : Sel false A B := .mk (fun e => by cases e) fun _ => h
theorem Sel.dec {p A B : Prop} [Decidable p] (h1 : p → A) (h2 : ¬ p → B) : Sel (decide p) A B := .mk (fun e => h1 (of_decide_eq_true e)) fun e => h2 (of_decide_eq_false e)
theorem Sel.ndec {p A B : Prop} [Decidable p] (h1 : ¬ p → A) (h2 : p → B) : Sel (!decide p) A B := .mk (fun e => h1 (by simpa using e)) fun e => h2 (by simpa using e)
theorem Sel.yes {b : Bool} {A B : Prop} (e : b = true) (h : A) : Sel b A B := by rw [e]; exact .t h
theorem Sel.no {b : Bool} {A B : Prop} (e : b = false) (h : B) : Sel b A B := by rw [e]; exact .f h
theorem cq {b : Bool} {A B : Prop} (h : Sel b A B) : if b = true then A else B := by unfold Sel at h; exact h
def ab (i : Nat) : TE := fun σ H Q => match σ[i]? with | some (some v) => Q v H | _ => False
section
variable {X : Cx}
theorem PE.imp {e : Expr} {t t' : TE} (h : PE X e t) (i : ∀ σ H Q, t' σ H Q → t σ H Q) : PE X e t' := fun pins s σ H Q I q => h pins s σ H Q I (i _ _ _ q)
theorem OpR.imp {f : Value → Value → Sem Value} {r r' : R2} (h : OpR X f r) (i : ∀ x y H Q, r' x y H Q → r x y H Q) : OpR X f r' := fun pins s σ H x y v u Q I rx ry q => h pins s σ H x y v u Q I rx ry (i _ _ _ _ q)
theorem qv (i : Nat) {x : Str} {pos : Pos} (hN : X.N[i]? = some x := by rfl) (hv : Vis X.env.scope x := by first | exact Or.inl rfl | exact Or.inr (Or.inl rfl) | exact Or.inr (Or.inr rfl)) (hd : (x == ("__debug__" : Str)) = false := by decide)
   (hcd : (x == ("__classdict__" : Str)) = false := by decide) : PE X (.Name x pos) (ab i) := (yc hN hv hd hcd).imp fun σ H Q q => by
 unfold ab at q
 split at q
 · rename_i v e; exact ⟨v, e, q⟩
 · exact q.elim
theorem qgi {x : Str} {i : Int} {pos : Pos} (hm : ∃ t, X.mg x = some (.int i t)) (hg : Gl X x := by rfl) (hd : (x == ("__debug__" : Str)) = false := by decide) : PE X (.Name x pos) (tC (.int i)) := by
 obtain ⟨t, e⟩ := hm
 exact vc hg e ⟨t, rfl⟩ hd
def dF : R2 := fun x y H Q => match x, y with | .int i, .int j => Q (.int (i - j)) H | _, _ => False
theorem ff : OpR X (binaryOp .Sub) dF := wj.imp fun x y H Q q => by
 unfold dF at q
 split at q
 · exact ⟨_, _, rfl, rfl, q⟩
 · exact q.elim
theorem uZ : OpR X (binaryOp .Mult) (rI IntMulOk fun i j => .int (i * j)) := opI fun _ _ _ _ _ _ _ hc q => mul_int q hc
def rK : R2 := fun x y H Q => match x, y with
 | .int i, .int j => IntMulOk i j ∧ Q (.int (i * j)) H
 | _, _ => False
theorem BB : OpR X (binaryOp .Mult) rK := uZ.imp fun x y H Q q => by
 unfold rK at q
 split at q
 · exact ⟨_, _, rfl, rfl, q.1, q.2⟩
 · exact q.elim
def bG : R2 := fun x y H Q => match x, y with | .int i, .int j => 0 < j ∧ Q (.int (i % j)) H | _, _ => False
theorem cV : OpR X (binaryOp .Mod) bG := xM.imp fun x y H Q q => by
 unfold bG at q
 split at q
 · exact ⟨_, _, rfl, rfl, q.1, q.2⟩
 · exact q.elim
def nR : R2 := fun x y H Q => match x, y with | .int i, .int j => (0 ≤ j ∧ j ≤ 1000000 ∧ i.natAbs < 2 ^ 64) ∧ Q (.int (i ^ j.toNat)) H | _, _ => False
theorem vY : OpR X (binaryOp .Pow) nR := xB.imp fun x y H Q q => by
 unfold nR at q
 split at q
 · exact ⟨_, _, rfl, rfl, q.1, q.2⟩
 · exact q.elim
def oU : R2 := fun x y H Q => match x, y with | .int i, .int j => (0 ≤ j ∧ j ≤ 1000000 ∧ i.natAbs < 2 ^ 64) ∧ Q (.int (i * 2 ^ j.toNat)) H | _, _ => False
theorem yj : OpR X (binaryOp .LShift) oU := vD.imp fun x y H Q q => by
 unfold oU at q
 split at q
 · exact ⟨_, _, rfl, rfl, q.1, q.2⟩
 · exact q.elim
def mLt : R2 := fun x y H Q => match x, y with | .int i, .int j => Q (.bl (decide (i < j))) H | _, _ => False
theorem oLt : OpR X (compareOp .Lt) mLt := yO.imp fun x y H Q q => by
 unfold mLt at q
 split at q
 · exact ⟨_, _, rfl, rfl, q⟩
 · exact q.elim
def mLe : R2 := fun x y H Q => match x, y with | .int i, .int j => Q (.bl (decide (i ≤ j))) H | _, _ => False
theorem oLe : OpR X (compareOp .LtE) mLe := yF.imp fun x y H Q q => by
 unfold mLe at q
 split at q
 · exact ⟨_, _, rfl, rfl, q⟩
 · exact q.elim
def mGt : R2 := fun x y H Q => match x, y with | .int i, .int j => Q (.bl (decide (j < i))) H | _, _ => False
theorem oGt : OpR X (compareOp .Gt) mGt := zA.imp fun x y H Q q => by
 unfold mGt at q
 split at q
 · exact ⟨_, _, rfl, rfl, q⟩
 · exact q.elim
def mEq : R2 := fun x y H Q => match x, y with
 | .int i, .int j => Q (.bl (decide (i = j))) H
 | .str i, .str j => Q (.bl (decide (i = j))) H
 | .bl i, .bl j => Q (.bl (decide (i = j))) H
 | .non, .non => Q (.bl true) H
 | .non, .int _ => Q (.bl false) H | .int _, .non => Q (.bl false) H | .non, .bl _ => Q (.bl false) H | .bl _, .non => Q (.bl false) H | .non, .str _ => Q (.bl false) H | .str _, .non => Q (.bl false) H
 | .int _, .str _ => Q (.bl false) H | .str _, .int _ => Q (.bl false) H | .bl _, .str _ => Q (.bl false) H | .str _, .bl _ => Q (.bl false) H
 | _, _ => False
theorem gS {α : Type} [DecidableEq α] {f : α → V} (hf : ∀ a b, f a = f b → a = b) (a b : α) : decide (f a = f b) = decide (a = b) := by
 by_cases h : a = b
 · subst h; simp
 · rw [decide_eq_false h, decide_eq_false fun e => h (hf a b e)]
theorem oEq : OpR X (compareOp .Eq) mEq := zy.imp fun x y H Q q => by
 unfold mEq at q
 split at q
 · exact ⟨rfl, by rw [gS (f := V.int) fun _ _ e => V.int.inj e]; exact q⟩
 · exact ⟨rfl, by rw [gS (f := V.str) fun _ _ e => V.str.inj e]; exact q⟩
 · exact ⟨rfl, by rw [gS (f := V.bl) fun _ _ e => V.bl.inj e]; exact q⟩
 · exact ⟨rfl, by simpa using q⟩
 all_goals first | exact q.elim | exact ⟨rfl, q⟩
def mNe : R2 := fun x y H Q => match x, y with
 | .int i, .int j => Q (.bl (!decide (i = j))) H
 | .str i, .str j => Q (.bl (!decide (i = j))) H
 | .bl i, .bl j => Q (.bl (!decide (i = j))) H
 | .non, .non => Q (.bl false) H
 | .non, .int _ => Q (.bl true) H | .int _, .non => Q (.bl true) H | .non, .bl _ => Q (.bl true) H | .bl _, .non => Q (.bl true) H | .non, .str _ => Q (.bl true) H | .str _, .non => Q (.bl true) H
 | .int _, .str _ => Q (.bl true) H | .str _, .int _ => Q (.bl true) H | .bl _, .str _ => Q (.bl true) H | .str _, .bl _ => Q (.bl true) H
 | _, _ => False
theorem oNe : OpR X (compareOp .NotEq) mNe := zQ.imp fun x y H Q q => by
 unfold mNe at q
 split at q
 · exact ⟨rfl, by rw [gS (f := V.int) fun _ _ e => V.int.inj e]; exact q⟩
 · exact ⟨rfl, by rw [gS (f := V.str) fun _ _ e => V.str.inj e]; exact q⟩
 · exact ⟨rfl, by rw [gS (f := V.bl) fun _ _ e => V.bl.inj e]; exact q⟩
 · exact ⟨rfl, by simpa using q⟩
 all_goals first | exact q.elim | exact ⟨rfl, q⟩
def be (t : TE) : TT := fun σ H Q => t σ H fun x H' => match x with | .bl k => Q k H' | _ => False
theorem qtc {op : CmpOp} {r : R2} {a b : Expr} {ta tb : TE} {pos : Pos} (ho : OpR X (compareOp op) r) (ha : PE X a ta) (hb : PE X b tb) (hm : behindInMarks op b = false := by first | exact iZ _ | rfl) : PT X (.Compare a [op] [b] pos) (be (tOp r ta tb)) := by
 intro pins s σ H Q I h
 refine wpAny_isTrue_Compare1 (thn (ha pins s σ H _ I h) fun v s1 ⟨x, H1, I1, r1, q1⟩ => thn (hb pins s1 σ H1 _ I1 q1) fun u s2 ⟨y, H2, I2, r2, q2⟩ =>
  thn (ho pins s2 σ H2 x y v u _ I2 r1 r2 q2) fun c s3 ⟨z, H3, I3, r3, q3⟩ => ?_) hm
 cases z <;> first | exact q3.elim | (cases r3; exact wpAny_truthy_bool ⟨H3, I3, q3⟩)
theorem qc {op : CmpOp} {r : R2} {a b : Expr} {ta tb : TE} {pos : Pos} (ho : OpR X (compareOp op) r) (ha : PE X a ta) (hb : PE X b tb) (hm : behindInMarks op b = false := by first | exact iZ _ | rfl) : PE X (.Compare a [op] [b] pos) (tOp r ta tb) := uK ho ha hb hm
def eG (r r' : R2) (ta tb tc : TE) : TE := fun σ H Q => ta σ H fun x H1 => tb σ H1 fun y H2 => r x y H2 fun z H3 => match z with
 | .bl k => Sel k (tc σ H3 fun w' H4 => r' y w' H4 Q) (Q (.bl false) H3)
 | _ => False
theorem qch {op op' : CmpOp} {r r' : R2} {a b c : Expr} {ta tb tc : TE} {pos : Pos} (ho : OpR X (compareOp op) r) (ho' : OpR X (compareOp op') r') (ha : PE X a ta) (hb : PE X b tb) (hc : PE X c tc)
  (hm : lastMarks [op, op'] [b, c] = false := by with_unfolding_all rfl) : PE X (.Compare a [op, op'] [b, c] pos) (eG r r' ta tb tc) := by
 intro pins s σ H Q I h
 refine Compare_chain (thn (ha pins s σ H _ I h) fun v s1 ⟨x, H1, I1, r1, q1⟩ => chain_link (thn (hb pins s1 σ H1 _ I1 q1) fun u s2 ⟨y, H2, I2, r2, q2⟩ =>
  thn (ho pins s2 σ H2 x y v u _ I2 r1 r2 q2) fun d s3 ⟨z, H3, I3, r3, q3⟩ => ?_)) hm
 cases z <;> first | exact q3.elim | skip
 rename_i k
 cases r3
 refine wpAny_truthy_bool ?_
 have q3 := cq q3
 cases k with
 | false => exact ite_ff ⟨.bl false, H3, I3, rfl, q3⟩
 | true => exact ite_tt (chain_last (thn (hc pins s3 σ H3 _ I3 q3) fun w' s4 ⟨z', H4, I4, r4, q4⟩ => ho' pins s4 σ H4 y z' u w' Q I4 r2 r4 q4))
theorem Bt {op op' : CmpOp} {r r' : R2} {a b c : Expr} {ta tb tc : TE} {pos : Pos} (ho : OpR X (compareOp op) r) (ho' : OpR X (compareOp op') r') (ha : PE X a ta) (hb : PE X b tb) (hc : PE X c tc)
    (hm : lastMarks [op, op'] [b, c] = false := by with_unfolding_all rfl) : PT X (.Compare a [op, op'] [b, c] pos) (be (eG r r' ta tb tc)) := by
  intro pins s σ H Q I h
  refine isTrue_chain (thn (ha pins s σ H _ I h) fun v s1 ⟨x, H1, I1, r1, q1⟩ => test_link (thn (hb pins s1 σ H1 _ I1 q1) fun u s2 ⟨y, H2, I2, r2, q2⟩ =>
    thn (ho pins s2 σ H2 x y v u _ I2 r1 r2 q2) fun d s3 ⟨z, H3, I3, r3, q3⟩ => ?_)) hm
  cases z <;> first | exact q3.elim | skip
  rename_i k
  cases r3
  refine wpAny_truthy_bool ?_
  have q3 := cq q3
  cases k with
  | false => exact ite_ff ⟨H3, I3, q3⟩
  | true =>
    refine ite_tt (test_last (thn (hc pins s3 σ H3 _ I3 q3) fun w' s4 ⟨z', H4, I4, r4, q4⟩ => thn (ho' pins s4 σ H4 y z' u w' _ I4 r2 r4 q4) fun d' s5 ⟨z2, H5, I5, r5, q5⟩ => ?_))
    cases z2 <;> first | exact q5.elim | (cases r5; exact wpAny_truthy_bool ⟨H5, I5, q5⟩)
def cb (K : W.Frag) (t : TE) : TT := fun σ H Q => t σ H fun x H' => match x with
 | .bl k => Q k H'
 | .non => Q false H'
 | .int i => Q (i != 0) H'
 | x => ∃ k, xi K x H' k ∧ Q k H'
theorem qtb {e : Expr} {t : TE} (h : PE X e t) (he : ∀ whole, isTrue e X.env whole = (do let v ← whole; standAt e.pos; holding [v] (truthy v)) := by intro _; rfl) : PT X e (cb X.K t) := by
 intro pins s σ H Q I q
 refine isTrue_plain (thn (h pins s σ H _ I q) fun v s1 ⟨x, H1, I1, r1, q1⟩ => wU pins s1 σ H1 x v Q I1 r1 ?_) (he _)
 cases x <;> first | exact ⟨_, rfl, q1⟩ | exact q1
def rp (t u : TT) : TT := fun σ H Q => t σ H fun c H1 => Sel c (u σ H1 Q) (Q false H1)
def mOr (t u : TT) : TT := fun σ H Q => t σ H fun c H1 => Sel c (Q true H1) (u σ H1 Q)
variable {a b c : Expr} {ta tb : TE} {tA tB' : TT} {bq : List Expr} {pos : Pos}
theorem vA (ha : PT X a tA) : PW X (.BoolOp .And [a] pos) tA := uW ha
theorem vI (ha : PT X a tA) : PW X (.BoolOp .Or [a] pos) tA := yp ha
theorem wH (ha : PT X a tA) (hb : PW X (.BoolOp .And (b :: bq) pos) tB') : PW X (.BoolOp .And (a :: b :: bq) pos) (rp tA tB') := by
 intro wh pins s σ H Q I h
 refine isTrue_and (thn (ha pins s σ H _ I h) fun c s1 ⟨H1, I1, q1⟩ => ?_)
 have q1 := cq q1
 cases c with
 | true => exact hb wh pins s1 σ H1 Q I1 q1
 | false => exact ⟨H1, I1, q1⟩
theorem zl (ha : PT X a tA) (hb : PW X (.BoolOp .Or (b :: bq) pos) tB') : PW X (.BoolOp .Or (a :: b :: bq) pos) (mOr tA tB') := by
 intro wh pins s σ H Q I h
 refine isTrue_or (thn (ha pins s σ H _ I h) fun c s1 ⟨H1, I1, q1⟩ => ?_)
 have q1 := cq q1
 cases c with
 | true => exact ⟨H1, I1, q1⟩
 | false => exact hb wh pins s1 σ H1 Q I1 q1
def cK (ta tb : TE) : TE := fun σ H Q => ta σ H fun x H1 => match x with | .bl c => Sel c (tb σ H1 Q) (Q (.bl false) H1) | _ => False
def tE (ta tb : TE) : TE := fun σ H Q => ta σ H fun x H1 => match x with | .bl c => Sel c (Q (.bl true) H1) (tb σ H1 Q) | _ => False
def li (ta : TE) : TE := fun σ H Q => ta σ H fun x H1 => match x with | .bl c => Q (.bl (!c)) H1 | _ => False
theorem BC (ha : PE X a ta) (hb : PE X (.BoolOp .And (b :: bq) pos) tb) : PE X (.BoolOp .And (a :: b :: bq) pos) (cK ta tb) := by
 intro pins s σ H Q I h
 refine BoolOp_and (thn (ha pins s σ H _ I h) fun v s1 ⟨x, H1, I1, r1, q1⟩ => ?_)
 cases x <;> first | exact q1.elim | skip
 rename_i c
 cases r1
 refine wpAny_truthy_bool ?_
 have q1 := cq q1
 cases c with
 | true => exact hb pins s1 σ H1 Q I1 q1
 | false => exact ⟨.bl false, H1, I1, rfl, q1⟩
theorem qor (ha : PE X a ta) (hb : PE X (.BoolOp .Or (b :: bq) pos) tb) : PE X (.BoolOp .Or (a :: b :: bq) pos) (tE ta tb) := by
 intro pins s σ H Q I h
 refine BoolOp_or (thn (ha pins s σ H _ I h) fun v s1 ⟨x, H1, I1, r1, q1⟩ => ?_)
 cases x <;> first | exact q1.elim | skip
 rename_i c
 cases r1
 refine wpAny_truthy_bool ?_
 have q1 := cq q1
 cases c with
 | false => exact hb pins s1 σ H1 Q I1 q1
 | true => exact ⟨.bl true, H1, I1, rfl, q1⟩
theorem AK (ha : PE X a ta) : PE X (.UnaryOp .Not a pos) (li ta) := by
 intro pins s σ H Q I h
 refine UnaryOp_ (thn (ha pins s σ H _ I h) fun v s1 ⟨x, H1, I1, r1, q1⟩ => ?_)
 cases x <;> first | exact q1.elim | skip
 rename_i c
 cases r1
 exact not_of (wpAny_truthy_bool ⟨.bl (!c), H1, I1, rfl, q1⟩)
def mIf (t : TT) (ta tb : TE) : TE := fun σ H Q => t σ H fun c H1 => Sel c (ta σ H1 Q) (tb σ H1 Q)
theorem Bk {c : Expr} (hc : PT X c tA) (ha : PE X a ta) (hb : PE X b tb) : PE X (.IfExp c a b pos) (mIf tA ta tb) := by
 intro pins s σ H Q I h
 refine wpAny_IfExp (thn (hc pins s σ H _ I h) fun d s1 ⟨H1, I1, q1⟩ => ?_)
 have q1 := cq q1
 cases d with
 | true => exact ha pins s1 σ H1 Q I1 q1
 | false => exact hb pins s1 σ H1 Q I1 q1
def aX (c : TT) (t u : TS) : TS := fun D σ H => c σ H fun b H1 => Sel b (t D σ H1) (u D σ H1)
theorem qif {c : Expr} {l m : List Stmt} {tc : TT} {t u : TS} (hc : PT X c tc) (ha : PSs X l t) (hb : PSs X m u) : PS X (.If c l m pos) (aX tc t u) := by
 intro pins s σ H D I h
 refine wpAny_If (thn (hc pins s σ H _ I h) fun d s1 ⟨H1, I1, q1⟩ => ?_)
 have q1 := cq q1
 cases d with
 | true => exact ha pins s1 σ H1 D I1 q1
 | false => exact hb pins s1 σ H1 D I1 q1
theorem BN : bB X (.builtin "len") (fun xs H Q => match xs with
   | [.str y] => y.length ≤ sizeLine ∧ Q (.int y.length) H
   | [.ref p] => (∃ xs, SqL X.K H p xs ∧ Q (.int xs.length) H) ∨ (∃ xs, SqT X.K H p xs ∧ Q (.int xs.length) H) ∨ ∃ kvs, H p = some (.dK kvs) ∧ Q (.int kvs.length) H
   | _ => False) := by
 intro pins s σ H xs us Q I r h
 split at h
 · rename_i y
   exact iH pins s σ H _ us Q I r ⟨_, _, rfl, ⟨h.1, rfl⟩, h.2⟩
 · rename_i p
   rcases h with ⟨ys, h1, h2⟩ | ⟨ys, h1, h2⟩ | ⟨kvs, h1, h2⟩
   · exact iH pins s σ H _ us Q I r ⟨_, _, rfl, .inl ⟨ys, h1, rfl⟩, h2⟩
   · exact iH pins s σ H _ us Q I r ⟨_, _, rfl, .inr ⟨ys, h1, rfl⟩, h2⟩
   · exact pT pins s σ H _ us Q I r ⟨p, kvs, rfl, h1, h2⟩
 · exact h.elim
end
end L2
namespace L2
open PySem PySem.Spec PyProof.Rows
section
variable {X : Cx} {tg : Expr}
def iy : V → Hp → VK → Prop := fun x H Q => match x with | .int i => Q (.int (-i)) H | _ => False
theorem Ce : UnR X (unaryOp .USub) iy := fun pins s σ H x v Q I rx q => xc pins s σ H x v Q I rx (by
 unfold iy at q
 split at q
 · exact ⟨_, rfl, q⟩
 · exact q.elim)
def wk (K : W.Frag) : List V → Hp → VK → Prop := fun xs H Q => match xs with
 | [.str y] => y.length ≤ sizeLine ∧ Q (.int y.length) H
 | [.ref p] => (∃ xs, SqL K H p xs ∧ Q (.int xs.length) H) ∨ (∃ xs, SqT K H p xs ∧ Q (.int xs.length) H) ∨ ∃ kvs, H p = some (.dK kvs) ∧ Q (.int kvs.length) H
 | _ => False
theorem AV : bB X (.builtin "len") (wk X.K) := BN
def dr : List V → Hp → VK → Prop := fun xs H Q => match xs with
 | [x, .ty T] => T ∈ ["int", "bool", "str", "tuple", "list", "dict"] ∧ ∃ t, tyN H x = some t ∧ Q (.bl (isI t T)) H
 | _ => False
theorem dI : bB X (.builtin "isinstance") dr := fun pins s σ H xs us Q I r h => by
 unfold dr at h
 split at h
 · obtain ⟨h1, t, h2, h3⟩ := h
   exact rC pins s σ H _ us Q I r ⟨_, _, t, rfl, h1, h2, h3⟩
 · exact h.elim
def sF : List V → Hp → VK → Prop := fun xs H Q => ∃ (a : Addr) (bs : List Bool), xs = [.ref a] ∧ H a = some (.lst (bs.map V.bl)) ∧ Q (.bl (bs.all id)) H
theorem vQ (hc : X.calm = true) : bB X (.builtin "all") sF := rh hc
def tY (K : W.Frag) : List V → Hp → VK → Prop := fun xs H Q => ∃ p ys, xs = [.ref p] ∧ (SqL K H p ys ∨ SqT K H p ys) ∧ ∀ l, H l = none → Q (.ref l) (upd H l (.lst ys))
theorem AH : bB X (.type "list") (tY X.K) := lB
def lN (K : W.Frag) : List V → Hp → VK → Prop := fun xs H Q => ∃ p ys, xs = [.ref p] ∧ ((SqL K H p ys ∧ ∀ l, H l = none → Q (.ref l) (upd H l (.tup ys))) ∨ (SqT K H p ys ∧ Q (.ref p) H))
theorem pX : bB X (.type "tuple") (lN X.K) := ko
end
end L2
namespace L2
open PySem PySem.Spec PyProof.Rows
theorem pJ : bootBuiltins "all" = some (.builtin "all") := by decide +kernel
structure cg (J : It) (n : Nat) (it : Nat → V) (Pv : Hp → Prop) : Prop where
 go : ∀ i H, i < n → Pv H → J.go i H
 yld : ∀ i H x H', i < n → Pv H → J.yld i H x H' → H' = H ∧ x = it i
 stop : ∀ H, Pv H → J.stop n H
theorem cg.list {K : W.Frag} {a : Addr} {xs : List V} (d : V) : cg (Itl K a) xs.length (fun i => xs.getD i d) (fun H => SqL K H a xs) where
 go := fun i H hi h => ⟨xs, xs[i], h, by simp [hi]⟩
 yld := fun i H x H' hi h y => ⟨y.1, by have := y.2 xs h; rw [List.getD_eq_getElem?_getD, this]; rfl⟩
 stop := fun H h => ⟨xs, h, Nat.le_refl _⟩
theorem cg.tuple {K : W.Frag} {a : Addr} {xs : List V} (d : V) : cg (Itt K a) xs.length (fun i => xs.getD i d) (fun H => SqT K H a xs) where
 go := fun i H hi h => ⟨xs, xs[i], h, by simp [hi]⟩
 yld := fun i H x H' hi h y => ⟨y.1, by have := y.2 xs h; rw [List.getD_eq_getElem?_getD, this]; rfl⟩
 stop := fun H h => ⟨xs, h, Nat.le_refl _⟩
theorem cg.range {lo : Int} {n : Nat} : cg (Itr lo n) n (fun i => .int (lo + i)) (fun _ => True) where
 go := fun i H hi _ => hi
 yld := fun i H x H' hi _ y => y
 stop := fun H _ => Nat.le_refl _
def CWd (n : Nat) (Pv : Nat → List V → Hp → Prop) : Nat → Nat → List V → Hp → Prop := fun i m ys H => i ≤ n ∧ m = n - i ∧ Pv i ys H
theorem CWd.next {n i : Nat} {Pv : Nat → List V → Hp → Prop} {ys : List V} {H : Hp} (hi : i < n) (h : Pv (i + 1) ys H) : ∃ m', m' < n - i ∧ CWd n Pv (i + 1) m' ys H := ⟨n - (i + 1), by omega, hi, rfl, h⟩
theorem fV {J : It} {n : Nat} {it : Nat → V} {Pk : Hp → Prop} {σ : St} {is : List Nat} {tc : TT} {te : TE} {Q : VK} {H1 : Hp} {D : Addr} (T : cg J n it Pk) (Pv : Nat → List V → Hp → Prop)
   (hk : ∀ i ys H, i ≤ n → Pv i ys H → Pk H) (h0 : Pv 0 [] (upd H1 D (.lst [])))
   (hs : ∀ i ys H2, i < n → Pv i ys H2 → tc (some (it i) :: bg σ is) H2 fun b H4 => if b = true then
    te (some (it i) :: bg σ is) H4 fun y H5 => H5 D = some (.lst ys) ∧ ys.length < sizeLine ∧ ∃ m', m' < n - i ∧ CWd n Pv (i + 1) m' (ys ++ [y]) (upd H5 D (.lst (ys ++ [y])))
    else ∃ m', m' < n - i ∧ CWd n Pv (i + 1) m' ys H4)
   (hd : ∀ ys H, Pv n ys H → Q (.ref D) H) : ui is tc te σ D J H1 Q := by
 refine ⟨CWd n Pv, ⟨n, Nat.zero_le _, rfl, h0⟩, ?_⟩
 rintro i m ys H2 ⟨hi, rfl, p⟩
 by_cases hlt : i < n
 · refine .inr ⟨T.go i H2 hlt (hk i ys H2 hi p), fun x H3 y => ?_⟩
   obtain ⟨rfl, rfl⟩ := T.yld i H2 x H3 hlt (hk i ys H2 hi p) y
   exact hs i ys _ hlt p
 · have e : i = n := by omega
   subst e
   exact .inl ⟨T.stop H2 (hk _ ys H2 hi p), hd ys H2 p⟩
theorem am.upd {H : Hp} {p : Addr} {o : HO} (h : H p = none) : am H (upd H p o) := fun b u e => by rw [ae (aj e h)]; exact e
theorem am.put {H H' : Hp} {p : Addr} {o : HO} (s : am H H') (h : H p = none) : am H (L2.upd H' p o) := fun b u e => by rw [ae (aj e h)]; exact s b u e
theorem pM {xs : List V} {i : Int} (h0 : 0 ≤ i) (h1 : i < xs.length) : atI xs i = some (xs.getD i.toNat .non) := by
 unfold atI ixN
 rw [if_pos h0, if_pos h1]
 show xs[i.toNat]? = _
 rw [List.getD_eq_getElem?_getD]
 have : i.toNat < xs.length := by omega
 rw [List.getElem?_eq_getElem this]; rfl
end L2
namespace L2
open PySem PySem.Spec PyProof.Rows
def bj : Expr → Bool
 | .Starred _ _ => false
 | _ => true
theorem aI {e : Expr} (h : bj e = true) (bq : List Expr) (env : Env) : starEach (e :: bq) env = (false, eval e env) :: starEach bq env := by
 cases e <;> first | rfl | cases h
def aH : List Expr → Bool
 | [] => true
 | e :: r => bj e && aH r
theorem bc : ∀ {es : List Expr} {env : Env} {pos : Pos}, aH es = true → (backTo pos (starEach es env)).any (·.1) = false
  | [], _, _, _ => rfl
  | e :: r, env, pos, h => by
    have h : (bj e && aH r) = true := h
    rw [Bool.and_eq_true] at h
    rw [aI h.1]
    show (false || (backTo pos (starEach r env)).any (·.1)) = false
    rw [bc h.2]; rfl
section
variable {X : Cx} {e : Expr} {es : List Expr} {te : TE} {t : TA} {pos : Pos}
theorem vk (ha : PE X e te) (hr : PA X es t) (hs : bj e = true := by rfl) : PA X (e :: es) (ac te t) := uM ha hr (aI hs es X.env)
variable {x : Str} {p apos cpos : Pos} {id T : String} {r : List V → Hp → VK → Prop}
theorem vb (hc : bB X (.builtin id) r) (hg : Gl X x) (hm : X.mg x = none) (hv : bootBuiltins x = some (.builtin id)) (ha : PA X (e :: es) t) (hn : x ≠ "__name__" := by decide) (hdb : (x == ("__debug__" : Str)) = false := by decide)
  (hs : aH (e :: es) = true := by rfl) : PE X (.Call (.Name x p) (e :: es) [] pos) (tCB r t) :=
 have h : (bj e && aH es) = true := hs
 rN hc hg hm hv ha hn hdb (aI (Bool.and_eq_true_iff.mp h).1 es X.env) (bc (Bool.and_eq_true_iff.mp h).2)
theorem sq (hc : bB X (.type T) r) (hg : Gl X x) (hm : X.mg x = none) (hv : bootBuiltins x = some (.type T)) (ha : PA X (e :: es) t) (hn : x ≠ "__name__" := by decide) (hdb : (x == ("__debug__" : Str)) = false := by decide)
  (hs : aH (e :: es) = true := by rfl) : PE X (.Call (.Name x p) (e :: es) [] pos) (tCB r t) :=
 have h : (bj e && aH es) = true := hs
 qC hc hg hm hv ha hn hdb (aI (Bool.and_eq_true_iff.mp h).1 es X.env) (bc (Bool.and_eq_true_iff.mp h).2)
variable {CX : CXT} {k : Nat} {f C : Addr} {fd : FuncData} {ps : List Str} {sp : Sp} {dvs : List V} {ds : List Value} {E : XK} {m : Str} {o : Expr} {ta : TE}
theorem ik : ∀ {es : List Expr} {env : Env} {pos : Pos}, aH es = true → (backTo pos (starEach es env)).all (fun x => !x.1) = true
  | [], _, _, _ => rfl
  | e :: r, env, pos, h => by
    have h : (bj e && aH r) = true := h
    rw [Bool.and_eq_true] at h
    rw [aI h.1]
    show (true && (backTo pos (starEach r env)).all (fun x => !x.1)) = true
    rw [ik h.2]; rfl
variable {to : TE} {name : Str} {rm : V → List V → Hp → VK → Prop}
theorem Bw (pa : PlainAttrs T) (slot : Slot T name id) (hty : typeOf (.builtin id) = pure (.type "method_descriptor")) (hm : MtR X id rm) (ho : PE X o to) (ha : PA X (e :: es) t)
  (hbase : attributeBase o name X.env (eval o X.env) = eval o X.env := by rfl) (hfew : decide ((e :: es).length < 30) = true := by rfl)
  (hline : (apos.endLine == cpos.line) = true := by rfl) (hs : aH (e :: es) = true := by rfl) : PE X (.Call (.Attribute o name apos) (e :: es) [] cpos) (tBM X.K T rm to t) :=
 have h : (bj e && aH es) = true := hs
 AN pa slot hty hm ho ha hbase (by rw [ik hs]; exact hfew) hline (aI (Bool.and_eq_true_iff.mp h).1 es X.env) (bc (Bool.and_eq_true_iff.mp h).2)
end
end L2
namespace L2
open PySem PySem.Spec PyProof.Rows
structure QE (X : Cx) (e : Expr) (t : TE) : Prop where
 out : PE X e t
structure QT (X : Cx) (e : Expr) (t : TT) : Prop where
 out : PT X e t
structure QW (X : Cx) (e : Expr) (t : TT) : Prop where
 out : PW X e t
structure QA (X : Cx) (e : List Expr) (t : TA) : Prop where
 out : PA X e t
structure QS (X : Cx) (e : Stmt) (t : TS) : Prop where
 out : PS X e t
structure QSs (X : Cx) (e : List Stmt) (t : TS) : Prop where
 out : PSs X e t
structure QI (X : Cx) (tg iter : Expr) (t : TI) : Prop where
 out : PI X tg iter t
structure QO (X : Cx) (e : Option Expr) (t : TO) : Prop where
 out : PO X e t
structure tI (X : Cx) (e : List Expr) (t : TT) : Prop where
 out : pc X e t
section
variable {X : Cx} {a b c e o : Expr} {es bq : List Expr} {ta tb tc te to tv : TE} {tA tB' : TT} {t : TA} {pos apos cpos p : Pos} {x y : Str}
theorem aa (i : Nat) (hN : X.N[i]? = some x := by rfl) (hv : Vis X.env.scope x := by first | exact Or.inl rfl | exact Or.inr (Or.inl rfl) | exact Or.inr (Or.inr rfl)) (hd : (x == ("__debug__" : Str)) = false := by decide)
 (hcd : (x == ("__classdict__" : Str)) = false := by decide) : QE X (.Name x pos) (ab i) := ⟨qv i hN hv hd hcd⟩
theorem Bv {i : Int} (hm : ∃ t, X.mg x = some (.int i t)) (hg : Gl X x := by rfl) (hd : (x == ("__debug__" : Str)) = false := by decide) : QE X (.Name x pos) (tC (.int i)) := ⟨qgi hm hg hd⟩
theorem dJ {T : String} (hm : X.mg x = none) (hv : bootBuiltins x = some (.type T)) (hg : Gl X x := by rfl) (hn : x ≠ "__name__" := by decide) (hd : (x == ("__debug__" : Str)) = false := by decide) : QE X (.Name x pos) (tC (.ty T)) := ⟨vh hg hm hv rfl hn hd⟩
theorem aq {i : Int} {j} : QE X (.Constant (.int i) j pos) (tC (.int i)) := ⟨xl⟩
theorem dW {b : Bool} {j} : QE X (.Constant (.bool b) j pos) (tC (.bl b)) := ⟨zH⟩
theorem cF {z : Str} {j} : QE X (.Constant (.str z) j pos) (tC (.str z)) := ⟨xw⟩
theorem kQ (ha : QE X a ta) : QE X (.UnaryOp .USub a pos) (tUn iy ta) := ⟨zD Ce ha.out⟩
theorem uc (ha : QE X a ta) : QE X (.UnaryOp .Not a pos) (li ta) := ⟨AK ha.out⟩
theorem aA {op : Operator} {r : R2} (ho : OpR X (binaryOp op) r) (ha : QE X a ta) (hb : QE X b tb) : QE X (.BinOp a op b pos) (tOp r ta tb) := ⟨yY ho ha.out hb.out⟩
theorem kX {op : CmpOp} {r : R2} (ho : OpR X (compareOp op) r) (ha : QE X a ta) (hb : QE X b tb) (hm : behindInMarks op b = false := by first | exact iZ _ | rfl) : QE X (.Compare a [op] [b] pos) (tOp r ta tb) := ⟨qc ho ha.out hb.out hm⟩
theorem jx {op op' : CmpOp} {r r' : R2} (ho : OpR X (compareOp op) r) (ho' : OpR X (compareOp op') r') (ha : QE X a ta) (hb : QE X b tb) (hc : QE X c tc) (hm : lastMarks [op, op'] [b, c] = false := by with_unfolding_all rfl) :
 QE X (.Compare a [op, op'] [b, c] pos) (eG r r' ta tb tc) := ⟨qch ho ho' ha.out hb.out hc.out hm⟩
theorem dO {op} (h : QE X a ta) : QE X (.BoolOp op [a] pos) ta := ⟨wG h.out⟩
theorem de (ha : QE X a ta) (hb : QE X (.BoolOp .And (b :: bq) pos) tb) : QE X (.BoolOp .And (a :: b :: bq) pos) (cK ta tb) := ⟨BC ha.out hb.out⟩
theorem BS (ha : QE X a ta) (hb : QE X (.BoolOp .Or (b :: bq) pos) tb) : QE X (.BoolOp .Or (a :: b :: bq) pos) (tE ta tb) := ⟨qor ha.out hb.out⟩
theorem BR (hc : QT X c tA) (ha : QE X a ta) (hb : QE X b tb) : QE X (.IfExp c a b pos) (mIf tA ta tb) := ⟨Bk hc.out ha.out hb.out⟩
theorem ah : QA X [] ag := ⟨vK⟩
theorem ad (ha : QE X e te) (hr : QA X es t) (hs : bj e = true := by rfl) : QA X (e :: es) (ac te t) := ⟨vk ha.out hr.out hs⟩
theorem gw (h : QA X es t) : QE X (.List es pos) (gz t) := ⟨we h.out⟩
theorem cJ {x1} (h : QA X es t) : QE X (.Tuple es x1 pos) (cO t) := ⟨wW h.out⟩
theorem bi {r : R2} (hr : IxR X r) (ha : QE X a ta) (hb : QE X b tb) (hs : mC b) : QE X (.Subscript a b pos) (tOp r ta tb) := ⟨zM hr ha.out hb.out hs⟩
theorem dD : QO X none bv := ⟨vm⟩
theorem bV (h : QE X e te) : QO X (some e) (bD te) := ⟨uL h.out⟩
theorem cM {r : V → Option Int → Option Int → Hp → VK → Prop} {lo hi : Option Expr} {tl th : TO} {p2 : Pos} (hr : SlR X r) (he : QE X e te) (hl : QO X lo tl) (hu : QO X hi th) : QE X (.Subscript e (.Slice lo hi none p2) pos) (tSl r te tl th) := ⟨sP hr he.out hl.out hu.out⟩
variable {id T : String} {r : List V → Hp → VK → Prop}
theorem aB (hc : bB X (.builtin id) r) (hm : X.mg x = none) (hv : bootBuiltins x = some (.builtin id)) (ha : QA X (e :: es) t) (hg : Gl X x := by rfl) (hn : x ≠ "__name__" := by decide) (hdb : (x == ("__debug__" : Str)) = false := by decide)
 (hs : aH (e :: es) = true := by rfl) : QE X (.Call (.Name x p) (e :: es) [] pos) (tCB r t) := ⟨vb hc hg hm hv ha.out hn hdb hs⟩
theorem iE (hc : bB X (.type T) r) (hm : X.mg x = none) (hv : bootBuiltins x = some (.type T)) (ha : QA X (e :: es) t) (hg : Gl X x := by rfl) (hn : x ≠ "__name__" := by decide) (hdb : (x == ("__debug__" : Str)) = false := by decide)
 (hs : aH (e :: es) = true := by rfl) : QE X (.Call (.Name x p) (e :: es) [] pos) (tCB r t) := ⟨sq hc hg hm hv ha.out hn hdb hs⟩
variable {CX : CXT} {k : Nat} {f C : Addr} {fd : FuncData} {ps : List Str} {sp : Sp} {dvs : List V} {ds : List Value} {E : XK} {m : Str}
variable {name : Str} {rm : V → List V → Hp → VK → Prop}
theorem dZ (pa : PlainAttrs T) (slot : Slot T name id) (hty : typeOf (.builtin id) = pure (.type "method_descriptor")) (hm : MtR X id rm) (ho : QE X o to) (ha : QA X (e :: es) t)
 (hbase : attributeBase o name X.env (eval o X.env) = eval o X.env := by rfl) (hfew : decide ((e :: es).length < 30) = true := by rfl)
 (hline : (apos.endLine == cpos.line) = true := by rfl) (hs : aH (e :: es) = true := by rfl) : QE X (.Call (.Attribute o name apos) (e :: es) [] cpos) (tBM X.K T rm to t) := ⟨Bw pa slot hty hm ho.out ha.out hbase hfew hline hs⟩
theorem bf {op : CmpOp} {r : R2} (ho : OpR X (compareOp op) r) (ha : QE X a ta) (hb : QE X b tb) (hm : behindInMarks op b = false := by first | exact iZ _ | rfl) : QT X (.Compare a [op] [b] pos) (be (tOp r ta tb)) := ⟨qtc ho ha.out hb.out hm⟩
theorem sB {op op' : CmpOp} {r r' : R2} (ho : OpR X (compareOp op) r) (ho' : OpR X (compareOp op') r') (ha : QE X a ta) (hb : QE X b tb) (hc : QE X c tc) (hm : lastMarks [op, op'] [b, c] = false := by with_unfolding_all rfl) :
 QT X (.Compare a [op, op'] [b, c] pos) (be (eG r r' ta tb tc)) := ⟨Bt ho ho' ha.out hb.out hc.out hm⟩
theorem bz (h : QE X e te) (he : ∀ whole, isTrue e X.env whole = (do let v ← whole; standAt e.pos; holding [v] (truthy v)) := by intro _; rfl) : QT X e (cb X.K te) := ⟨qtb h.out he⟩
theorem bO (ha : QT X a tA) : QT X (.UnaryOp .Not a pos) (cz tA) := ⟨xu ha.out⟩
theorem x_w (h : QW X e tA) : QT X e tA := ⟨h.out.pt⟩
theorem uX (ha : QT X a tA) : QW X (.BoolOp .And [a] pos) tA := ⟨vA ha.out⟩
theorem lS (ha : QT X a tA) : QW X (.BoolOp .Or [a] pos) tA := ⟨vI ha.out⟩
theorem wv (ha : QT X a tA) (hb : QW X (.BoolOp .And (b :: bq) pos) tB') : QW X (.BoolOp .And (a :: b :: bq) pos) (rp tA tB') := ⟨wH ha.out hb.out⟩
theorem lq (ha : QT X a tA) (hb : QW X (.BoolOp .Or (b :: bq) pos) tB') : QW X (.BoolOp .Or (a :: b :: bq) pos) (mOr tA tB') := ⟨zl ha.out hb.out⟩
variable {tg iter elt : Expr} {wi : TI} {ifs : List Expr} {scope : Scope} {ys : List Str} {is : List Nat} {px py spos : Pos}
theorem rY (hm : X.mg "range" = none) (ha : QA X [a] t) (hg : Gl X "range" := by rfl) (hs : bj a = true := by rfl) : QI X tg (.Call (.Name "range" p) [a] [] pos) (lh t) := ⟨pU hg hm ha.out (aI hs [] X.env)⟩
theorem gP : tI X [] (fun _ H Q => Q true H) := ⟨rfl⟩
theorem jg {tcn : TT} (S : dC scope x ys) (hcap : eM X scope ys is) (hi : QI X (.Name x px) iter wi)
 (hif : ∀ C s H fp, tI (aV X scope C (x :: ys) s H fp) ifs tcn) (he : ∀ C s H fp, QE (aV X scope C (x :: ys) s H fp) elt te) (hc : X.calm = true := by rfl)
 (hs : ∀ x, foldedSetIterable iter X.env x = pure x := by intro _; rfl) : QE X (.ListComp elt [⟨.Name x px, iter, ifs, 0⟩] scope pos) (eB is wi tcn te) := ⟨uO hc S hcap hi.out (fun C s H fp => (hif C s H fp).out) (fun C s H fp => (he C s H fp).out) hs⟩
variable {st : Stmt} {sts : List Stmt} {tS uS : TS} {i j : Nat}
theorem aP : QSs X [] aQ := ⟨vn⟩
theorem ao (h : QS X st tS) : QSs X [st] tS := ⟨uR h.out⟩
theorem al (h1 : QS X st tS) (h2 : QSs X sts uS) : QSs X (st :: sts) (ar tS uS) := ⟨rg h1.out h2.out⟩
theorem ay (h : QE X e te) : QS X (.Return (some e) pos) (aE te) := ⟨xL h.out⟩
theorem aU {l m : List Stmt} (hc : QT X c tA) (ha : QSs X l tS) (hb : QSs X m uS) : QS X (.If c l m pos) (aX tA tS uS) := ⟨qif hc.out ha.out hb.out⟩
theorem aF (i : Nat) (hN : X.N.Nodup) (he : QE X e te) (hi : X.N[i]? = some x := by rfl) (hx : Loc X.env.scope x := by first | exact .inl rfl | exact .inr rfl)
 (hs : swapsWith e (some (.Name x p)) pos.line X.env = pure false := by rfl) (hf : X.fn x = true ∨ X.env.scope.names.lookup x = some .local := by first | exact .inl rfl | exact .inr rfl) : QS X (.Assign [.Name x p] e pos) (az te (au i)) := ⟨xY hN hi hx he.out hs hf⟩
theorem qp (j : Nat) {tcn : TT} (hN : X.N.Nodup) (S : dC scope x ys) (hcap : eM X scope ys is) (hi : QI X (.Name x px) iter wi)
  (hif : ∀ C s H fp, tI (aV X scope C (x :: ys) s H fp) ifs tcn) (he : ∀ C s H fp, QE (aV X scope C (x :: ys) s H fp) elt te) (hc : X.calm = true := by rfl)
  (hj : X.N[j]? = some y := by rfl) (hy : Loc X.env.scope y := by first | exact .inl rfl | exact .inr rfl)
  (hsw : swapsWith (.ListComp elt [⟨.Name x px, iter, ifs, 0⟩] scope pos) (some (.Name y py)) spos.line X.env = pure true := by rfl) (hf : X.fn y = true ∨ X.env.scope.names.lookup y = some .local := by first | exact .inl rfl | exact .inr rfl)
  (hs : ∀ x, foldedSetIterable iter X.env x = pure x := by intro _; rfl) : QS X (.Assign [.Name y py] (.ListComp elt [⟨.Name x px, iter, ifs, 0⟩] scope pos) spos) (az (eB is wi tcn te) (au j)) :=
 ⟨nX hN hj hy hc S hcap hi.out (fun C s H fp => (hif C s H fp).out) (fun C s H fp => (he C s H fp).out) hsw hf hs⟩
theorem cG (h : QE X e te) (hs : swapsWith e none pos.line X.env = pure false := by rfl) : QS X (.Expr e pos) (bW te) := ⟨uH h.out hs⟩
theorem gZ (i : Nat) (hN : X.N.Nodup) {body : List Stmt} (hi : QI X (.Name x px) iter wi) (hb : QSs X body tS) (hp : PassesOwn (model X.prog X.w) X.A X.env X.xe) (hc : X.calm = true := by rfl)
 (hj : X.N[i]? = some x := by rfl) (hx : Loc X.env.scope x := by first | exact .inl rfl | exact .inr rfl) (hf : X.fn x = true ∨ X.env.scope.names.lookup x = some .local := by first | exact .inl rfl | exact .inr rfl)
 (hs : ∀ x, foldedSetIterable iter X.env x = pure x := by intro _; rfl) : QS X (.For (.Name x px) iter body [] pos) (dG wi (au i) tS) := ⟨qN hp hc hi.out (ju hN hj hx hf) hb.out hs⟩
theorem fM {body : List Stmt} (hc : QT X c tA) (hb : QSs X body tS) (hp : PassesOwn (model X.prog X.w) X.A X.env X.xe) : QS X (.While c body [] pos) (fk tA tS) := ⟨rD hp hc.out hb.out⟩
theorem dE : QS X st dw := ⟨rJ⟩
end
end L2
namespace L2
open PySem PySem.Spec PyProof.Rows
structure Fly (P : Program) (w : World) (l : List Env) (H : Hp) (s : Shared) (cls fl : Value) (a : Addr) (H' : Hp) (s' : Shared) : Prop where
 os : s'.os = s.os
 bare : AllBare s'.gens
 un : Un (frs l) [] H H' s.heap s'.heap
 hok : HOk P w H' s'.heap
 new : s.heap.get? a = none
 free : H' a = none
 tr : ∃ oe vs a0 T oT ts, s'.heap.get? a = some oe ∧ oe.cls = cls ∧ oe.data = .fields vs ∧ vs[0]? = some a0 ∧ vs[1]? = some (.ref T) ∧ T ≠ a ∧ s'.heap.get? T = some oT ∧ oT.data = .fields ts ∧ ts[3]? = some fl ∧ s.heap.get? T = none ∧ H' T = none
def CX1 (P : Program) (w : World) : CXT := fun outer H s E e s' => ∃ a C H', e = .ref a ∧ Fly P w outer H s (.ref C) .none a H' s' ∧ E (.ref C) none H'
theorem qS {P : Program} {w : World} {H : Hp} {h : Heap} {a : Addr} {o : HO} (x : aM P w H h a o) : ∃ u, h.get? a = some u := by
 cases o with
 | lst xs => obtain ⟨_, _, _, _, e⟩ := x; exact ⟨_, e⟩
 | tup xs => obtain ⟨_, _, _, p⟩ := x; obtain ⟨o, e, _⟩ := p; exact ⟨_, e⟩
 | dK kvs => obtain ⟨_, _, _, _, o, _, _, e, _⟩ := x; exact ⟨_, e⟩
 | dT kvs => obtain ⟨_, _, _, _, o, _, _, e, _⟩ := x; exact ⟨_, e⟩
 | set S n => obtain ⟨o, _, _, _, e, _⟩ := x; exact ⟨_, e⟩
 | ins C dx fs => obtain ⟨_, _, _, e, _⟩ := x; exact ⟨_, e⟩
 | own y => exact x
 | xd fs => obtain ⟨_, ⟨_, _, _, e, _⟩, _⟩ := x; exact ⟨_, e⟩
 | rng lo hi => obtain ⟨_, _, _, e⟩ := x; exact ⟨_, e⟩
 | frz ob u => obtain ⟨e, _⟩ := x; exact ⟨_, e⟩
 | tbl ps => exact ⟨_, (show h.get? a = some _ from x)⟩
 | met f y => exact ⟨_, (show h.get? a = some _ from x)⟩
 | ext φ => obtain ⟨_, e, _⟩ := x; exact e
section
variable {P : Program} {w : World} {l : List Env} {H H' : Hp} {s s' : Shared} {cls fl fl' : Value} {a : Addr} {base : Heap}
end
end L2
namespace L2
open PySem PySem.Spec PyProof.Rows
section
variable {X : Cx} {pins : List (Addr × Obj)} {σ : St} {H H' : Hp} {s s' : Shared} {cls fl : Value} {a : Addr}
end
def dN (CX : CXT) (X : Cx) (E : St → XK) : Prop := ∀ (pins : List (Addr × Obj)) (σ : St) (H : Hp) (s : Shared) (e : Value) (s' : Shared), Inv X pins σ H s → CX X.stack H s (E σ) e s' → X.xe e s'
theorem bh {P : Program} {w : World} {X : Cx} : dN (CX1 P w) X (fun _ => E0) := fun pins σ H s e s' I ⟨_, _, _, _, _, h⟩ => h.elim
section
variable {P : Program} {w : World} {K : W.Frag} {mg : Str → Option Value} {base : Heap} {N : List Str} {qual : Str} {scope : Scope} {f : Addr} {cd : Value} {A : Around} {outer : List Env} {s : Shared} {H : Hp} {E : XK}
end
def av (sp : Sp) (E : St → XK) (t : TA) : TE := fun σ H Q => t σ H fun vs H1 => sp vs H1 Q (E σ)
section
variable {X : Cx} {CX : CXT} {k : Nat} {f : Addr} {fd : FuncData} {ps : List Str} {sp : Sp} {E : St → XK} {x : Str} {p pos : Pos} {e : Expr} {es : List Expr} {t : TA}
theorem gY {pins : List (Addr × Obj)} {σ : St} {H : Hp} {s : Shared} {Q : VK} {us : List Value} {vs : List V} (F : aJ X.prog X.w X.K X.mg X.base CX k f fd ps sp) (hr : aO k X.A) (hb : bu X.K fd ps []) (hx : dN CX X E)
    (I : Inv X pins σ H s) (r : ax vs us) (h : sp vs H Q (E σ)) : wpAny (model X.prog X.w) X.A (call (.ref f) us) (EP X pins σ Q) X.xe s := by
  have hl : us.length = ps.length := by rw [← r.length]; exact F.len _ _ _ _ h
  have hb' := hb s us I.kIn (by rw [List.append_nil]; exact hl)
  rw [List.append_nil] at hb'
  refine wpAny_call (codeAny_mono (F.run X.A X.stack s H ⟨us, []⟩ us vs Q (E σ) hr I.env0 hb' r h) fun r s' hq => ?_)
  cases r with
  | error e => exact hx pins σ H s e s' I hq
  | ok fl =>
    cases fl with
    | ret u => exact I.after hq
    | next => exact False.elim hq
    | brk => exact False.elim hq
    | cont => exact False.elim hq
theorem vC (F : aJ X.prog X.w X.K X.mg X.base CX k f fd ps sp) (hr : aO k X.A) (hm : X.mg x = some (.ref f)) (hk : W.keepIn X.K (.ref f) = true) (hb : bu X.K fd ps []) (hx : dN CX X E)
  (ha : QA X (e :: es) t) (hg : Gl X x := by rfl) (hdb : (x == ("__debug__" : Str)) = false := by decide) (hs : aH (e :: es) = true := by rfl) : QE X (.Call (.Name x p) (e :: es) [] pos) (av sp E t) := by
 refine ⟨fun pins s σ H Q I h => ?_⟩
 have h' : (bj e && aH es) = true := hs
 refine wpAny_Call_Name_kw (fU I hg hm ?_ hdb)
 refine W.callWith_K (h₀ := X.base) I.ok.mod.kin hk (thn (ha.out pos pins s σ H _ I h) fun us s1 ⟨vs, H1, I1, r, q⟩ => ⟨I1.kIn, ?_⟩) (aI (Bool.and_eq_true_iff.mp h').1 es X.env) (bc (Bool.and_eq_true_iff.mp h').2)
 exact gY F hr hb hx I1 r q
theorem lJ (F : aJ X.prog X.w X.K X.mg X.base CX k f fd ps sp) (hr : aO k X.A) (hm : X.mg x = some (.ref f)) (hk : W.keepIn X.K (.ref f) = true) (hb : bu X.K fd ps []) (hx : dN CX X E)
  (hg : Gl X x := by rfl) (hdb : (x == ("__debug__" : Str)) = false := by decide) : QE X (.Call (.Name x p) [] [] pos) (av sp E ag) := by
 refine ⟨fun pins s σ H Q I h => ?_⟩
 refine wpAny_Call_Name_kw (fU I hg hm ?_ hdb)
 exact W.callWith_K0 I.kIn hk (gY (us := []) F hr hb hx I .nil h)
end
end L2
namespace L2
open PySem PySem.Spec PyProof.Rows
section
variable {X : Cx} {pins : List (Addr × Obj)} {σ : St} {H H1 H' : Hp} {s s0 : Shared} {a : Addr} {o : HO}
end
section
variable {X : Cx} {pins : List (Addr × Obj)} {σ : St} {H : Hp} {s : Shared} {a : Addr}
end
abbrev TH := fc → St → Addr → Hp → Prop
section
variable {X : Cx}
variable {x n : Str} {np hp : Pos} {Dc : Addr} {b0 : Stmt} {suite : List Stmt} {bq : List ExceptHandler} {ts : TS} {r : TH} {i : Nat}
end
end L2
namespace L2
open PySem PySem.Spec PyProof.Rows
section
variable {X : Cx} {pins pn : List (Addr × Obj)} {σ : St} {H : Hp} {s : Shared} {E' : Value → Shared → Prop}
end
section
variable {X : Cx}
end
end L2
namespace L2
open PySem PySem.Spec PyProof.Rows
section
variable {K : W.Frag} {prog : Program} {w : World} {A : Around} {E : Value → Shared → Prop} {h : Heap} {g : Array GenState} {d : Drawn} {t : Nat} {os : OsState} {a C : Addr} {o : Obj}
end
section
variable {X : Cx}
end
end L2
namespace HT
open PySem PyProof.Rows
section
variable {prog : Program} {w : World} {A : Around} {E : Value → Shared → Prop} {s : Shared}
theorem gE {t sl : Addr} {items : Array Value} {vl vu : Value} {lo hi : Option Int} {Q : Value → Shared → Prop} (ht : IsTup s.heap t items) (hs : s.heap.IsSliceOf sl vl vu .none) (pl : IsPart vl lo) (pu : IsPart vu hi)
  (hw : sIx items.size 0 lo = 0 ∧ sIx items.size items.size hi = items.size) (h : Q (.ref t) s) : wpAny (model prog w) A (getItem (.ref t) (.ref sl)) Q E s := by
 obtain ⟨os, hos, hcs, hds⟩ := id hs
 have hTs : s.TypeIs (.ref sl) "slice" := ⟨os, hos, hcs⟩
 unfold getItem
 try with_reducible refine wpAny_holding ?_
 first | refine wpAny_bind (wpAny_pure ?_) | skip
 refine wpAny_bind (wpAny_sequenceKey ht.typeIs (by decide) ?_)
 refine wpAny_bind (wpAny_callSpecial?_slot (name := Str.ofString "__getitem__") ht.typeIs PyProof.Rows.slot_tuple_getitem
  (wpAny_call_entry PyProof.Rows.slot_tuple_getitem ht.typeIs entry_tuple_getitem ?_ (args_tuple_getitem _ _)))
 show wpAny _ _ (Builtin.Tuple.tupleItemsOf (.ref t) >>= _) _ _ s
 refine wpAny_bind (tupleItemsOf_ ht ?_)
 refine wpAny_bind (wpAny_typeOf hTs ?_)
 rw [if_pos (by decide)]
 refine wpAny_bind (fq hs pl pu ?_)
 have hyes : (((sIx items.size 0 lo : Nat) : Int) == 0 && (1 : Int) == 1 && (sIx items.size items.size hi - sIx items.size 0 lo) == items.size) = true := by
  rw [hw.1, hw.2]; simp
 show wpAny _ _ (if (((sIx items.size 0 lo : Nat) : Int) == 0 && (1 : Int) == 1 && (sIx items.size items.size hi - sIx items.size 0 lo) == items.size) = true then _ else _) _ _ s
 rw [if_pos hyes]
 have hte : s.TypeIs (.ref t) "tuple" := ht.typeIs
 unfold Builtin.Tuple.tupleIsExact
 repeat (first | exact ⟨_, rfl, wpAny_pure h⟩ | (with_reducible refine wpAny_typeOf hte ?_) | wp_step)
end
end HT
namespace HT
open PySem PyProof.Rows
section
variable {prog : Program} {w : World} {A : Around} {E : Value → Shared → Prop} {s : Shared}
theorem qV {t b : Addr} {ws : List Value} {Q : Value → Shared → Prop} (ht : IsTup s.heap t #[]) (hb : IsTup s.heap b ws.toArray) (h1 : Q (.ref b) s) : wpAny (model prog w) A (binaryOp .Add (.ref t) (.ref b)) Q E s := by
 obtain ⟨⟨cls, dd, data, sl⟩, ho, hc, n, hd⟩ := id ht
 obtain ⟨⟨cls2, dd2, data2, sl2⟩, ho2, hc2, n2, hd2⟩ := id hb
 simp only at hc hd hc2 hd2
 subst hc hd hc2 hd2
 exact concat_meets ⟨_, ho, rfl⟩ ⟨_, ho2, rfl⟩ noFill_tuple_add seq_tuple_add PySem.F.slot_tuple_add PySem.F.entry_tuple_add (PySem.F.args_tuple_add_2 _ _)
  (tuple_addW0 t b #[] ws.toArray n n2 dd dd2 sl sl2 (by simp)) ⟨ho, ho2, h1⟩
end
end HT
namespace L2
open PySem PySem.Spec PyProof.Rows
theorem am.rfl' {H : Hp} : am H H := fun _ _ e => e
theorem nC {xs : List V} {lo hi : Option Int} (h : HT.sIx xs.length 0 lo = 0 ∧ HT.sIx xs.length xs.length hi = xs.length) : df xs lo hi = xs := by
 unfold df
 rw [h.1, h.2, List.drop_zero, Nat.sub_zero, List.take_length]
section
variable {X : Cx}
def uA : V → Option Int → Option Int → Hp → VK → Prop := fun x lo hi H Q => ∃ a xs, x = .ref a ∧ H a = some (.tup xs) ∧ ∀ p H', am H H' → H' p = some (.tup (df xs lo hi)) → Q (.ref p) H'
theorem vx : SlR X uA := by
 intro pins s σ H x v vl vu lo hi sl Q I rx hs pl pu h
 obtain ⟨a, xs, rfl, hx, q⟩ := h
 have hq : SqT X.K H a xs := .inl (.inl hx)
 by_cases hw : HT.sIx xs.length 0 lo = 0 ∧ HT.sIx xs.length xs.length hi = xs.length
 · cases rx
   obtain ⟨its, r, ht, hz⟩ := I.tuple hq
   have hlen : its.toArray.size = xs.length := by rw [List.size_toArray]; exact r.length.symm
   refine ⟨"tuple", _, PyProof.Rows.slot_tuple_getitem.lookup, ht.typeIs, ?_⟩
   refine HT.gE ht hs pl pu (by rw [hlen]; exact hw) ?_
   exact ⟨.ref a, H, I, rfl, q a H am.rfl' (by rw [nC hw]; exact hx)⟩
 · exact yk pins s σ H _ v vl vu lo hi sl Q I rx hs pl pu ⟨a, xs, rfl, hq, hw, fun p hp => q p _ (am.upd hp) (af ..)⟩
def ut : R2 := fun x y H Q => ∃ a b xs ys, x = .ref a ∧ y = .ref b ∧ H a = some (.tup xs) ∧ H b = some (.tup ys) ∧ xs.length + ys.length ≤ sizeLine ∧ ∀ p H', am H H' → H' p = some (.tup (xs ++ ys)) → Q (.ref p) H'
theorem uY : OpR X (binaryOp .Add) ut := by
 intro pins s σ H x y v u Q I rx ry h
 obtain ⟨a, b, xs, ys, rfl, rfl, ha, hb, hz, q⟩ := h
 by_cases hx : xs = []
 · subst hx
   cases rx
   cases ry
   obtain ⟨its, r1, p1, _⟩ := I.tuple (.inl (.inl ha))
   obtain ⟨its2, r2, p2, _⟩ := I.tuple (.inl (.inl hb))
   cases r1
   exact HT.qV p1 p2 ⟨.ref b, H, I, rfl, q b H am.rfl' hb⟩
 · refine ve pins s σ H _ _ v u Q I rx ry ⟨a, b, xs, ys, rfl, rfl, .inl (.inl ha), .inl (.inl hb), hx, hz, fun e => ?_, fun _ p hp => q p _ (am.upd hp) (af ..)⟩
   subst e
   exact q a H am.rfl' (by rw [List.append_nil]; exact ha)
def bn (K : W.Frag) : R2 := fun x y H Q => match x, y with
 | .int i, .int j => Q (.int (i + j)) H
 | .str i, .str j => i.length + j.length ≤ sizeLine ∧ Q (.str (i ++ j)) H
 | .ref a, .ref b => wg (.ref a) (.ref b) H Q ∨ ut (.ref a) (.ref b) H Q
 | _, _ => False
theorem bM : OpR X (binaryOp .Add) (bn X.K) := (xU.or (nA.or (wY.or uY))).imp fun x y H Q q => by
 unfold bn at q
 split at q
 · exact .inl ⟨_, _, rfl, rfl, q⟩
 · exact .inr (.inl ⟨_, _, rfl, rfl, q.1, q.2⟩)
 · exact .inr (.inr q)
 · exact q.elim
def wZ (K : W.Frag) : V → Option Int → Option Int → Hp → VK → Prop := fun x lo hi H Q => yb K x lo hi H Q ∨ uA x lo hi H Q
theorem xJ : SlR X (wZ X.K) := vi.or vx
def nB (t : TE) : TE := fun σ H Q => t σ H fun x H' => match x with
 | .int i => i.natAbs.log2 < 1920 ∧ Q (.str (toString i)) H'
 | .str z => z.length ≤ sizeLine ∧ Q (.str z) H'
 | _ => False
theorem nr {e : Expr} {te : TE} {pos : Pos} (h : QE X e te) : QE X (.FormattedValue e (-1) none pos) (nB te) := ⟨fun pins s σ H Q I q => by
 refine FormattedValue_plain (thn (h.out pins s σ H _ I q) fun v s1 ⟨x, H1, I1, r1, q1⟩ => ?_)
 cases x <;> first | exact q1.elim | skip
 · rename_i i
   obtain ⟨t, rfl⟩ := (show ∃ t, v = Value.int i t from r1)
   exact formatField_int_small q1.1 ⟨.str _, H1, I1.tok _, ⟨_, rfl⟩, q1.2⟩
 · rename_i z
   obtain ⟨t, rfl⟩ := (show ∃ t, v = Value.str z t from r1)
   exact formatField_str (fun t' tk => ⟨.str _, H1, I1.tok _, ⟨_, rfl⟩, q1.2⟩) q1.1⟩
def mJ : List TE → Str → TE
  | [], acc => fun σ H Q => acc.length ≤ sizeLine ∧ Q (.str acc) H
  | t :: r, acc => fun σ H Q => t σ H fun x H' => match x with
    | .str y => (acc ++ y).length ≤ sizeLine ∧ mJ r (acc ++ y) σ H' Q
    | _ => False
inductive QJ (X : Cx) : List Expr → List TE → Prop where
 | nil : QJ X [] []
 | cons {e : Expr} {t : TE} {es : List Expr} {ts : List TE} : QE X e t → QJ X es ts → QJ X (e :: es) (t :: ts)
theorem Az {es : List Expr} {ts : List TE} (j : QJ X es ts) : ∀ {pins : List (Addr × Obj)} {s : Shared} {σ : St} {H : Hp} {Q : VK} {acc : Str}, Inv X pins σ H s → mJ ts acc σ H Q → wpAny (model X.prog X.w) X.A (joinParts acc (evalEach es X.env)) (EP X pins σ Q) X.xe s := by
  induction j with
  | nil => intro pins s σ H Q acc I q; exact joinParts_nil ⟨.str _, H, I.tok _, ⟨_, rfl⟩, q.2⟩ q.1
  | cons h _ ih =>
    intro pins s σ H Q acc I q
    refine joinParts_cons (thn (h.out pins s σ H _ I q) fun v s1 ⟨x, H1, I1, r1, q1⟩ => ?_)
    cases x <;> first | exact q1.elim | skip
    rename_i z
    obtain ⟨t, rfl⟩ := (show ∃ t, v = Value.str z t from r1)
    exact ⟨q1.1, ih I1 q1.2⟩
theorem qM {v1 v2 : Expr} {bq : List Expr} {ts : List TE} {pos : Pos} (j : QJ X (v1 :: v2 :: bq) ts) : QE X (.JoinedStr (v1 :: v2 :: bq) pos) (mJ ts Str.empty) := ⟨fun pins s σ H Q I q => JoinedStr_many (Az j I q)⟩
end
end L2
namespace L2
open PySem PySem.Spec PyProof.Rows
theorem Fun.okN {P : Program} {w : World} {K : W.Frag} {mg : Str → Option Value} {base : Heap} {CX : CXT} {x qual : Str} {st : Stmt} {f : Addr} {fd : FuncData} {N ps : List Str} {k : Nat} {sp : Sp} (F : Fun K x qual st f fd) (S : aw N ps (ak st)) (len : ∀ vs H Q E, sp vs H Q E → vs.length = ps.length)
  (hbody : ∀ (cdv : Value) (A : Around) (outer : List Env) (s : Shared) (H : Hp) (vs : List V) (Q : VK) (E : XK), aO k (A.deeper (envOfC qual (ak st) s.heap.objs.size f cdv)) → sp vs H Q E →
   ∃ t, PSs (dL CX P w K mg base N qual (ak st) f cdv A outer s H E).nox (aK st) t ∧ t { nx := fun _ H' => Q .non H', rt := Q } (bY N vs) H) : aJ P w K mg base CX (k + 1) f fd ps sp := by
 obtain ⟨oc, od, kV, doc, pm, an, cdv, ct, osl, rfl, lk, hcd⟩ := F.ex
 refine yR lk hcd S len fun A outer s H vs Q E hr hsp => ?_
 obtain ⟨t, h, q⟩ := hbody cdv A outer s H vs Q E hr hsp
 exact ⟨t, h.nox, q⟩
end L2
namespace L2
open PySem PySem.Spec PyProof.Rows
section
variable {X : Cx}
def wB : V → Option Int → Option Int → Hp → VK → Prop := fun x lo hi H Q => ∃ z, x = .str z ∧ z.length ≤ sizeLine ∧ Q (.str (Txt.slice z lo hi)) H
theorem vO : SlR X wB := by
  intro pins s σ H x v vl vu lo hi sl Q I rx hs pl pu h
  obtain ⟨z, rfl, hz, q⟩ := h
  obtain ⟨t, rfl⟩ := (show ∃ t, v = Value.str z t from rx)
  refine ⟨"str", _, F.slot_str_getitem.lookup, typeIs_str _ _ _, ?_⟩
  have fin : ∀ (l u : Option (Int × Tok)), l.map (·.1) = lo → u.map (·.1) = hi → s.heap.IsSlice sl l u none → wpAny (model X.prog X.w) X.A (getItem (.str z t) (.ref sl)) (EP X pins σ Q) X.xe s := fun l u e1 e2 hs' => by
    subst e1 e2
    refine wpAny_getItem_str_slice (l := l) (u := u) (st := none) hs' rfl (post_val_or_str ⟨Nat.le_trans (Txt.slice_le z _ _) hz, fun t' k => ⟨.str _, H, I.tok k, ⟨_, rfl⟩, q⟩⟩)
  obtain ⟨os, hos, hcs, hds⟩ := hs
  cases pl with
  | none => cases pu with
    | none => exact fin none none rfl rfl ⟨os, hos, hcs, hds⟩
    | int j tj => exact fin none (some (j, tj)) rfl rfl ⟨os, hos, hcs, hds⟩
  | int i ti => cases pu with
    | none => exact fin (some (i, ti)) none rfl rfl ⟨os, hos, hcs, hds⟩
    | int j tj => exact fin (some (i, ti)) (some (j, tj)) rfl rfl ⟨os, hos, hcs, hds⟩
def cB (K : W.Frag) : V → Option Int → Option Int → Hp → VK → Prop := fun x lo hi H Q => wZ K x lo hi H Q ∨ wB x lo hi H Q
theorem dm : SlR X (cB X.K) := xJ.or vO
def jn : V → Bool
 | .int _ => true
 | .str _ => true
 | _ => false
theorem pq {A : Around} {s : Shared} {x y : V} {u v : Value} (rx : aC x u) (ry : aC y v) (hx : jn x = true) (hy : jn y = true) : PySem.SeqAt.EqAt A s u v (decide (x = y)) := by
 cases x <;> first | cases hx | skip
 all_goals (cases y <;> first | cases hy | skip)
 · obtain ⟨t, rfl⟩ := rx; obtain ⟨t', rfl⟩ := ry
   have e := PySem.SeqAt.EqAt.int_int (A := A) (s := s) ‹Int› t ‹Int› t'
   rename_i i j
   have e2 : decide (V.int i = V.int j) = (i == j) := by rw [gS (f := V.int) fun _ _ e => V.int.inj e]; rfl
   rw [e2]; exact PySem.SeqAt.EqAt.int_int i t j t'
 · obtain ⟨t, rfl⟩ := rx; obtain ⟨t', rfl⟩ := ry
   exact PySem.SeqAt.EqAt.int_str _ _ _ _
 · obtain ⟨t, rfl⟩ := rx; obtain ⟨t', rfl⟩ := ry
   exact PySem.SeqAt.EqAt.str_int _ _ _ _
 · obtain ⟨t, rfl⟩ := rx; obtain ⟨t', rfl⟩ := ry
   rename_i i j
   have e2 : decide (V.str i = V.str j) = (i == j) := by
    rw [gS (f := V.str) fun _ _ e => V.str.inj e]
    by_cases h : i = j
    · rw [h]; simp
    · rw [decide_eq_false h]; exact (beq_eq_false_iff_ne.mpr h).symm
   rw [e2]; exact PySem.SeqAt.EqAt.str_str i t j t'
theorem qk {xs ys : List V} : decide (xs = ys) = ((List.range (min xs.length ys.length)).all (fun j => decide (xs[j]? = ys[j]?)) && xs.length == ys.length) := by
 by_cases h : xs = ys
 · subst h; simp
 · rw [decide_eq_false h]
   by_cases hl : xs.length = ys.length
   · rw [hl, Nat.min_self, beq_self_eq_true, Bool.and_true]
     symm
     rw [List.all_eq_false]
     apply Classical.byContradiction
     intro hn
     apply h
     apply List.ext_getElem? fun i => ?_
     by_cases hi : i < ys.length
     · apply Classical.byContradiction
       intro hne
       exact hn ⟨i, List.mem_range.mpr hi, by simpa using hne⟩
     · rw [List.getElem?_eq_none (by omega), List.getElem?_eq_none (by omega)]
   · have : (xs.length == ys.length) = false := by simpa using hl
     rw [this, Bool.and_false]
def wo (K : W.Frag) : R2 := fun x y H Q => ∃ a b xs ys, x = .ref a ∧ y = .ref b ∧ SqT K H a xs ∧ SqT K H b ys ∧ xs.all jn = true ∧ ys.all jn = true ∧ Q (.bl (decide (xs = ys))) H
theorem wf (hu : X.A.units < cLine) : OpR X (compareOp .Eq) (wo X.K) := by
 intro pins s σ H x y v u Q I rx ry h
 obtain ⟨a, b, xs, ys, rfl, rfl, ha, hb, px, py, q⟩ := h
 cases rx
 cases ry
 obtain ⟨its, r1, p1, _⟩ := I.tuple ha
 obtain ⟨its2, r2, p2, _⟩ := I.tuple hb
 have l1 := r1.length
 have l2 := r2.length
 refine PySem.SeqAt.eq_tupleAt (e := fun j => decide (xs[j]? = ys[j]?)) p1 p2 hu (fun j h1 h2 => ?_) ?_
 · have h1 : j < its.length := by simpa using h1
   have h2 : j < its2.length := by simpa using h2
   have e1 : xs[j]? = some xs[j] := List.getElem?_eq_getElem (by omega)
   have e2 : ys[j]? = some ys[j] := List.getElem?_eq_getElem (by omega)
   obtain ⟨u1, g1, ru1⟩ := r1.get e1
   obtain ⟨u2, g2, ru2⟩ := r2.get e2
   have g1' : its.toArray[j] = u1 := by
    rw [List.getElem?_eq_getElem h1] at g1; simpa using Option.some.inj g1
   have g2' : its2.toArray[j] = u2 := by
    rw [List.getElem?_eq_getElem h2] at g2; simpa using Option.some.inj g2
   rw [g1', g2', e1, e2]
   have : decide (some xs[j] = some ys[j]) = decide (xs[j] = ys[j]) := by simp
   rw [this]
   exact pq ru1 ru2 (List.all_eq_true.mp px _ (List.getElem_mem _)) (List.all_eq_true.mp py _ (List.getElem_mem _))
 · have e := qk (xs := xs) (ys := ys)
   rw [l1, l2] at e
   simp only [List.size_toArray]
   rw [← e]
   exact ⟨.bl _, H, I, rfl, q⟩
end
end L2
namespace HT
open PySem PyProof.Rows
section
variable {prog : Program} {w : World} {A : Around} {E : Value → Shared → Prop} {s : Shared}
theorem fh {it t : Addr} {i : Nat} {items : Array Value} {x : Value} {Q : Value → Shared → Prop} (hit : s.heap.IsTupleIter it t i) (ht : s.heap.IsTuple t items) (hx : items[i]? = some x)
  (hQ : ∀ h', h'.IsTupleIter it t (i + 1) → Heap.SameBut it s.heap h' → Q x { s with heap := h' }) : wpAny (model prog w) A (Builtin.SmallTypes.nextOf (.ref it)) Q E s := by
 obtain ⟨o, ho, hc, hd⟩ := id hit
 obtain ⟨ol, hol, _, nl, hdl⟩ := ht
 unfold Builtin.SmallTypes.nextOf
 refine wpAny_bind (wpAny_callSpecial?_slot (name := Str.ofString "__next__") hit.typeIs F.slot_tuple_iterator_next
  (wpAny_call_entry F.slot_tuple_iterator_next hit.typeIs F.entry_tuple_iterator_next ?_ (F.args_tuple_iterator_next_1 _)))
 show wpAny _ _ (field (.ref it) 0 >>= _) _ _ s
 refine wpAny_bind (wpAny_field ho hd (x := .ref t) rfl ?_)
 show wpAny _ _ (if (Value.ref t == Value.none) = true then _ else _) _ _ s
 rw [if_neg (show ¬ ((Value.ref t == Value.none) = true) from Bool.false_ne_true)]
 show wpAny _ _ (field (.ref it) 1 >>= _) _ _ s
 refine wpAny_bind (wpAny_field ho hd (x := .int i 0) rfl ?_)
 show wpAny _ _ (seqItems? (.ref t) >>= _) _ _ s
 refine wpAny_bind (wpAny_seqItems hol hdl ?_)
 simp only [Int.toNat_natCast, hx]
 refine wpAny_bind (wpAny_setField ho hd (by simp) (wpAny_pure ⟨x, rfl, wpAny_pure (hQ _ ?_ (Heap.SameBut.update ..))⟩))
 exact ⟨_, Heap.get?_update_self _ ho (Obj.isFreed_of_fields (Obj.data_mapFields hd _)), (Obj.cls_mapFields ..).trans hc, by rw [Obj.data_mapFields hd]; simp [rawInt]⟩
theorem gN {it t : Addr} {i : Nat} {items : Array Value} {Q : Value → Shared → Prop} (hh : A.handled = none) (hit : s.heap.IsTupleIter it t i) (ht : s.heap.IsTuple t items) (hx : items[i]? = none)
  (hE : ∀ h' e, Heap.ExtBut it s.heap h' → (∃ o, h'.get? e = some o ∧ o.cls = .type "StopIteration") → E (.ref e) { s with heap := h' }) : wpAny (model prog w) A (Builtin.SmallTypes.nextOf (.ref it)) Q E s := by
 obtain ⟨o, ho, hc, hd⟩ := id hit
 obtain ⟨ol, hol, _, nl, hdl⟩ := ht
 unfold Builtin.SmallTypes.nextOf
 refine wpAny_bind (wpAny_callSpecial?_slot (name := Str.ofString "__next__") hit.typeIs F.slot_tuple_iterator_next
  (wpAny_call_entry F.slot_tuple_iterator_next hit.typeIs F.entry_tuple_iterator_next ?_ (F.args_tuple_iterator_next_1 _)))
 show wpAny _ _ (field (.ref it) 0 >>= _) _ _ s
 refine wpAny_bind (wpAny_field ho hd (x := .ref t) rfl ?_)
 show wpAny _ _ (if (Value.ref t == Value.none) = true then _ else _) _ _ s
 rw [if_neg (show ¬ ((Value.ref t == Value.none) = true) from Bool.false_ne_true)]
 show wpAny _ _ (field (.ref it) 1 >>= _) _ _ s
 refine wpAny_bind (wpAny_field ho hd (x := .int i 0) rfl ?_)
 show wpAny _ _ (seqItems? (.ref t) >>= _) _ _ s
 refine wpAny_bind (wpAny_seqItems hol hdl ?_)
 simp only [Int.toNat_natCast, hx]
 refine wpAny_bind (wpAny_rule (wpAny_bind (wpAny_setField ho hd (by simp) ?_)))
 show wpAny _ _ (newExc (.type "StopIteration") [] >>= _) _ _ _
 refine wpAny_bind ?_
 simp only [newExc, newTuple]
 refine wpAny_bind (wpAny_newObj_type ?_ (by size_fits))
 refine wpAny_bind (m := firstArgMember _ _) (wpAny_of_eq (a := Value.none) (by first | rfl | (simp only [firstArgMember]; rfl)) ?_)
 refine wpAny_newObj_type ?_ (by size_fits)
 simp only [raiseNew]
 refine wpAny_bind (wpAny_handled ?_)
 first | rw [show A.in1.handled = none from hh] | rw [hh]
 refine wpAny_bind (wpAny_pure (wpAny_throw ?_))
 exact hE _ _ (((Heap.SameBut.update ..).extBut.push _).push _) ⟨_, Heap.get?_push_size _ rfl, rfl⟩
structure jm (h : Heap) (z TI TO i1 i2 t1 t2 : Addr) (xs ys : Array Value) (f0 : Value) (k : Nat) : Prop where
 z : IsZip h z TI TO f0
 ti : IsPair h TI (.ref i1) (.ref i2)
 to : ∃ a b, IsPair h TO a b
 j1 : h.IsTupleIter i1 t1 k
 j2 : h.IsTupleIter i2 t2 k
theorem qy {z TI TO i1 i2 t1 t2 : Addr} {k : Nat} {xs ys : Array Value} {x y : Value} {Q : Option Value → Shared → Prop} (D : ZipApart z TI TO i1 i2 t1 t2) (Z : jm s.heap z TI TO i1 i2 t1 t2 xs ys .none k)
  (ht1 : s.heap.IsTuple t1 xs) (ht2 : s.heap.IsTuple t2 ys) (hx : xs[k]? = some x) (hy : ys[k]? = some y)
  (hQ : ∀ h', jm h' z TI TO i1 i2 t1 t2 xs ys (rawInt s.heap.objs.size) (k + 1) → IsPair h' s.heap.objs.size x y →
   (∀ c o, c ≠ z → c ≠ TO → c ≠ i1 → c ≠ i2 → s.heap.get? c = some o → h'.get? c = some o) → Q (some (.ref s.heap.objs.size)) { s with heap := h' }) :
  wpAny (model prog w) A (pyNext (.ref z)) Q E s := by
 obtain ⟨hz, hTI, ⟨a, b, hTO⟩, h1, h2⟩ := Z
 have hT : s.TypeIs (.ref z) "zip" := ⟨_, hz, rfl⟩
 unfold pyNext
 refine wpAny_bind (wpAny_attempt (wpAny_callSpecial?_slot (name := Str.ofString "__next__") hT F.slot_zip_next (wpAny_call_entry F.slot_zip_next hT F.entry_zip_next ?_ (F.args_zip_next_1 _))))
 show wpAny _ _ (field (.ref z) 2 >>= _) _ _ _
 refine wpAny_bind (wpAny_field hz rfl (x := .bool false) rfl ?_)
 show wpAny _ _ (field (.ref z) 3 >>= _) _ _ _
 refine wpAny_bind (wpAny_field hz rfl (x := .ref TI) rfl (wpAny_bind (wpAny_seqItems hTI rfl ?_)))
 show wpAny _ _ (Builtin.SmallTypes.ownedTupleIsFree (.ref z) >>= _) _ _ _
 refine wpAny_bind ?_
 unfold Builtin.SmallTypes.ownedTupleIsFree
 refine wpAny_bind (wpAny_field hz rfl (x := .none) rfl (wpAny_pure ?_))
 simp only [if_true]
 refine wpAny_bind (wpAny_rule (wpAny_bind (wpAny_field hz rfl (x := .ref TO) rfl (wpAny_bind (wpAny_setField_rec hz (by simp) fun ha hza hsa => wpAny_bind ?_)))))
 replace hza : IsZip ha z TI TO .ellipsis := hza
 simp only [List.zipIdx_cons, List.zipIdx_nil, List.forIn_cons, List.forIn_nil]
 refine wpAny_bind (wpAny_bind (wpAny_onRaise ?_))
 show wpAny _ _ (Builtin.SmallTypes.nextOf (.ref i1) >>= _) _ _ _
 refine wpAny_bind (fh (h1.at fun o e => hsa.extBut _ _ D.i1z e) (ht1.at fun o e => hsa.extBut _ _ D.l1z e) hx fun hb h1b hsb => wpAny_pure ?_)
 have hTOb : IsPair hb TO a b := hsb.extBut _ _ D.TOi1 (hsa.extBut _ _ D.TOz hTO)
 refine wpAny_bind (wpAny_seqItems hTOb rfl (wpAny_bind (wpAny_updateSeq_pair hTOb fun hc hTOc hsc => ?_)))
 replace hTOc : IsPair hc TO x b := hTOc
 refine wpAny_bind (wpAny_letGo (wpAny_pure ?_))
 refine wpAny_bind (wpAny_bind (wpAny_onRaise ?_))
 show wpAny _ _ (Builtin.SmallTypes.nextOf (.ref i2) >>= _) _ _ _
 refine wpAny_bind (fh (h2.at fun o e => hsc.extBut _ _ D.TOi2.symm (hsb.extBut _ _ D.i12.symm (hsa.extBut _ _ D.i2z e)))
  (ht2.at fun o e => hsc.extBut _ _ D.l2TO (hsb.extBut _ _ D.l2i1 (hsa.extBut _ _ D.l2z e))) hy fun hd h2d hsd => wpAny_pure ?_)
 have hTOd : IsPair hd TO x b := hsd.extBut _ _ D.TOi2 hTOc
 refine wpAny_bind (wpAny_seqItems hTOd rfl (wpAny_bind (wpAny_updateSeq_pair hTOd fun he hTOe hse => ?_)))
 replace hTOe : IsPair he TO x y := hTOe
 refine wpAny_bind (wpAny_letGo (wpAny_pure (wpAny_pure ?_)))
 refine wpAny_bind (wpAny_seqItems hTOe rfl (wpAny_bind (wpAny_newTuple ?_)))
 have hsz : he.objs.size = s.heap.objs.size := by rw [hse.1, hsd.1, hsc.1, hsb.1, hsa.1]
 have hze : IsZip he z TI TO .ellipsis := hse.extBut _ _ D.TOz.symm (hsd.extBut _ _ D.i2z.symm (hsc.extBut _ _ D.TOz.symm (hsb.extBut _ _ D.i1z.symm hza)))
 have hke : ∀ c o, c ≠ z → c ≠ TO → c ≠ i1 → c ≠ i2 → s.heap.get? c = some o → he.get? c = some o := fun c o c1 c2 c3 c4 e =>
  hse.extBut _ _ c2 (hsd.extBut _ _ c4 (hsc.extBut _ _ c2 (hsb.extBut _ _ c3 (hsa.extBut _ _ c1 e))))
 have h1e : he.IsTupleIter i1 t1 (k + 1) := h1b.at fun o e => hse.extBut _ _ D.TOi1.symm (hsd.extBut _ _ D.i12 (hsc.extBut _ _ D.TOi1.symm e))
 have h2e : he.IsTupleIter i2 t2 (k + 1) := h2d.at fun o e => hse.extBut _ _ D.TOi2.symm e
 show wpAny _ _ (Builtin.SmallTypes.ownedTupleHandOut (.ref z) (.ref he.objs.size) >>= _) _ _ _
 refine wpAny_bind ?_
 unfold Builtin.SmallTypes.ownedTupleHandOut
 have hzf : IsZip (he.push { cls := .type "tuple", data := .seq #[x, y] }) z TI TO .ellipsis := Heap.get?_push_of_some _ hze
 refine wpAny_bind (wpAny_setField_rec hzf (by simp) fun hg hzg hsg => ?_)
 replace hzg : IsZip hg z TI TO (rawInt he.objs.size) := hzg
 refine wpAny_setField_rec hzg (by simp) fun hh hzh hsh => ?_
 replace hzh : IsZip hh z TI TO (rawInt he.objs.size) := hzh
 have up : ∀ c o, c ≠ z → he.get? c = some o → hh.get? c = some o := fun c o c1 e => hsh.extBut _ _ c1 (hsg.extBut _ _ c1 (Heap.get?_push_of_some _ e))
 have hTh : IsPair hh he.objs.size x y := hsh.extBut _ _ (Nat.ne_of_gt (Heap.lt_size hze)) (hsg.extBut _ _ (Nat.ne_of_gt (Heap.lt_size hze)) (Heap.get?_push_size _ rfl))
 rw [hsz] at hzh hTh
 have fin := hQ hh ⟨hzh, up _ _ D.TIz (hke _ _ D.TIz D.TITO D.TIi1 D.TIi2 hTI), ⟨x, y, up _ _ D.TOz hTOe⟩, h1e.at fun o e => up _ o D.i1z e, h2e.at fun o e => up _ o D.i2z e⟩ hTh fun c o c1 c2 c3 c4 e => up c o c1 (hke c o c1 c2 c3 c4 e)
 rw [← hsz] at fin
 exact wpAny_pure ⟨_, rfl, wpAny_pure fin⟩
theorem sW {z TI TO i1 i2 t1 t2 : Addr} {k : Nat} {xs ys : Array Value} {Q : Option Value → Shared → Prop} (hh : A.handled = none) (D : ZipApart z TI TO i1 i2 t1 t2) (Z : jm s.heap z TI TO i1 i2 t1 t2 xs ys .none k)
    (ht1 : s.heap.IsTuple t1 xs) (ht2 : s.heap.IsTuple t2 ys) (hend : xs[k]? = none ∨ ys[k]? = none)
    (hQ : ∀ h', (∀ c o, c ≠ z → c ≠ TO → c ≠ i1 → c ≠ i2 → s.heap.get? c = some o → h'.get? c = some o) → Q none { s with heap := h' }) : wpAny (model prog w) A (pyNext (.ref z)) Q E s := by
  obtain ⟨hz, hTI, ⟨a, b, hTO⟩, h1, h2⟩ := Z
  have hT : s.TypeIs (.ref z) "zip" := ⟨_, hz, rfl⟩
  have fin : ∀ h' e, (∀ c o, c ≠ z → c ≠ TO → c ≠ i1 → c ≠ i2 → s.heap.get? c = some o → h'.get? c = some o) → (∃ o, h'.get? e = some o ∧ o.cls = .type "StopIteration") →
      wpAny (model prog w) A (do if ← isInstance (.ref e) (.type "StopIteration") then pure none else throw (.ref e)) Q E { s with heap := h' } := fun h' e hk ⟨o, ho, hc⟩ =>
    wpAny_bind (wpAny_isInstance (T := "StopIteration") (b := true) ⟨o, ho, hc⟩ isSubtype_stop (wpAny_pure (hQ _ hk)))
  unfold pyNext
  refine wpAny_bind (wpAny_attempt (wpAny_callSpecial?_slot (name := Str.ofString "__next__") hT F.slot_zip_next (wpAny_call_entry F.slot_zip_next hT F.entry_zip_next ?_ (F.args_zip_next_1 _))))
  show wpAny _ _ (field (.ref z) 2 >>= _) _ _ _
  refine wpAny_bind (wpAny_field hz rfl (x := .bool false) rfl ?_)
  show wpAny _ _ (field (.ref z) 3 >>= _) _ _ _
  refine wpAny_bind (wpAny_field hz rfl (x := .ref TI) rfl (wpAny_bind (wpAny_seqItems hTI rfl ?_)))
  show wpAny _ _ (Builtin.SmallTypes.ownedTupleIsFree (.ref z) >>= _) _ _ _
  refine wpAny_bind ?_
  unfold Builtin.SmallTypes.ownedTupleIsFree
  refine wpAny_bind (wpAny_field hz rfl (x := .none) rfl (wpAny_pure ?_))
  simp only [if_true]
  refine wpAny_bind (wpAny_rule (wpAny_bind (wpAny_field hz rfl (x := .ref TO) rfl (wpAny_bind (wpAny_setField_rec hz (by simp) fun ha hza hsa => wpAny_bind ?_)))))
  replace hza : IsZip ha z TI TO .ellipsis := hza
  simp only [List.zipIdx_cons, List.zipIdx_nil, List.forIn_cons, List.forIn_nil]
  refine wpAny_bind (wpAny_bind (wpAny_onRaise ?_))
  show wpAny _ _ (Builtin.SmallTypes.nextOf (.ref i1) >>= _) _ _ _
  cases hx : xs[k]? with
  | none =>
    refine wpAny_bind (gN hh (h1.at fun o e => hsa.extBut _ _ D.i1z e) (ht1.at fun o e => hsa.extBut _ _ D.l1z e) hx fun hb e hsb he => ?_)
    obtain ⟨oe, hoe, hce⟩ := he
    have hzb : IsZip hb z TI TO .ellipsis := hsb _ _ D.i1z.symm hza
    have hez : e ≠ z := fun x => by subst x; rw [hzb] at hoe; cases hoe; simp at hce
    exact wpAny_setField_rec hzb (by simp) fun hc _ hsc => fin hc e (fun c o c1 _ c3 _ x => hsc.extBut _ _ c1 (hsb _ _ c3 (hsa.extBut _ _ c1 x))) ⟨oe, hsc.extBut _ _ hez hoe, hce⟩
  | some x =>
    have hy : ys[k]? = none := by rcases hend with h | h; rw [hx] at h; cases h; exact h
    refine wpAny_bind (fh (h1.at fun o e => hsa.extBut _ _ D.i1z e) (ht1.at fun o e => hsa.extBut _ _ D.l1z e) hx fun hb h1b hsb => wpAny_pure ?_)
    have hTOb : IsPair hb TO a b := hsb.extBut _ _ D.TOi1 (hsa.extBut _ _ D.TOz hTO)
    refine wpAny_bind (wpAny_seqItems hTOb rfl (wpAny_bind (wpAny_updateSeq_pair hTOb fun hc hTOc hsc => ?_)))
    refine wpAny_bind (wpAny_letGo (wpAny_pure ?_))
    refine wpAny_bind (wpAny_bind (wpAny_onRaise ?_))
    show wpAny _ _ (Builtin.SmallTypes.nextOf (.ref i2) >>= _) _ _ _
    refine wpAny_bind (gN hh (h2.at fun o e => hsc.extBut _ _ D.TOi2.symm (hsb.extBut _ _ D.i12.symm (hsa.extBut _ _ D.i2z e)))
      (ht2.at fun o e => hsc.extBut _ _ D.l2TO (hsb.extBut _ _ D.l2i1 (hsa.extBut _ _ D.l2z e))) hy fun hd e hsd he => ?_)
    obtain ⟨oe, hoe, hce⟩ := he
    have hzd : IsZip hd z TI TO .ellipsis := hsd _ _ D.i2z.symm (hsc.extBut _ _ D.TOz.symm (hsb.extBut _ _ D.i1z.symm hza))
    have hez : e ≠ z := fun x => by subst x; rw [hzd] at hoe; cases hoe; simp at hce
    exact wpAny_setField_rec hzd (by simp) fun hf _ hsf => fin hf e (fun c o c1 c2 c3 c4 x => hsf.extBut _ _ c1 (hsd _ _ c4 (hsc.extBut _ _ c2 (hsb.extBut _ _ c3 (hsa.extBut _ _ c1 x))))) ⟨oe, hsf.extBut _ _ hez hoe, hce⟩
end
end HT
namespace HT
open PySem PyProof.Rows
abbrev itO (t : Addr) : Obj := { cls := .type "tuple_iterator", data := .fields #[.ref t, .int 0 0] }
abbrev zh1 (h : Heap) (t1 : Addr) : Heap := h.push (itO t1)
abbrev zh2 (h : Heap) (t1 t2 : Addr) : Heap := (zh1 h t1).push (itO t2)
abbrev zh3 (h : Heap) (t1 t2 : Addr) : Heap := (zh2 h t1 t2).push { cls := .type "tuple", data := .seq #[.ref h.objs.size, .ref (zh1 h t1).objs.size] }
abbrev zh4 (h : Heap) (t1 t2 : Addr) : Heap := (zh3 h t1 t2).push { cls := .type "tuple", data := .seq #[.none, .none] }
abbrev zh5 (h : Heap) (t1 t2 : Addr) : Heap := (zh4 h t1 t2).push { cls := .type "zip", data := .fields #[.none, .bool false, .bool false, .ref (zh2 h t1 t2).objs.size, .ref (zh3 h t1 t2).objs.size] }
theorem rG (t1 t2 : Addr) (xs ys : Array Value) :
  Meets (Builtin.«zip.__new__» ⟨[.type "zip", .ref t1, .ref t2], []⟩) (fun _ R s => s.heap.IsTuple t1 xs ∧ s.heap.IsTuple t2 ys ∧ R (.ok (.ret (.ref (zh4 s.heap t1 t2).objs.size))) { s with heap := zh5 s.heap t1 t2 }) :=
 .of_wp fun prog w A R s h => by
  obtain ⟨hp, g, d, tk, os⟩ := s; obtain ⟨hl1, hl2, h⟩ := h
  have hsub := sub_zip
  have hL1 : Heap.IsTuple (Shared.heap ⟨hp, g, d, tk, os⟩) t1 xs := hl1
  have hL2 : Heap.IsTuple (Shared.heap ⟨hp.push (itO t1), g, d, tk, os⟩) t2 ys := hl2.at fun o e => Heap.get?_push_of_some _ e
  wp_walk using wpAny_pyIter_tuple hL1, wpAny_pyIter_tuple hL2
  exact ⟨_, rfl, h⟩
section
variable {prog : Program} {w : World} {A : Around} {E : Value → Shared → Prop} {s : Shared}
theorem pF {t1 t2 : Addr} {xs ys : Array Value} {Q : Value → Shared → Prop} (hl1 : s.heap.IsTuple t1 xs) (hl2 : s.heap.IsTuple t2 ys)
  (h : ∀ h', jm h' (s.heap.objs.size + 4) (s.heap.objs.size + 2) (s.heap.objs.size + 3) s.heap.objs.size (s.heap.objs.size + 1) t1 t2 xs ys .none 0 → (∀ c o, s.heap.get? c = some o → h'.get? c = some o) → Q (.ref (s.heap.objs.size + 4)) { s with heap := h' }) :
  wpAny (model prog w) A (call (.type "zip") [.ref t1, .ref t2]) Q E s := by
 refine callType_new F.called_zip (by decide) (F.typeCall_zip_2 _ _) (F.newCall_zip_2 _ _) (fun obj => F.args_object_init_3 obj _ _) F.entry_zip_new (rG t1 t2 xs ys) ⟨hl1, hl2, ?_⟩
 have z1 : (zh1 s.heap t1).objs.size = s.heap.objs.size + 1 := Heap.size_push ..
 have z2 : (zh2 s.heap t1 t2).objs.size = s.heap.objs.size + 2 := by rw [Heap.size_push, z1]
 have z3 : (zh3 s.heap t1 t2).objs.size = s.heap.objs.size + 3 := by rw [Heap.size_push, z2]
 have z4 : (zh4 s.heap t1 t2).objs.size = s.heap.objs.size + 4 := by rw [Heap.size_push, z3]
 have g5 : (zh5 s.heap t1 t2).get? (zh4 s.heap t1 t2).objs.size = some _ := Heap.get?_push_size _ rfl
 have g4 : (zh5 s.heap t1 t2).get? (zh3 s.heap t1 t2).objs.size = some _ := Heap.get?_push_of_some _ (Heap.get?_push_size _ rfl)
 have g3 : (zh5 s.heap t1 t2).get? (zh2 s.heap t1 t2).objs.size = some _ := Heap.get?_push_of_some _ (Heap.get?_push_of_some _ (Heap.get?_push_size _ rfl))
 have g2 : (zh5 s.heap t1 t2).get? (zh1 s.heap t1).objs.size = some _ := Heap.get?_push_of_some _ (Heap.get?_push_of_some _ (Heap.get?_push_of_some _ (Heap.get?_push_size _ rfl)))
 have g1 : (zh5 s.heap t1 t2).get? s.heap.objs.size = some _ := Heap.get?_push_of_some _ (Heap.get?_push_of_some _ (Heap.get?_push_of_some _ (Heap.get?_push_of_some _ (Heap.get?_push_size _ rfl))))
 show _ ∧ _
 rw [z2, z3, z4] at g5
 rw [z1, z2] at g3
 rw [z3] at g4
 rw [z1] at g2
 rw [z4]
 exact ⟨⟨_, g5, rfl⟩, h _ ⟨g5, g3, ⟨_, _, g4⟩, ⟨_, g1, rfl, rfl⟩, ⟨_, g2, rfl, rfl⟩⟩ fun c o x => Heap.get?_push_of_some _ (Heap.get?_push_of_some _ (Heap.get?_push_of_some _ (Heap.get?_push_of_some _ (Heap.get?_push_of_some _ x))))⟩
end
end HT
namespace L2
open PySem PySem.Spec PyProof.Rows
section
variable {X : Cx} {pins : List (Addr × Obj)} {σ : St} {H : Hp} {s : Shared} {h' : Heap}
theorem Inv.turnedL {t' : Nat} {fp : List Addr} (I : Inv X pins σ H s) (k : ∀ b o, b ∉ fp → s.heap.get? b = some o → h'.get? b = some o) (hf : ∀ b ∈ fp, gn X pins H b) : Inv X pins σ H { s with heap := h', toks := t' } := by
 have nit : ∀ b u, H b = some u → b ∉ fp := fun b u e z => by rw [(hf b z).1] at e; cases e
 refine I.step (g' := s.gens) (d' := s.drawn) (ch := fp) (fun b hb => ?_) (fun b o _ _ hc e _ => k b o hc e) (fun b o _ _ hc e _ => ⟨o.slots, k b o hc e⟩) (fun _ _ _ _ n => n)
   (fun b o hc e => ⟨o, k b o hc e⟩) (fun _ _ e => e) (fun _ _ _ e => e) (fun b ps e => ⟨#[], by rw [e]; simp⟩) (fun m hm => ?_) (fun b u e => ?_) I.bare
 · obtain ⟨f0, f1, f2, f3, f4, f5⟩ := hf b hb
   exact ⟨f3, f1, f4, f5⟩
 · obtain ⟨o, es, ep, ho, r⟩ := hm
   exact ⟨o, es, ep, k _ o (fun z => (hf _ z).2.1 rfl) ho, r⟩
 · refine (I.hok b u e).stay (fun c v hc q => k c v ?_ q) (fun _ q => q) fun _ _ q => q
   rcases hc with z | z
   · rw [z]; exact nit b u e
   · exact nit c _ z
end
section
variable {X : Cx} {pins : List (Addr × Obj)} {σ : St} {H H1 : Hp} {s s0 : Shared} {a : Addr} {o : HO}
theorem Inv.track2 (I0 : Inv X pins σ H1 s0) (I : Inv X pins σ H s) (new : s0.heap.objs.size ≤ a) (hn : H a = none) (ok : aM X.prog X.w (upd H a o) s.heap a o) : Inv X pins σ (upd H a o) s := by
 have ne : ∀ b u, s0.heap.get? b = some u → b ≠ a := fun b u e => Nat.ne_of_lt (Nat.lt_of_lt_of_le (Heap.lt_size e) new)
 have ne0 : ∀ b u, X.s₀.heap.get? b = some u → b ≠ a := fun b u e => Nat.ne_of_lt (Nat.lt_of_lt_of_le (Heap.lt_size e) (Nat.le_trans I0.sz new))
 have nL : X.env.locals ≠ a := by
   obtain ⟨m, ⟨o', _, _, e, _⟩, _⟩ := I0.loc
   exact ne _ _ e
 refine ⟨I.ok, I.os, I.bare, ⟨I.base.keep, I.base.slot, fun b u e n hx => ?_, I.base.there, fun b xs e => ?_, fun b u v e => ?_, fun b ps e => ?_⟩, I.loc, I.cell, ?_, fun x c e => ?_, fun p hp => ?_, fun b u e => ?_, I.len⟩
 · rw [ae (ne0 b u e)]; exact I.base.free b u e n hx
 · have := I.base.tups b xs e
   rw [ae (aj this hn)]; exact this
 · have := I.base.frzs b u v e
   rw [ae (aj this hn)]; exact this
 · obtain ⟨more, this⟩ := I.base.tbls b ps e
   exact ⟨more, by rw [ae (aj this hn)]; exact this⟩
 · rw [ae nL]; exact I.free
 · obtain ⟨v, o', e', _⟩ := I0.cell x c e
   rw [ae (ne _ _ e')]; exact I.freeC x c e
 · obtain ⟨h1, h2, h3⟩ := I.pin p hp
   exact ⟨h1, by rw [ae (ne _ _ (I0.pin p hp).1)]; exact h2, h3⟩
 · by_cases hb : b = a
   · subst hb
     rw [af] at e; cases e
     exact ok
   · rw [ae hb] at e
     exact (I.hok b u e).stay (fun c v _ q => q) (fun c q => by
      have : c ≠ a := aj q hn
      rw [ae this]; exact q) fun c xs q => by
      have : c ≠ a := aj q hn
      rw [ae this]; exact q
end
def Itz (K : W.Frag) (a b : Addr) : It where
 go := fun i H => ∃ xs ys x y, SqT K H a xs ∧ SqT K H b ys ∧ xs[i]? = some x ∧ ys[i]? = some y
 yld := fun i H v H' => ∃ p, v = .ref p ∧ H p = none ∧ ∀ xs ys, SqT K H a xs → SqT K H b ys → ∃ x y, xs[i]? = some x ∧ ys[i]? = some y ∧ H' = upd H p (.tup [x, y])
 stop := fun i H => ∃ xs ys, SqT K H a xs ∧ SqT K H b ys ∧ (xs.length ≤ i ∨ ys.length ≤ i)
theorem tT {P : Program} {w : World} {K : W.Frag} {elts : List Expr} {ek : Nat} {ep : Pos} (a b z TI TO i1 i2 : Addr) (D : ZipApart z TI TO i1 i2 a b) :
  fx P w K (.Tuple elts ek ep) (Itz K a b) [z, TI, TO, i1, i2] z (fun i h => HT.jm h z TI TO i1 i2 a b #[] #[] .none i) where
 mem := by simp
 obj := fun i h st c hc => by
  obtain ⟨hz, hTI, ⟨x, y, hTO⟩, ⟨o1, e1, c1, d1⟩, ⟨o2, e2, c2, d2⟩⟩ := st
  simp only [List.mem_cons, List.not_mem_nil, or_false] at hc
  rcases hc with rfl | rfl | rfl | rfl | rfl
  · exact ⟨_, hz, fun v q => by cases q⟩
  · exact ⟨_, hTI, fun v q => by cases q⟩
  · exact ⟨_, hTO, fun v q => by cases q⟩
  · exact ⟨o1, e1, fun v q => by rw [d1] at q; cases q⟩
  · exact ⟨o2, e2, fun v q => by rw [d2] at q; cases q⟩
 keep := fun i h h' st k => by
  obtain ⟨hz, hTI, ⟨x, y, hTO⟩, h1, h2⟩ := st
  exact ⟨k z (by simp) _ hz, k TI (by simp) _ hTI, ⟨x, y, k TO (by simp) _ hTO⟩, h1.at fun o e => k i1 (by simp) o e, h2.at fun o e => k i2 (by simp) o e⟩
 item := by
  intro X hP hw hK hc i pins s σ H E I hf st hg
  subst hP hw hK
  obtain ⟨xs, ys, x, y, hx, hy, ex, ey⟩ := hg
  obtain ⟨its, r1, p1, _⟩ := I.tuple hx
  obtain ⟨its2, r2, p2, _⟩ := I.tuple hy
  obtain ⟨u, gu, ru⟩ := r1.get ex
  obtain ⟨u2, gu2, ru2⟩ := r2.get ey
  obtain ⟨z1, z2, z3, z4, z5⟩ := st
  refine HT.qy (xs := its.toArray) (ys := its2.toArray) (x := u) (y := u2) D ⟨z1, z2, z3, z4, z5⟩ p1 p2 (by simpa using gu) (by simpa using gu2) fun h1 Z1 hT hk => ?_
  obtain ⟨y1, y2, y3, y4, y5⟩ := Z1
  refine ⟨_, rfl, wpAny_letOwnedTupleGo_zip y1 fun h2 hz2 hs2 => ?_⟩
  have Tn : ∀ c ∈ [z, TI, TO, i1, i2], c ≠ s.heap.objs.size := fun c hc e => by
    obtain ⟨o, eo⟩ : ∃ o, s.heap.get? c = some o := by
      simp only [List.mem_cons, List.not_mem_nil, or_false] at hc
      rcases hc with rfl | rfl | rfl | rfl | rfl
      · exact ⟨_, z1⟩
      · exact ⟨_, z2⟩
      · obtain ⟨_, _, q⟩ := z3; exact ⟨_, q⟩
      · obtain ⟨_, q, _⟩ := z4; exact ⟨_, q⟩
      · obtain ⟨_, q, _⟩ := z5; exact ⟨_, q⟩
    have := Heap.lt_size eo
    rw [e] at this; exact Nat.lt_irrefl _ this
  have k2 : ∀ c o, c ∉ [z, TI, TO, i1, i2] → s.heap.get? c = some o → h2.get? c = some o := fun c o hc e => by
    simp only [List.mem_cons, List.not_mem_nil, or_false, not_or] at hc
    exact hs2.extBut _ _ hc.1 (hk c o hc.1 hc.2.2.1 hc.2.2.2.1 hc.2.2.2.2 e)
  have I1 : Inv X pins σ H { s with heap := h2, toks := s.toks } := I.turnedL k2 hf
  have hTz : s.heap.objs.size ≠ z := fun e => Tn z (by simp) e.symm
  have hT2 : IsPair h2 s.heap.objs.size u u2 := hs2.extBut _ _ hTz hT
  have hfr : H s.heap.objs.size = none := I.hok.fresh (Nat.le_refl _)
  have I2 : Inv X pins σ (upd H s.heap.objs.size (.tup [x, y])) { s with heap := h2, toks := s.toks } :=
    Inv.track2 I I1 (Nat.le_refl _) hfr ⟨by show 2 ≤ sizeLine; decide, [u, u2], .cons ru (.cons ru2 .nil), ⟨_, hT2, rfl, _, rfl⟩⟩
  refine ⟨.ref s.heap.objs.size, _, I2, rfl, ⟨_, rfl, hfr, fun xs' ys' hx' hy' => ⟨x, y, by rw [I.tuple_inj hx' hx]; exact ex, by rw [I.tuple_inj hy' hy]; exact ey, rfl⟩⟩, ?_, fun c hc => ?_⟩
  · exact ⟨hz2, hs2.extBut _ _ D.TIz y2, (let ⟨m, n, q⟩ := y3; ⟨m, n, hs2.extBut _ _ D.TOz q⟩), y4.at fun o e => hs2.extBut _ _ D.i1z e, y5.at fun o e => hs2.extBut _ _ D.i2z e⟩
  · rw [ae (Tn c hc)]; exact (hf c hc).1
 done := by
  intro X hP hw hK hc i pins s σ H E I hf st hg
  subst hP hw hK
  obtain ⟨xs, ys, hx, hy, hl⟩ := hg
  obtain ⟨its, r1, p1, _⟩ := I.tuple hx
  obtain ⟨its2, r2, p2, _⟩ := I.tuple hy
  have l1 := r1.length
  have l2 := r2.length
  obtain ⟨z1, z2, z3, z4, z5⟩ := st
  refine HT.sW (xs := its.toArray) (ys := its2.toArray) (I.ok.hd hc) D ⟨z1, z2, z3, z4, z5⟩ p1 p2 ?_ fun h1 hk => ⟨rfl, I.turnedL (t' := s.toks) (fun c o hc e => ?_) hf⟩
  · rcases hl with q | q
    · exact .inl (by simp; omega)
    · exact .inr (by simp; omega)
  · simp only [List.mem_cons, List.not_mem_nil, or_false, not_or] at hc
    exact hk c o hc.1 hc.2.2.1 hc.2.2.2.1 hc.2.2.2.2 e
 self := fun _ _ _ _ _ st h => wpAny_pyIter_zip st.z h
end L2
namespace L2
open PySem PySem.Spec PyProof.Rows
section
variable {X : Cx} {a b : Expr} {t : TA} {p pos ep : Pos} {elts : List Expr} {ek : Nat}
theorem pv : bootBuiltins "zip" = some (.type "zip") := by decide +kernel
theorem tw : ∀ (pins : List (Addr × Obj)) (s : Shared) (σ : St) (H : Hp) (us : List Value) (vs : List V) (R : It → Hp → Prop), Inv X pins σ H s → ax vs us → (∃ c d xs ys, vs = [.ref c, .ref d] ∧ SqT X.K H c xs ∧ SqT X.K H d ys ∧ R (Itz X.K c d) H) →
   wpAny (model X.prog X.w) X.A (call (.type "zip") us) (fun v s1 => wpAny (model X.prog X.w) X.A (pyIter v) (PIE X pins σ (.Tuple elts ek ep) R) X.xe s1) X.xe s := by
 intro pins s σ H us vs R I r h
 obtain ⟨c, d, xs, ys, rfl, hx, hy, q⟩ := h
 obtain ⟨u, w', rfl, r1, r2⟩ := jr r
 cases r1
 cases r2
 obtain ⟨its, rv1, p1, _⟩ := I.tuple hx
 obtain ⟨its2, rv2, p2, _⟩ := I.tuple hy
 have lt1 : c < s.heap.objs.size := by obtain ⟨o, e, _⟩ := p1; exact Heap.lt_size e
 have lt2 : d < s.heap.objs.size := by obtain ⟨o, e, _⟩ := p2; exact Heap.lt_size e
 refine HT.pF (show s.heap.IsTuple c its.toArray from p1) (show s.heap.IsTuple d its2.toArray from p2) fun h' Z hk => ?_
 refine wpAny_pyIter_zip Z.z ?_
 refine ⟨s.heap.objs.size + 4, [s.heap.objs.size + 4, s.heap.objs.size + 2, s.heap.objs.size + 3, s.heap.objs.size, s.heap.objs.size + 1], _, Itz X.K c d, H, rfl, I.kept (t' := s.toks) hk, tT c d _ _ _ _ _ (zipApart_new lt1 lt2), ?_, fun b hb => ?_, q⟩
 · obtain ⟨z1, z2, z3, z4, z5⟩ := Z
   exact ⟨z1, z2, z3, z4, z5⟩
 · have : s.heap.objs.size ≤ b := by
    simp only [List.mem_cons, List.not_mem_nil, or_false] at hb
    rcases hb with rfl | rfl | rfl | rfl | rfl <;> omega
   exact I.fpOk this (I.hok.fresh this)
end
end L2
namespace L2
open PySem PySem.Spec PyProof.Rows
section
variable {X : Cx} {a b : Expr} {t : TA} {p pos ep px py : Pos} {elts : List Expr} {ek : Nat} {x y : Str} {iter : Expr} {wi : TI} {tS : TS}
theorem pL (i j : Nat) (hN : X.N.Nodup) {body : List Stmt} (hi : QI X (.Tuple [.Name x px, .Name y py] ek ep) iter wi) (hb : QSs X body tS) (hp : PassesOwn (model X.prog X.w) X.A X.env X.xe) (hc : X.calm = true := by rfl)
  (hj : X.N[i]? = some x := by rfl) (hx : Loc X.env.scope x := by first | exact .inl rfl | exact .inr rfl) (hf : X.fn x = true ∨ X.env.scope.names.lookup x = some .local := by first | exact .inl rfl | exact .inr rfl)
  (hj2 : X.N[j]? = some y := by rfl) (hx2 : Loc X.env.scope y := by first | exact .inl rfl | exact .inr rfl) (hf2 : X.fn y = true ∨ X.env.scope.names.lookup y = some .local := by first | exact .inl rfl | exact .inr rfl)
  (hs : ∀ x, foldedSetIterable iter X.env x = pure x := by intro _; rfl) : QS X (.For (.Tuple [.Name x px, .Name y py] ek ep) iter body [] pos) (dG wi (lX X.K 2 (eT (au i) (eT (au j) lx))) tS) :=
 ⟨qN hp hc hi.out (xN hc (lA (ju hN hj hx hf) (lA (ju hN hj2 hx2 hf2) uI))) hb.out hs⟩
end
theorem vj {K : W.Frag} {a b : Addr} {xs ys : List V} {g : TG} {tb : TS} {D : fc} {σ : St} {H : Hp} (Pv : Nat → St → Hp → Prop) (h0 : Pv 0 σ H) (hl : ∀ i σ H, i ≤ xs.length → Pv i σ H → SqT K H a xs ∧ SqT K H b ys) (hlen : xs.length = ys.length)
   (hs : ∀ i x y σ H p, xs[i]? = some x → ys[i]? = some y → Pv i σ H → H p = none → g (.ref p) σ (upd H p (.tup [x, y])) fun σ2 H2 => tb { D with nx := Pv (i + 1), ct := Pv (i + 1), bk := D.nx } σ2 H2) (hd : ∀ σ H, Pv xs.length σ H → D.nx σ H) :
   ∃ W : Nat → Nat → St → Hp → Prop, (∃ m, W 0 m σ H) ∧ ∀ i m σ H, W i m σ H →
    ((Itz K a b).stop i H ∧ D.nx σ H) ∨ ((Itz K a b).go i H ∧ ∃ N : St → Hp → Prop, (∀ σ' H', N σ' H' → ∃ m', m' < m ∧ W (i + 1) m' σ' H') ∧ ∀ x H', (Itz K a b).yld i H x H' → g x σ H' fun σ2 H2 => tb { D with nx := N, ct := N, bk := D.nx } σ2 H2) := by
 refine ⟨fun i m σ H => m = xs.length - i ∧ i ≤ xs.length ∧ Pv i σ H, ⟨xs.length, by simp, Nat.zero_le _, h0⟩, ?_⟩
 rintro i m σ H ⟨rfl, hi, p⟩
 obtain ⟨q1, q2⟩ := hl i σ H hi p
 by_cases hlt : i < xs.length
 · have e1 : xs[i]? = some xs[i] := List.getElem?_eq_getElem hlt
   have e2 : ys[i]? = some (ys[i]'(by omega)) := List.getElem?_eq_getElem (by omega)
   refine .inr ⟨⟨xs, ys, _, _, q1, q2, e1, e2⟩, Pv (i + 1), fun σ' H' p' => ⟨xs.length - (i + 1), by omega, rfl, hlt, p'⟩, fun v H' yl => ?_⟩
   obtain ⟨pp, rfl, hn, hy⟩ := yl
   obtain ⟨x, y, ex, ey, rfl⟩ := hy xs ys q1 q2
   exact hs i x y σ H pp ex ey p hn
 · have : i = xs.length := by omega
   subst this
   exact .inl ⟨⟨xs, ys, q1, q2, .inl (Nat.le_refl _)⟩, hd σ H p⟩
end L2
namespace L2
open PySem PySem.Spec PyProof.Rows
def bo (C : Addr) (m : Str) (sp : Sp) (E : St → XK) (ta : TE) (t : TA) : TE := fun σ H Q => ta σ H fun x H1 => ∃ a dx fs, x = .ref a ∧ H1 a = some (.ins C dx fs) ∧ fs.lookup m = none ∧ t σ H1 fun vs H2 => sp (x :: vs) H2 Q (E σ)
def fW (C : Addr) (sp : Sp) (E : St → XK) (t : TA) : TE := fun σ H Q => t σ H fun vs H1 => ∀ x dx, H1 x = none → H1 dx = none → dx ≠ x →
 sp (.ref x :: vs) (upd (upd H1 dx (.own x)) x (.ins C dx [])) (fun v H2 => v = .non ∧ Q (.ref x) H2) (E σ)
section
variable {X : Cx} {CX : CXT} {k : Nat} {f C : Addr} {fd : FuncData} {ps : List Str} {sp : Sp} {E : St → XK} {x m fl : Str} {p pos apos pos' : Pos} {e o value : Expr} {es : List Expr} {ta tv to : TE} {t : TA}
theorem dc (he : QE X e ta) (hb : attributeBase e fl X.env (eval e X.env) = eval e X.env := by rfl) : QE X (.Attribute e fl pos) (dv X.K ta fl) := ⟨wx he.out hb⟩
theorem fj (ho : QE X o to) (hv : QE X value tv) (hs : swapsWith value (some (.Attribute o fl pos')) pos.line X.env = pure false := by rfl) : QS X (.Assign [.Attribute o fl pos'] value pos) (ir X.K to tv fl) := ⟨xt ho.out hv.out hs⟩
theorem cp {pl : Sem Bool} (he : QE X o ta) (c : Cls X.K C) (hm : ft X.K C m f) (F : aJ X.prog X.w X.K X.mg X.base CX k f fd ps sp) (hr : aO k X.A) (hb : bu X.K fd ps []) (hx : dN CX X E) (ha : QA X (e :: es) t)
  (hs : aH (e :: es) = true := by rfl)
  (ht : eval (.Call (.Attribute o m apos) (e :: es) [] pos) X.env = (do
   let ov ← eval o X.env
   standAt apos.atName
   let (f, first) ← holding [ov] (getMethod ov m pl)
   callWith pos f first (backTo pos (starEach (e :: es) X.env)) (backToKw pos (keywordEach [] X.env))) := by rfl) :
  QE X (.Call (.Attribute o m apos) (e :: es) [] pos) (bo C m sp E ta t) := ⟨fun pins s σ H Q I h => by
 have h' : (bj e && aH es) = true := hs
 refine W.methodCall_KW (pl := pl) (thn (he.out pins s σ H _ I h) fun u s1 ⟨x, H1, I1, rx, a, dx, fs, ex, ea, l, q⟩ => ?_) ht
 subst ex
 obtain rfl : u = Value.ref a := rx
 refine iQ I1 ea c hm l ?_
 refine W.callWith_K (first := [.ref a]) (h₀ := X.base) I.ok.mod.kin hm.kp (thn (ha.out pos pins s1 σ H1 _ I1 q) fun us s2 ⟨vs, H2, I2, r, q2⟩ => ⟨I2.kIn, ?_⟩)
  (aI (Bool.and_eq_true_iff.mp h').1 es X.env) (bc (Bool.and_eq_true_iff.mp h').2)
 exact gY (us := .ref a :: us) (vs := .ref a :: vs) F hr hb hx I2 (.cons rfl r) q2⟩
theorem mf {pl : Sem Bool} (he : QE X o ta) (c : Cls X.K C) (hm : ft X.K C m f) (F : aJ X.prog X.w X.K X.mg X.base CX k f fd ps sp) (hr : aO k X.A) (hb : bu X.K fd ps []) (hx : dN CX X E)
  (ht : eval (.Call (.Attribute o m apos) [] [] pos) X.env = (do
   let ov ← eval o X.env
   standAt apos.atName
   let (f, first) ← holding [ov] (getMethod ov m pl)
   callWith pos f first (backTo pos (starEach [] X.env)) (backToKw pos (keywordEach [] X.env))) := by rfl) :
  QE X (.Call (.Attribute o m apos) [] [] pos) (bo C m sp E ta ag) := ⟨fun pins s σ H Q I h => by
 refine W.methodCall_KW (pl := pl) (thn (he.out pins s σ H _ I h) fun u s1 ⟨x, H1, I1, rx, a, dx, fs, ex, ea, l, q⟩ => ?_) ht
 subst ex
 obtain rfl : u = Value.ref a := rx
 refine iQ I1 ea c hm l ?_
 exact W.callWith_K0 (first := [.ref a]) I1.kIn hm.kp (gY (us := [.ref a]) (vs := [.ref a]) F hr hb hx I1 (.cons rfl .nil) q)⟩
theorem jN {pins : List (Addr × Obj)} {σ : St} {H : Hp} {s : Shared} {Q : VK} {us : List Value} {vs : List V} (M : Mk X.K C f) (F : aJ X.prog X.w X.K X.mg X.base CX k f fd ps sp) (hr : aO (k + 1) X.A) (hb : bu X.K fd ps [])
    (hx : dN CX X E) (I : Inv X pins σ H s) (r : ax vs us)
    (h : ∀ x dx, H x = none → H dx = none → dx ≠ x → sp (.ref x :: vs) (upd (upd H dx (.own x)) x (.ins C dx [])) (fun v H2 => v = .non ∧ Q (.ref x) H2) (E σ)) :
    wpAny (model X.prog X.w) X.A (call (.ref C) us) (EP X pins σ Q) X.xe s := by
  have hq := h (s.heap.objs.size + 1) s.heap.objs.size (I.hok.fresh (Nat.le_succ _)) (I.hok.fresh (Nat.le_refl _)) (Nat.ne_of_lt (Nat.lt_succ_self _))
  have I2 := Inv.made (C := C) I
  have r2 : ax (V.ref (s.heap.objs.size + 1) :: vs) (Value.ref (s.heap.objs.size + 1) :: us) := .cons rfl r
  have hl : (Value.ref (s.heap.objs.size + 1) :: us).length = ps.length := by
    have e := r2.length
    rw [F.len _ _ _ _ hq] at e
    exact e.symm
  have hb' := hb _ (Value.ref (s.heap.objs.size + 1) :: us) I2.kIn (by rw [List.append_nil]; exact hl)
  rw [List.append_nil] at hb'
  refine wpAny_call (sH (f := f) I.kIn M.makes M.init (beq_iff_eq.mp M.fn) (codeAny_mono (F.run _ X.stack _ _ ⟨Value.ref (s.heap.objs.size + 1) :: us, []⟩ (Value.ref (s.heap.objs.size + 1) :: us) _ _ (E σ) (hr.make C us [])
    (I2.env0.make C us []) hb' r2 hq) fun r s' hq' => ?_))
  cases r with
  | error e => exact hx pins σ _ _ e s' I2 hq'
  | ok fl =>
    cases fl with
    | ret u =>
      obtain ⟨v, H', I3, rv, ev, q3⟩ := I2.after hq'
      subst ev
      exact ⟨rv, ⟨V.ref (s.heap.objs.size + 1), H', I3, rfl, q3⟩⟩
    | next => exact False.elim hq'
    | brk => exact False.elim hq'
    | cont => exact False.elim hq'
theorem mz (M : Mk X.K C f) (F : aJ X.prog X.w X.K X.mg X.base CX k f fd ps sp) (hr : aO (k + 1) X.A) (hm : X.mg x = some (.ref C)) (hb : bu X.K fd ps []) (hx : dN CX X E) (ha : QA X (e :: es) t)
  (hg : Gl X x := by rfl) (hdb : (x == ("__debug__" : Str)) = false := by decide) (hs : aH (e :: es) = true := by rfl) : QE X (.Call (.Name x p) (e :: es) [] pos) (fW C sp E t) := ⟨fun pins s σ H Q I h => by
 have h' : (bj e && aH es) = true := hs
 refine wpAny_Call_Name_kw (fU I hg hm ?_ hdb)
 refine W.callWith_K (h₀ := X.base) I.ok.mod.kin M.kp (thn (ha.out pos pins s σ H _ I h) fun us s1 ⟨vs, H1, I1, r, q⟩ => ⟨I1.kIn, ?_⟩) (aI (Bool.and_eq_true_iff.mp h').1 es X.env) (bc (Bool.and_eq_true_iff.mp h').2)
 exact jN M F hr hb hx I1 r q⟩
theorem sj (M : Mk X.K C f) (F : aJ X.prog X.w X.K X.mg X.base CX k f fd ps sp) (hr : aO (k + 1) X.A) (hm : X.mg x = some (.ref C)) (hb : bu X.K fd ps []) (hx : dN CX X E)
  (hg : Gl X x := by rfl) (hdb : (x == ("__debug__" : Str)) = false := by decide) : QE X (.Call (.Name x p) [] [] pos) (fW C sp E ag) := ⟨fun pins s σ H Q I h => by
 refine wpAny_Call_Name_kw (fU I hg hm ?_ hdb)
 exact W.callWith_K0 I.kIn M.kp (jN (us := []) M F hr hb hx I .nil h)⟩
end
end L2
namespace L2
open PySem PySem.Spec PyProof.Rows
mutual
inductive dt (K : W.Frag) (H : Hp) : V → PyData → Prop
 | non : dt K H .non .none
 | bl (b) : dt K H (.bl b) (.bool b)
 | int (i) : dt K H (.int i) (.int i)
 | str (z) : dt K H (.str z) (.str z)
 | lst {a xs ds} : SqL K H a xs → DatVs K H xs ds → dt K H (.ref a) (.list ds)
 | tup {a xs ds} : SqT K H a xs → DatVs K H xs ds → dt K H (.ref a) (.tuple ds)
inductive DatVs (K : W.Frag) (H : Hp) : List V → List PyData → Prop
 | nil : DatVs K H [] []
 | cons {x xs d ds} : dt K H x d → DatVs K H xs ds → DatVs K H (x :: xs) (d :: ds)
end
section
variable {X : Cx}
mutual
theorem cH {pins : List (Addr × Obj)} {σ : St} {H : Hp} {s : Shared} (I : Inv X pins σ H s) : ∀ {x : V} {d : PyData}, dt X.K H x d → ∀ {v : Value}, aC x v → ∃ as, Reads s.heap v d as
  | _, _, .non, _, r => by cases r; exact ⟨_, .none⟩
  | _, _, .bl b, _, r => by cases r; exact ⟨_, .bool b⟩
  | _, _, .int i, _, r => by obtain ⟨t, rfl⟩ := r; exact ⟨_, .int i t⟩
  | _, _, .str z, _, r => by obtain ⟨t, rfl⟩ := r; exact ⟨_, .str z t⟩
  | _, _, .lst h hs, _, r => by
    cases r
    obtain ⟨its, r1, ⟨o, n, h1, h2, _, h3⟩, _⟩ := I.list h
    obtain ⟨as, ra⟩ := datVs_reads I hs r1
    exact ⟨_, .list h1 h2 h3 (by simpa using ra)⟩
  | _, _, .tup h hs, _, r => by
    cases r
    obtain ⟨its, r1, ⟨o, h1, h2, n, h3⟩, _⟩ := I.tuple h
    obtain ⟨as, ra⟩ := datVs_reads I hs r1
    exact ⟨_, .tuple h1 h2 h3 (by simpa using ra)⟩
theorem datVs_reads {pins : List (Addr × Obj)} {σ : St} {H : Hp} {s : Shared} (I : Inv X pins σ H s) : ∀ {xs : List V} {ds : List PyData}, DatVs X.K H xs ds → ∀ {vs : List Value}, ax xs vs → ∃ as, ReadsAll s.heap vs ds as
  | _, _, .nil, _, r => by cases r; exact ⟨_, .nil⟩
  | _, _, .cons h hs, _, r => by
    cases r with
    | cons r1 r2 =>
      obtain ⟨as, a⟩ := cH I h r1
      obtain ⟨bs, b⟩ := datVs_reads I hs r2
      exact ⟨_, .cons a b⟩
end
def oo (K : W.Frag) : R2 := fun x y H Q => ∃ d e, dt K H x d ∧ dt K H y e ∧ d.canLay0 = true ∧ e.canLay0 = true ∧ d.depth ≤ 150 ∧ Q (.bl (d.eqv e)) H
def sT (K : W.Frag) : R2 := fun x y H Q => ∃ d e, dt K H x d ∧ dt K H y e ∧ d.canLay0 = true ∧ e.canLay0 = true ∧ d.depth ≤ 150 ∧ Q (.bl (!d.eqv e)) H
theorem vV (hu : X.A.units + 150 < cLine) : OpR X (compareOp .Eq) (oo X.K) := by
 intro pins s σ H x y v u Q I rx ry h
 obtain ⟨d, e, hd, he, cd, ce, dp, q⟩ := h
 obtain ⟨as, ra⟩ := cH I hd rx
 obtain ⟨bs, rb⟩ := cH I he ry
 exact PySem.SeqAt.compareEq_reads ra rb cd ce (by have := Nat.min_le_left d.depth e.depth; omega) ⟨.bl _, H, I, rfl, q⟩
theorem wK (hu : X.A.units + 150 < cLine) : OpR X (compareOp .NotEq) (sT X.K) := by
 intro pins s σ H x y v u Q I rx ry h
 obtain ⟨d, e, hd, he, cd, ce, dp, q⟩ := h
 obtain ⟨as, ra⟩ := cH I hd rx
 obtain ⟨bs, rb⟩ := cH I he ry
 exact PySem.SeqAt.compareNe_reads ra rb cd ce (by have := Nat.min_le_left d.depth e.depth; omega) ⟨.bl _, H, I, rfl, q⟩
theorem aO.units150 {k : Nat} {A : Around} (r : aO k A) : A.units + 150 < cLine := by have := r.un; omega
def gA (K : W.Frag) : R2 := fun x y H Q => match x, y with
 | .ref a, y => sT K (.ref a) y H Q
 | x, .ref b => sT K x (.ref b) H Q
 | x, y => mNe x y H Q
theorem lE (hu : X.A.units + 150 < cLine) : OpR X (compareOp .NotEq) (gA X.K) := ((wK hu).or oNe).imp fun x y H Q q => by
 unfold gA at q
 split at q
 · exact .inl q
 · exact .inl q
 · exact .inr q
def kK : V → List V → Hp → VK → Prop := fun x vs H Q => match x, vs with | .int i, [] => Q (.int (Builtin.Int.intBits i)) H | _, _ => False
theorem mG : MtR X "int.bit_length" kK := by
 intro pins s σ H x xs v us Q I rx rs q
 unfold kK at q
 split at q
 · obtain ⟨t, rfl⟩ := rx
   cases rs
   exact call_int_bit_length ⟨.int _, H, I.tok _, ⟨_, rfl⟩, q⟩
 · exact q.elim
variable {o : Expr} {to : TE} {name : Str} {apos cpos : Pos} {T id : String} {rm : V → List V → Hp → VK → Prop}
theorem iM (pa : PlainAttrs T) (slot : Slot T name id) (hty : typeOf (.builtin id) = pure (.type "method_descriptor")) (hm : MtR X id rm) (ho : QE X o to)
 (hbase : attributeBase o name X.env (eval o X.env) = eval o X.env := by rfl) (hline : (apos.endLine == cpos.line) = true := by rfl) : QE X (.Call (.Attribute o name apos) [] [] cpos) (gt X.K T rm to) := ⟨wz pa slot hty hm ho.out hbase hline⟩
end
end L2
namespace L2
open PySem PySem.Spec PyProof.Rows
theorem qj : (("" : String) : Str) = Str.empty := by decide
theorem tW : ∀ xs : List Str, Str.join "" xs = xs.foldr (· ++ ·) Str.empty
  | [] => rfl
  | [x] => (Str.append_empty x).symm
  | x :: y :: r => by
    show x ++ (("" : String) : Str) ++ Str.join "" (y :: r) = x ++ (y :: r).foldr (· ++ ·) Str.empty
    rw [tW (y :: r), qj, Str.append_empty]
theorem jy (xs : List Str) : Txt.join "" xs = xs.foldr (· ++ ·) Str.empty := (eq_of_beq (join_plain_closes "" xs)).trans (tW xs)
theorem lM : ∀ xs : List Str, (xs.foldr (· ++ ·) Str.empty).length = (xs.map (·.length)).sum
  | [] => by decide
  | x :: r => by
    show (x ++ r.foldr (· ++ ·) Str.empty).length = _
    rw [strLen_append, lM r, List.map_cons, List.sum_cons]
theorem aG {n : Nat} (h : n ≤ 1000000) : n ≤ sizeLine := by rw [sizeLine_eq]; omega
theorem yC (k : Nat) : ((2 ^ k : Nat) : Int) = (2 : Int) ^ k := by simp
theorem xX {α : Type} {xs : List α} {i : Int} (h0 : 0 ≤ i) (h1 : i < xs.length) : ∃ c, atI xs i = some c := by
 unfold atI ixN
 rw [if_pos h0, if_pos h1]
 have : i.toNat < xs.length := by omega
 exact ⟨xs[i.toNat], by show xs[i.toNat]? = _; rw [List.getElem?_eq_getElem this]⟩
theorem ix : ∀ (xs : List Str), (∀ x ∈ xs, x.length = 1) → (xs.map (·.length)).sum = xs.length
  | [], _ => rfl
  | x :: r, h => by
    rw [List.map_cons, List.sum_cons, List.length_cons, ix r fun y hy => h y (List.mem_cons_of_mem _ hy), h x List.mem_cons_self]; omega
theorem sI (xs : List Str) (h : ∀ x ∈ xs, x.length = 1) : (Txt.join "" xs).length = xs.length := by rw [jy, lM, ix xs h]
end L2
namespace L2
open PySem PySem.Spec PyProof.Rows
section
variable {X : Cx}
theorem aO.units1 {k : Nat} {A : Around} (r : aO k A) : A.units + 1 < cLine := by have := r.un; omega
def ye : R2 := fun x y H Q => ∃ a v, x = .ref a ∧ dH H a y (some v) ∧ Q v H
theorem uJ (hu : X.A.units + 1 < cLine) : IxR X ye := by
 intro value slice pins s σ H x y v u Q I rx ry h hs
 obtain ⟨a, w0, rfl, g, q⟩ := h
 obtain rfl : v = Value.ref a := rx
 have hT := mo I g
 have h2 : wpAny (model X.prog X.w) X.A (getItem (.ref a) u) (EP X pins σ Q) X.xe s := pP hu I g ry fun w' s3 I3 rw' => ⟨w0, H, I3, rw', q⟩
 unfold subscriptTail
 refine wpAny_bind ?_
 rw [getitemInPython_of_ne hT.not_modules]
 refine wpAny_bind (wpAny_specialOf hT PySem.F.slot_dict_getitem.lookup ?_)
 have fin : wpAny (model X.prog X.w) X.A (subscripted slice false (.ref a) u) (fun r s₃ => wpAny (model X.prog X.w) X.A (letTemporaryGo value (.ref a) r >>= fun _ => pure r) (EP X pins σ Q) X.xe s₃) X.xe s := by
  rw [hs]
  exact wpAny_operating (wpAny_mono h2 (fun r s₃ h₃ => wpAny_bind (wpAny_letTemporaryGo (wpAny_pure h₃))) fun _ _ x => x)
 first
  | exact wpAny_pure (wpAny_bind fin)
  | exact wpAny_bind (wpAny_pure (wpAny_bind fin))
  | exact wpAny_bind fin
def aW (K : W.Frag) : R2 := fun x y H Q => rIx K x y H Q ∨ ye x y H Q
theorem aN (hu : X.A.units + 1 < cLine) : IxR X (aW X.K) := yf.or (uJ hu)
def uz : V → V → V → Hp → (Hp → Prop) → Prop := fun o i v H Q => ∃ a H', o = .ref a ∧ sS H a i v H' ∧ Q H'
theorem tN (hu : X.A.units + 1 < cLine) : nN X uz := by
 intro pins s σ H o i v ov iv u Q I ro ri rv h
 obtain ⟨a, H', rfl, g, q⟩ := h
 obtain rfl : ov = Value.ref a := ro
 exact pI hu I g ri rv fun s4 I4 => ⟨H', I4, q⟩
def kY : V → V → V → Hp → (Hp → Prop) → Prop := fun o i v H Q => um o i v H Q ∨ uz o i v H Q
theorem uN (hu : X.A.units + 1 < cLine) : nN X kY := by
 intro pins s σ H o i v ov iv u Q I ro ri rv h
 rcases h with h | h
 · exact tO pins s σ H o i v ov iv u Q I ro ri rv h
 · exact tN hu pins s σ H o i v ov iv u Q I ro ri rv h
variable {o e : Expr} {to te : TE} {p pos : Pos}
theorem lG {ti : TE} {i : Expr} (hu : X.A.units + 1 < cLine) (ho : QE X o to) (hi : QE X i ti) (he : QE X e te) (hs : swapsWithSole [.Subscript o i p] e pos.line X.env = pure false := by rfl) (hw : swappedStores [.Subscript o i p] e X.env = pure none := by rfl) (ha : ∀ v, assign (.Subscript o i p) X.env v = (do let ov ← holding [v] (eval o X.env); let iv ← holding [v, ov] (eval i X.env); standAt p; holding [v, ov, iv] (setItem ov iv v); release [v, ov, iv] []) := by intro _; rfl) : QS X (.Assign [.Subscript o i p] e pos) (az te (oJ to ti kY)) := ⟨xF he.out (vJ ho.out hi.out (uN hu) ha) hs hw⟩
def mL : R2 := fun y x H Q => ∃ a o, x = .ref a ∧ dH H a y o ∧ Q (.bl (!o.isSome)) H
theorem pE (hu : X.A.units + 1 < cLine) : OpR X (compareOp .NotIn) mL := by
 intro pins s σ H x y v u Q I rx ry h
 obtain ⟨a, ov, rfl, g, q⟩ := h
 obtain rfl : u = Value.ref a := ry
 exact vg hu I g rx fun s3 I3 => ⟨.bl (!ov.isSome), H, I3, rfl, q⟩
def mD (K : W.Frag) : R2 := fun y x H Q => ∃ d ds, dt K H y d ∧ (dt K H x (.list ds) ∨ dt K H x (.tuple ds)) ∧ PyData.canLayAll0 ds = true ∧ d.canLay0 = true ∧ d.depth ≤ 140 ∧ Q (.bl (!ds.any fun e => e.eqv d)) H
theorem pR (hu : X.A.units + 150 < cLine) : OpR X (compareOp .NotIn) (mD X.K) := by
 intro pins s σ H x y v u Q I rx ry h
 obtain ⟨d, ds, hd, hx, c1, c2, dp, q⟩ := h
 obtain ⟨as, ra⟩ := cH I hd rx
 have hm : X.A.units + 1 + min (PyData.depthAll ds) d.depth < cLine := by have := Nat.min_le_right (PyData.depthAll ds) d.depth; omega
 rcases hx with hx | hx
 · obtain ⟨bs, rb⟩ := cH I hx ry
   exact PySem.SeqAt.notIn_list_reads rb ra c1 c2 hm ⟨.bl _, H, I, rfl, q⟩
 · obtain ⟨bs, rb⟩ := cH I hx ry
   exact PySem.SeqAt.notIn_tuple_reads rb ra c1 c2 hm ⟨.bl _, H, I, rfl, q⟩
def jH (K : W.Frag) : R2 := fun y x H Q => mL y x H Q ∨ mD K y x H Q
theorem mE (hu : X.A.units + 150 < cLine) : OpR X (compareOp .NotIn) (jH X.K) := (pE (by omega)).or (pR hu)
def iU : TE := fun σ H Q => qm σ H Q ∨ qJ σ H Q
theorem jv : QE X (.Dict [] [] pos) iU := ⟨fun pins s σ H Q I h => h.elim (rZ pins s σ H Q I) (sZ pins s σ H Q I)⟩
theorem qL : bB X (.builtin "len") (fun xs H Q => ∃ p kvs, xs = [.ref p] ∧ H p = some (.dT kvs) ∧ Q (.int kvs.length) H) := by
 intro pins s σ H xs us Q I r h
 obtain ⟨a, kvs, rfl, e, q⟩ := h
 obtain ⟨u, rfl, r1⟩ := fA r
 cases r1
 obtain ⟨z, hd, ps, rel, dd⟩ := pd I.hok e
 have hl : ps.length = kvs.length := (Paired.length rel).symm
 have hT : s.TypeIs (.ref a) "dict" := dd.typeIs
 obtain ⟨o, es, ep, ho, hc, hdat, he, his, hn⟩ := dd
 have hsz : es.size = kvs.length := by rw [← hl]; have := congrArg List.length he; simpa using this
 have M : MeetsIn X.prog X.w (Builtin.«dict.__len__» ⟨[.ref a], []⟩) (fun _ R s => s.heap.get? a = some o ∧ R (.ok (.ret (.int kvs.length s.toks))) { s with toks := s.toks + 1 }) :=
  .of_wp fun A R s ⟨ho, h⟩ => by
   show wpAny _ _ (dictSize a >>= _) _ _ s
   unfold dictSize
   refine wpAny_bind (wpAny_bind (wpAny_dictEntries ho hdat (wpAny_pure ?_)))
   show wpAny _ _ (Builtin.Dict.pendingCount a >>= _) _ _ s
   refine wpAny_bind (wpAny_pendingCount_other hd ?_)
   refine wpAny_ret_mkInt ?_
   rw [Nat.add_zero, hsz]; exact h
 refine Calls.call_function_entry kind_len plain_len entry_len (args_len1 _) ?_
 unfold Builtin.«len»
 refine wpAny_bind (m := oneArg "len" _) (wpAny_pure ?_)
 refine wpAny_bind (m := callSpecial? (.ref a) (Str.ofString "__len__")) (wpAny_callSpecial?_slot (name := Str.ofString "__len__") hT F.slot_dict_len
  (call_meetsIn F.slot_dict_len hT F.entry_dict_len (F.args_dict_len_1 _) M ⟨ho, ?_⟩))
 show wpAny _ _ _ _ _ { s with toks := s.toks + 1 }
 refine wpAny_bind (wpAny_holding (wpAny_pure ?_))
 refine wpAny_bind (wpAny_letGo ?_)
 have zz : kvs.length ≤ sizeLine := z
 rw [sizeLine_eq] at zz
 show wpAny _ _ (if ((kvs.length : Nat) : Int) < 0 then _ else _) _ _ _
 rw [if_neg (by omega)]
 show wpAny _ _ (if ((kvs.length : Nat) : Int) ≥ 2 ^ 63 then _ else _) _ _ _
 rw [if_neg (by omega)]
 exact wpAny_bind (wpAny_mkInt (wpAny_pure ⟨_, rfl, ⟨.int kvs.length, H, I.tok _, ⟨_, rfl⟩, q⟩⟩))
def bp (K : W.Frag) : List V → Hp → VK → Prop := fun xs H Q => wk K xs H Q ∨ ∃ p kvs, xs = [.ref p] ∧ H p = some (.dT kvs) ∧ Q (.int kvs.length) H
theorem bC : bB X (.builtin "len") (bp X.K) := AV.or qL
def xQ (H : Hp) (a : Addr) (y d : V) (r : V) (H' : Hp) : Prop := (dH H a y (some r) ∧ H' = H) ∨ (dH H a y none ∧ sS H a y d H' ∧ r = d)
theorem dS {A : Around} {E : Value → Shared → Prop} {s : Shared} {P : Program} {w : World} {K : Type} [DecidableEq K] {knd : HeapKind P w K} {d a : Addr} {xs : List (K × Addr × Value)} {k : K} {v : Value} {Q : Value → Shared → Prop} (hu : knd.room A) (hkey : knd.is s.heap k a) (hm : s.heap.DictOfH knd d xs)
   (hthere : ∀ p, atKey xs k = some p → Q p.2 { s with toks := s.toks + knd.draws k })
   (hQ : atKey xs k = none → ∀ h', h'.DictOfH knd d (storedH xs k a v) → Heap.SameBut d s.heap h' → Q v { s with heap := h', toks := s.toks + knd.draws k })
   (hsz : xs.length ≤ sizeLine) :
   wpAny (model P w) A (dictSetDefault d (.ref a) v) Q E s := by
 obtain ⟨o, es, ep, ho, hc, hd, he, his, hn⟩ := hm
 unfold dictSetDefault
 try with_reducible refine wpAny_holding ?_
 refine wpAny_bind (knd.pyHash hu hkey ?_)
 refine wpAny_bind (wpAny_dictFind_heap (s := { s with toks := s.toks + knd.draws k }) hu hkey ho hd he his hn ?_ ?_)
 · intro hno
   have hnot : k ∉ xs.map (·.1) := not_mem_keys_of_get hno
   refine wpAny_bind (wpAny_rule (wpAny_bind (wpAny_updateDictKeys (hz := by have e := size_of_entries he; omega) (s := { s with toks := s.toks + knd.draws k }) ho hd (wpAny_pure (hQ (atKey_none_of_get hno) _ ⟨_, _, ep + 1, Heap.get?_update_self _ ho (Obj.isFreed_of_dict (Obj.data_mapDictKeys hd _)),
     hc.mapDictKeys _, Obj.data_mapDictKeys hd _, ?_, ?_, ?_⟩ (Heap.SameBut.update ..))))))
   · rw [storedH_new (atKey_none_of_get hno)]
     simp [he, entryOfKey]
   · rw [storedH_new (atKey_none_of_get hno)]
     intro x hx
     rcases List.mem_append.mp hx with hx | hx
     · exact knd.keeps (his x hx) ho hd (Heap.SameBut.update ..)
     · simp only [List.mem_singleton] at hx
       subst hx
       exact knd.keeps hkey ho hd (Heap.SameBut.update ..)
   · rw [storedH_new (atKey_none_of_get hno)]
     rw [List.map_append, List.nodup_append]
     refine ⟨hn, by simp, ?_⟩
     intro x hx y hy
     simp only [List.map_cons, List.map_nil, List.mem_singleton] at hy
     subst hy
     exact fun e => hnot (e ▸ hx)
 · intro j p hj
   refine wpAny_bind (wpAny_dictEntries (s := { s with toks := s.toks + knd.draws k }) ho hd ?_)
   rw [entry_at he j, hj]
   exact wpAny_bind (wpAny_rule (wpAny_pure (hthere p (atKey_of_get hn hj))))
end
end L2
namespace L2
open PySem PySem.Spec PyProof.Rows
theorem cU {h : Heap} {a : Addr} {its : Array Value} (p : PlainL h a its) : h.IsList a its := let ⟨o, n, e, c, _, d⟩ := p; ⟨o, e, c, n, d⟩
structure xH (h : Heap) (z TI TO i1 i2 t1 t2 : Addr) (k : Nat) : Prop where
 z : IsZip h z TI TO .none
 ti : IsPair h TI (.ref i1) (.ref i2)
 to : ∃ a b, IsPair h TO a b
 j1 : h.IsListIter i1 t1 k
 j2 : h.IsListIter i2 t2 k
def iA (K : W.Frag) (a b : Addr) : It where
 go := fun i H => ∃ xs ys x y, SqL K H a xs ∧ SqL K H b ys ∧ xs[i]? = some x ∧ ys[i]? = some y
 yld := fun i H v H' => ∃ p, v = .ref p ∧ H p = none ∧ ∀ xs ys, SqL K H a xs → SqL K H b ys → ∃ x y, xs[i]? = some x ∧ ys[i]? = some y ∧ H' = upd H p (.tup [x, y])
 stop := fun i H => ∃ xs ys, SqL K H a xs ∧ SqL K H b ys ∧ (xs.length ≤ i ∨ ys.length ≤ i)
theorem pZ {P : Program} {w : World} {K : W.Frag} {elts : List Expr} {ek : Nat} {ep : Pos} (a b z TI TO i1 i2 : Addr) (D : ZipApart z TI TO i1 i2 a b) :
  fx P w K (.Tuple elts ek ep) (iA K a b) [z, TI, TO, i1, i2] z (fun i h => xH h z TI TO i1 i2 a b i) where
 mem := by simp
 obj := fun i h st c hc => by
  obtain ⟨hz, hTI, ⟨x, y, hTO⟩, ⟨o1, e1, c1, d1⟩, ⟨o2, e2, c2, d2⟩⟩ := st
  simp only [List.mem_cons, List.not_mem_nil, or_false] at hc
  rcases hc with rfl | rfl | rfl | rfl | rfl
  · exact ⟨_, hz, fun v q => by cases q⟩
  · exact ⟨_, hTI, fun v q => by cases q⟩
  · exact ⟨_, hTO, fun v q => by cases q⟩
  · exact ⟨o1, e1, fun v q => by rw [d1] at q; cases q⟩
  · exact ⟨o2, e2, fun v q => by rw [d2] at q; cases q⟩
 keep := fun i h h' st k => by
  obtain ⟨hz, hTI, ⟨x, y, hTO⟩, h1, h2⟩ := st
  exact ⟨k z (by simp) _ hz, k TI (by simp) _ hTI, ⟨x, y, k TO (by simp) _ hTO⟩, h1.at fun o e => k i1 (by simp) o e, h2.at fun o e => k i2 (by simp) o e⟩
 item := by
  intro X hP hw hK hc i pins s σ H E I hf st hg
  subst hP hw hK
  obtain ⟨xs, ys, x, y, hx, hy, ex, ey⟩ := hg
  obtain ⟨its, r1, p1, _⟩ := I.list hx
  obtain ⟨its2, r2, p2, _⟩ := I.list hy
  obtain ⟨u, gu, ru⟩ := r1.get ex
  obtain ⟨u2, gu2, ru2⟩ := r2.get ey
  obtain ⟨z1, z2, z3, z4, z5⟩ := st
  obtain ⟨za, zb, z3'⟩ := z3
  refine wpAny_pyNext_zip_item (xs := its.toArray) (ys := its2.toArray) (x := u) (y := u2) D z1 z2 z3' z4 z5 (cU p1) (cU p2) (by simpa using gu) (by simpa using gu2) fun h1 y1 y3' y4 y5 hT hsz hk => ?_
  have y2 : IsPair h1 TI (.ref i1) (.ref i2) := hk _ _ D.TIz D.TITO D.TIi1 D.TIi2 z2
  have y3 : ∃ a b, IsPair h1 TO a b := ⟨_, _, y3'⟩
  have z3 : ∃ a b, IsPair s.heap TO a b := ⟨za, zb, z3'⟩
  refine ⟨_, rfl, wpAny_letOwnedTupleGo_zip y1 fun h2 hz2 hs2 => ?_⟩
  have Tn : ∀ c ∈ [z, TI, TO, i1, i2], c ≠ s.heap.objs.size := fun c hc e => by
    obtain ⟨o, eo⟩ : ∃ o, s.heap.get? c = some o := by
      simp only [List.mem_cons, List.not_mem_nil, or_false] at hc
      rcases hc with rfl | rfl | rfl | rfl | rfl
      · exact ⟨_, z1⟩
      · exact ⟨_, z2⟩
      · obtain ⟨_, _, q⟩ := z3; exact ⟨_, q⟩
      · obtain ⟨_, q, _⟩ := z4; exact ⟨_, q⟩
      · obtain ⟨_, q, _⟩ := z5; exact ⟨_, q⟩
    have := Heap.lt_size eo
    rw [e] at this; exact Nat.lt_irrefl _ this
  have k2 : ∀ c o, c ∉ [z, TI, TO, i1, i2] → s.heap.get? c = some o → h2.get? c = some o := fun c o hc e => by
    simp only [List.mem_cons, List.not_mem_nil, or_false, not_or] at hc
    exact hs2.extBut _ _ hc.1 (hk c o hc.1 hc.2.2.1 hc.2.2.2.1 hc.2.2.2.2 e)
  have I1 : Inv X pins σ H { s with heap := h2, toks := s.toks } := I.turnedL k2 hf
  have hTz : s.heap.objs.size ≠ z := fun e => Tn z (by simp) e.symm
  have hT2 : IsPair h2 s.heap.objs.size u u2 := hs2.extBut _ _ hTz hT
  have hfr : H s.heap.objs.size = none := I.hok.fresh (Nat.le_refl _)
  have I2 : Inv X pins σ (upd H s.heap.objs.size (.tup [x, y])) { s with heap := h2, toks := s.toks } :=
    Inv.track2 I I1 (Nat.le_refl _) hfr ⟨by show 2 ≤ sizeLine; decide, [u, u2], .cons ru (.cons ru2 .nil), ⟨_, hT2, rfl, _, rfl⟩⟩
  refine ⟨.ref s.heap.objs.size, _, I2, rfl, ⟨_, rfl, hfr, fun xs' ys' hx' hy' => ⟨x, y, by rw [I.list_inj hx' hx]; exact ex, by rw [I.list_inj hy' hy]; exact ey, rfl⟩⟩, ?_, fun c hc => ?_⟩
  · exact ⟨hz2, hs2.extBut _ _ D.TIz y2, (let ⟨m, n, q⟩ := y3; ⟨m, n, hs2.extBut _ _ D.TOz q⟩), y4.at fun o e => hs2.extBut _ _ D.i1z e, y5.at fun o e => hs2.extBut _ _ D.i2z e⟩
  · rw [ae (Tn c hc)]; exact (hf c hc).1
 done := by
  intro X hP hw hK hc i pins s σ H E I hf st hg
  subst hP hw hK
  obtain ⟨xs, ys, hx, hy, hl⟩ := hg
  obtain ⟨its, r1, p1, _⟩ := I.list hx
  obtain ⟨its2, r2, p2, _⟩ := I.list hy
  have l1 := r1.length
  have l2 := r2.length
  obtain ⟨z1, z2, z3, z4, z5⟩ := st
  obtain ⟨za, zb, z3'⟩ := z3
  refine wpAny_pyNext_zip_end (xs := its.toArray) (ys := its2.toArray) (I.ok.hd hc) D z1 z2 z3' z4 z5 (cU p1) (cU p2) ?_ fun h1 hk => ⟨rfl, I.turnedL (t' := s.toks) (fun c o hc e => ?_) hf⟩
  · rcases hl with q | q
    · exact .inl (by simp; omega)
    · exact .inr (by simp; omega)
  · simp only [List.mem_cons, List.not_mem_nil, or_false, not_or] at hc
    exact hk c o hc.1 hc.2.2.1 hc.2.2.2.1 hc.2.2.2.2 e
 self := fun _ _ _ _ _ st h => wpAny_pyIter_zip st.z h
section
variable {X : Cx} {a b : Expr} {t : TA} {p pos ep : Pos} {elts : List Expr} {ek : Nat}
theorem qg : ∀ (pins : List (Addr × Obj)) (s : Shared) (σ : St) (H : Hp) (us : List Value) (vs : List V) (R : It → Hp → Prop), Inv X pins σ H s → ax vs us → (∃ c d xs ys, vs = [.ref c, .ref d] ∧ SqL X.K H c xs ∧ SqL X.K H d ys ∧ R (iA X.K c d) H) →
   wpAny (model X.prog X.w) X.A (call (.type "zip") us) (fun v s1 => wpAny (model X.prog X.w) X.A (pyIter v) (PIE X pins σ (.Tuple elts ek ep) R) X.xe s1) X.xe s := by
 intro pins s σ H us vs R I r h
 obtain ⟨c, d, xs, ys, rfl, hx, hy, q⟩ := h
 obtain ⟨u, w', rfl, r1, r2⟩ := jr r
 cases r1
 cases r2
 obtain ⟨its, rv1, p1, _⟩ := I.list hx
 obtain ⟨its2, rv2, p2, _⟩ := I.list hy
 have lt1 : c < s.heap.objs.size := by obtain ⟨o, e, _⟩ := (cU p1); exact Heap.lt_size e
 have lt2 : d < s.heap.objs.size := by obtain ⟨o, e, _⟩ := (cU p2); exact Heap.lt_size e
 refine call_zip_2 (show s.heap.IsList c its.toArray from (cU p1)) (show s.heap.IsList d its2.toArray from (cU p2)) fun h' y1 y2 y3 y4 y5 _ hk => ?_
 refine wpAny_pyIter_zip y1 ?_
 refine ⟨s.heap.objs.size + 4, [s.heap.objs.size + 4, s.heap.objs.size + 2, s.heap.objs.size + 3, s.heap.objs.size, s.heap.objs.size + 1], _, iA X.K c d, H, rfl, I.kept (t' := s.toks) hk, pZ c d _ _ _ _ _ (zipApart_new lt1 lt2), ?_, fun b hb => ?_, q⟩
 · exact ⟨y1, y2, ⟨_, _, y3⟩, y4, y5⟩
 · have : s.heap.objs.size ≤ b := by
    simp only [List.mem_cons, List.not_mem_nil, or_false] at hb
    rcases hb with rfl | rfl | rfl | rfl | rfl <;> omega
   exact I.fpOk this (I.hok.fresh this)
end
theorem sE {K : W.Frag} {a b : Addr} {xs ys : List V} {g : TG} {tb : TS} {D : fc} {σ : St} {H : Hp} (Pv : Nat → St → Hp → Prop) (h0 : Pv 0 σ H) (hl : ∀ i σ H, i ≤ xs.length → Pv i σ H → SqL K H a xs ∧ SqL K H b ys) (hlen : xs.length = ys.length)
   (hs : ∀ i x y σ H p, xs[i]? = some x → ys[i]? = some y → Pv i σ H → H p = none → g (.ref p) σ (upd H p (.tup [x, y])) fun σ2 H2 => tb { D with nx := Pv (i + 1), ct := Pv (i + 1), bk := D.nx } σ2 H2) (hd : ∀ σ H, Pv xs.length σ H → D.nx σ H) :
   ∃ W : Nat → Nat → St → Hp → Prop, (∃ m, W 0 m σ H) ∧ ∀ i m σ H, W i m σ H →
    ((iA K a b).stop i H ∧ D.nx σ H) ∨ ((iA K a b).go i H ∧ ∃ N : St → Hp → Prop, (∀ σ' H', N σ' H' → ∃ m', m' < m ∧ W (i + 1) m' σ' H') ∧ ∀ x H', (iA K a b).yld i H x H' → g x σ H' fun σ2 H2 => tb { D with nx := N, ct := N, bk := D.nx } σ2 H2) := by
 refine ⟨fun i m σ H => m = xs.length - i ∧ i ≤ xs.length ∧ Pv i σ H, ⟨xs.length, by simp, Nat.zero_le _, h0⟩, ?_⟩
 rintro i m σ H ⟨rfl, hi, p⟩
 obtain ⟨q1, q2⟩ := hl i σ H hi p
 by_cases hlt : i < xs.length
 · have e1 : xs[i]? = some xs[i] := List.getElem?_eq_getElem hlt
   have e2 : ys[i]? = some (ys[i]'(by omega)) := List.getElem?_eq_getElem (by omega)
   refine .inr ⟨⟨xs, ys, _, _, q1, q2, e1, e2⟩, Pv (i + 1), fun σ' H' p' => ⟨xs.length - (i + 1), by omega, rfl, hlt, p'⟩, fun v H' yl => ?_⟩
   obtain ⟨pp, rfl, hn, hy⟩ := yl
   obtain ⟨x, y, ex, ey, rfl⟩ := hy xs ys q1 q2
   exact hs i x y σ H pp ex ey p hn
 · have : i = xs.length := by omega
   subst this
   exact .inl ⟨⟨xs, ys, q1, q2, .inl (Nat.le_refl _)⟩, hd σ H p⟩
end L2
namespace L2
open PySem PySem.Spec PyProof.Rows
set_option genInjectivity false in
set_option genSizeOf false in
structure cD where
 qual : Str
 body : FuncBody
 scope : Scope
 ps : List Str
 ys : List Str
def iS (t : cD) (cs : List Addr) (c : Addr) (fd : FuncData) : Prop :=
 fd.qualname = t.qual ∧ fd.body = t.body ∧ fd.scope = t.scope ∧ fd.globals = mainGlobals ∧ fd.closure = t.ys.zip cs ∧ fd.code = .ref c ∧ fd.builtins = builtinsNs ∧
  (∀ us : List Value, us.length = t.ps.length → bindArgs fd ⟨us, []⟩ = pure (t.ps.zip us)) ∧ cs.Nodup ∧ cs.length = t.ys.length
def cN (f : Addr) (t : cD) (cs : List Addr) (c : Addr) : HO := .ext fun h => ∃ od fd sl, h.get? f = some ⟨.type "function", od, .func fd, sl⟩ ∧ iS t cs c fd
def ci (c : Addr) (qual : Str) : HO := .ext fun h => ∃ o vs tk, h.get? c = some o ∧ o.data = .fields vs ∧ vs[1]? = some (.str qual tk)
def bL (c : Addr) (v : V) : HO := .ext fun h => ∃ u o, aC v u ∧ h.get? c = some o ∧ o.data = .cell (some u)
abbrev bR (H : Hp) : List Addr → List V → Prop := Paired fun c v => H c = some (bL c v)
structure cQ (H : Hp) (f : Addr) (t : cD) (cs : List Addr) (cvs : List V) : Prop where
 ex : ∃ c, H f = some (cN f t cs c) ∧ H c = some (ci c t.qual)
 cells : bR H cs cvs
theorem bR.mem {H : Hp} {cs : List Addr} {cvs : List V} (h : bR H cs cvs) : ∀ c ∈ cs, ∃ v, H c = some (bL c v) := by
  induction h with
  | nil => intro c hc; cases hc
  | cons r t ih =>
    intro c hc
    rcases List.mem_cons.mp hc with rfl | hc
    · exact ⟨_, r⟩
    · exact ih c hc
theorem bR.get {H : Hp} {cs : List Addr} {cvs : List V} (h : bR H cs cvs) : ∀ {i : Nat} {v : V}, cvs[i]? = some v → ∃ c, cs[i]? = some c ∧ H c = some (bL c v) := by
  induction h with
  | nil => intro i v e; cases e
  | @cons c w cs ws r t ih =>
    intro i v e
    cases i with
    | zero => cases e; exact ⟨c, rfl, r⟩
    | succ i => exact ih e
def bX (cs : List Addr) (H : Hp) : Hp := fun b => if b ∈ cs then none else H b
def bK (cs : List Addr) (H H' : Hp) : Hp := fun b => if b ∈ cs then H b else H' b
theorem fo {cs : List Addr} {H : Hp} {b : Addr} (h : b ∈ cs) : bX cs H b = none := if_pos h
theorem cj {cs : List Addr} {H : Hp} {b : Addr} (h : b ∉ cs) : bX cs H b = H b := if_neg h
theorem gp {cs : List Addr} {H H' : Hp} {b : Addr} (h : b ∈ cs) : bK cs H H' b = H b := if_pos h
theorem bJ {cs : List Addr} {H H' : Hp} {b : Addr} (h : b ∉ cs) : bK cs H H' b = H' b := if_neg h
theorem pO {cs : List Addr} {H H' : Hp} {d : Addr} {o : HO} (h : d ∉ cs) : bK cs H (upd H' d o) = upd (bK cs H H') d o := by
 funext b
 by_cases hb : b ∈ cs
 · have : b ≠ d := fun e => h (e ▸ hb)
   rw [gp hb, ae this, gp hb]
 · rw [bJ hb]
   by_cases e : b = d
   · subst e; rw [af, af]
   · rw [ae e, ae e, bJ hb]
theorem bR.notin {H : Hp} {cs : List Addr} {cvs : List V} (h : bR H cs cvs) {b : Addr} {o : HO} (e : H b = some o) (hn : ∀ φ, o ≠ .ext φ) : b ∉ cs := fun hb => by
 obtain ⟨v, ev⟩ := h.mem b hb
 rw [e] at ev
 exact hn _ (Option.some.inj ev)
theorem bR.hide {H : Hp} {cs : List Addr} {cvs : List V} (h : bR H cs cvs) {b : Addr} {o : HO} (e : H b = some o) (hn : ∀ φ, o ≠ .ext φ) : bX cs H b = some o := by
 rw [cj (h.notin e hn)]; exact e
theorem am.hide {H H' : Hp} (cs : List Addr) (s : am (bX cs H) H') : am H (bK cs H H') := fun b o e => by
 by_cases hb : b ∈ cs
 · rw [gp hb]; exact e
 · rw [bJ hb]; exact s _ _ (by rw [cj hb]; exact e)
section
variable {P : Program} {w : World} {fs : List Addr} {H H' : Hp} {h h' : Heap} {cs : List Addr} {cvs : List V}
theorem vv (hc : bR H cs cvs) (ok : HOk P w H h) : HOk P w (bX cs H) h := fun b o e => by
 by_cases hb : b ∈ cs
 · rw [fo hb] at e; cases e
 · rw [cj hb] at e
   exact (ok b o e).stay (fun c u _ q => q) (fun c q => hc.hide q fun φ z => nomatch z) fun c xs q => hc.hide q fun φ z => nomatch z
theorem mR (hc : bR H cs cvs) (hfs : ∀ b ∈ fs, H b = none) (ok : HOk P w H h) (u : Un fs [] (bX cs H) H' h h') (ok' : HOk P w H' h') : Un fs [] H (bK cs H H') h h' ∧ HOk P w (bK cs H H') h' := by
 have obj : ∀ c ∈ cs, ∃ v o, H c = some (bL c v) ∧ h.get? c = some o ∧ h'.get? c = some o ∧ H' c = none := fun c hm => by
   obtain ⟨v, ev⟩ := hc.mem c hm
   obtain ⟨_, ⟨o, eo⟩, _⟩ := (show aM P w H h c (bL c v) from ok c _ ev)
   refine ⟨v, o, ev, eo, u.keep c o eo (fo hm) (fun z => ?_) (by simp), u.free c o eo (fo hm) (by simp)⟩
   rw [hfs c z] at ev; cases ev
 have nin : ∀ b, H b = none → b ∉ cs := fun b e hb => by
   obtain ⟨v, ev⟩ := hc.mem b hb
   rw [e] at ev; cases ev
 have nin' : ∀ b o, H' b = some o → b ∉ cs := fun b o e hb => by
   obtain ⟨_, _, _, _, _, z⟩ := obj b hb
   rw [e] at z; cases z
 refine ⟨⟨fun b o e n hb hx => u.keep b o e (by rw [cj (nin b n)]; exact n) hb hx, fun b o e n hb hx => u.slot b o e (by rw [cj (nin b n)]; exact n) hb hx,
   fun b o e n hx => by rw [bJ (nin b n)]; exact u.free b o e (by rw [cj (nin b n)]; exact n) hx, u.there, fun b xs e => ?_, fun b o v e => ?_, fun b ps e => ?_⟩, fun b o e => ?_⟩
 · have hb := hc.notin e fun φ z => nomatch z
   rw [bJ hb]; exact u.tups b xs (by rw [cj hb]; exact e)
 · have hb := hc.notin e fun φ z => nomatch z
   rw [bJ hb]; exact u.frzs b o v (by rw [cj hb]; exact e)
 · have hb := hc.notin e fun φ z => nomatch z
   rw [bJ hb]; exact u.tbls b ps (by rw [cj hb]; exact e)
 · by_cases hb : b ∈ cs
   · rw [gp hb] at e
     obtain ⟨v, o', ev, e1, e2, _⟩ := obj b hb
     rw [e] at ev; cases ev
     obtain ⟨φ1, _, φ3⟩ := (show aM P w H h b (bL b v) from ok b _ e)
     exact ⟨φ3 h h' φ1 fun q hq => by rw [e1] at hq; cases hq; exact e2, ⟨o', e2⟩, φ3⟩
   · rw [bJ hb] at e
     exact (ok' b o e).stay (fun c u _ q => q) (fun c q => by rw [bJ (nin' c _ q)]; exact q) fun c xs q => by rw [bJ (nin' c _ q)]; exact q
theorem CR.back {outer : List Env} {s s' : Shared} {Q : VK} {E : XK} {r : Result} (hc : bR H cs cvs) (hfs : ∀ b ∈ frs outer, H b = none) (ok : HOk P w H s.heap)
    (h : CR (CX1 P w) outer P w (bX cs H) s (fun v H' => Q v (bK cs H H')) (fun c a H' => E c a (bK cs H H')) r s') : CR (CX1 P w) outer P w H s Q E r s' := by
  cases r with
  | error e =>
    obtain ⟨a, C, H', rfl, F, q⟩ := h
    obtain ⟨u, k⟩ := mR hc hfs ok F.un F.hok
    have na : a ∉ cs := fun hb => by
      obtain ⟨v, ev⟩ := hc.mem a hb
      obtain ⟨_, ⟨o, eo⟩, _⟩ := (show aM P w H s.heap a (bL a v) from ok a _ ev)
      rw [F.new] at eo; cases eo
    obtain ⟨oe, vs, a0, T, oT, ts, t1, t2, t3, t4, t5, t6, t7, t8, t9, t10, t11⟩ := F.tr
    have nT : T ∉ cs := fun hb => by
      obtain ⟨v, ev⟩ := hc.mem T hb
      obtain ⟨_, ⟨o, eo⟩, _⟩ := (show aM P w H s.heap T (bL T v) from ok T _ ev)
      rw [t10] at eo; cases eo
    exact ⟨a, C, _, rfl, ⟨F.os, F.bare, u, k, F.new, by rw [bJ na]; exact F.free, ⟨oe, vs, a0, T, oT, ts, t1, t2, t3, t4, t5, t6, t7, t8, t9, t10, by rw [bJ nT]; exact t11⟩⟩, q⟩
  | ok fl =>
    cases fl with
    | ret u =>
      obtain ⟨v, H', os, bare, un, hok, rv, q⟩ := h
      obtain ⟨u', k⟩ := mR hc hfs ok un hok
      exact ⟨v, _, os, bare, u', k, rv, q⟩
    | next => exact False.elim h
    | brk => exact False.elim h
    | cont => exact False.elim h
end
structure eE (P : Program) (w : World) (K : W.Frag) (mg : Str → Option Value) (base : Heap) (k : Nat) (t : cD) (sp : Sp) : Prop where
 run : ∀ (A : Around) (outer : List Env) (s : Shared) (H : Hp) (f : Addr) (cs : List Addr) (us : List Value) (vs cvs : List V) (Q : VK) (E : XK), aO k A → gr P w K mg base A outer s H → cQ H f t cs cvs → ax vs us → vs.length = t.ps.length →
  sp (vs ++ cvs) (bX cs H) (fun v H' => Q v (bK cs H H')) (fun c a H' => E c a (bK cs H H')) → codeAny (model P w) A (.call (.ref f) ⟨us, []⟩) (CR (CX1 P w) outer P w H s Q E) s
def dk (N : List Str) (vs cvs : List V) : St := vs.map some ++ (List.replicate (N.length - vs.length - cvs.length) none ++ cvs.map some)
def fH (P : Program) (w : World) (K : W.Frag) (mg : Str → Option Value) (base : Heap) (N : List Str) (qual : Str) (scope : Scope) (f c : Addr) (cl : List (Str × Addr)) (A : Around) (outer : List Env) (s : Shared) (H : Hp) (E : XK) : Cx where
 prog := P
 w := w
 K := K
 mg := mg
 base := base
 A := A.deeper (W.envX qual scope s.heap.objs.size f (.ref c) cl)
 N := N
 s₀ := s
 H₀ := H
 env := W.envX qual scope s.heap.objs.size f (.ref c) cl
 outer := outer
 stack := W.envX qual scope s.heap.objs.size f (.ref c) cl :: outer
 ex := []
 calm := true
 fn := fun _ => false
 pn := []
 xe := fun e s' => wpAny (model P w) (A.deeper (W.envX qual scope s.heap.objs.size f (.ref c) cl)) (leaving (W.envX qual scope s.heap.objs.size f (.ref c) cl) e) (fun _ s'' => CX1 P w outer H s E e s'') (fun e' s'' => CX1 P w outer H s E e' s'') s'
structure dB (N ps ys : List Str) (sc : Scope) : Prop where
 kind : sc.kind = .function
 co : sc.isCoroutine = false
 gen : sc.isGenerator = false
 nd : N.Nodup
 pre : N.take ps.length = ps
 suf : N.drop (N.length - ys.length) = ys
 le : ps.length + ys.length ≤ N.length
 par : ∀ x ∈ ps, sc.names.lookup x = some .local
 nocell : ∀ x ∈ sc.names, x.2 ≠ .cell
 fr : ∀ x ∈ ys, sc.names.lookup x = some .free
 frs : ∀ y ∈ sc.names, y.2 = .free → y.1 ∈ ys
theorem iV {ys : List Str} {cs : List Addr} (hl : cs.length = ys.length) (nd : ys.Nodup) : ∀ {i : Nat} {y : Str} {c : Addr}, ys[i]? = some y → cs[i]? = some c → (ys.zip cs).lookup y = some c := by
  induction ys generalizing cs with
  | nil => intro i y c e; cases e
  | cons a r ih =>
    intro i y c e1 e2
    cases cs with
    | nil => cases e2
    | cons b cs =>
      cases i with
      | zero => cases e1; cases e2; show (List.lookup _ ((_, _) :: _)) = _; rw [List.lookup_cons]; simp
      | succ i =>
        have hne : y ≠ a := fun e => (List.nodup_cons.mp nd).1 (e ▸ List.mem_of_getElem? (show r[i]? = some y from e1))
        show (List.lookup y ((a, b) :: r.zip cs)) = _
        rw [List.lookup_cons, show (y == a) = false from by simpa using hne]
        exact ih (by simpa using hl) (List.nodup_cons.mp nd).2 (show r[i]? = some y from e1) (show cs[i]? = some c from e2)
theorem eL {ys : List Str} {cs : List Addr} : ∀ {y : Str} {c : Addr}, (ys.zip cs).lookup y = some c → ∃ i : Nat, ys[i]? = some y ∧ cs[i]? = some c := by
  induction ys generalizing cs with
  | nil => intro y c e; cases e
  | cons a r ih =>
    intro y c e
    cases cs with
    | nil => cases e
    | cons b cs =>
      have e : (List.lookup y ((a, b) :: r.zip cs)) = some c := e
      rw [List.lookup_cons] at e
      by_cases hy : (y == a) = true
      · rw [hy] at e; cases e; exact ⟨0, by simpa using (eq_of_beq hy).symm, rfl⟩
      · rw [show (y == a) = false from by simpa using hy] at e
        obtain ⟨i, h1, h2⟩ := ih e
        exact ⟨i + 1, h1, h2⟩
theorem jw {ps : List Str} {us : List Value} (nd : ps.Nodup) : ∀ {i : Nat} {x : Str} {u : Value}, ps[i]? = some x → us[i]? = some u → (ps.zip us).reverse.lookup x = some u := by
  induction ps generalizing us with
  | nil => intro i x u e; cases e
  | cons a r ih =>
    intro i x u e1 e2
    cases us with
    | nil => cases e2
    | cons b us =>
      show (List.lookup x ((a, b) :: r.zip us).reverse) = _
      rw [List.reverse_cons, List.lookup_append]
      cases i with
      | zero =>
        cases e1; cases e2
        have : (r.zip us).reverse.lookup a = none := by
          rw [List.lookup_eq_none_iff]
          intro p hp
          have := (List.of_mem_zip (List.mem_reverse.mp hp)).1
          simp only [beq_eq_false_iff_ne, ne_eq, bne_iff_ne]
          intro e
          exact (List.nodup_cons.mp nd).1 (by rw [← e] at this; exact this)
        rw [this]; simp
      | succ i =>
        rw [ih (List.nodup_cons.mp nd).2 (show r[i]? = some x from e1) (show us[i]? = some u from e2)]; rfl
end L2
namespace L2
open PySem PySem.Spec PyProof.Rows
section
variable {P : Program} {w : World} {K : W.Frag} {mg : Str → Option Value} {base : Heap} {N ps ys : List Str} {qual : Str} {scope : Scope} {f c : Addr} {A : Around} {outer : List Env} {s : Shared} {H : Hp} {E : XK} {us : List Value} {vs cvs : List V} {cs : List Addr} {h1 : Heap} {tk : Nat}
theorem mY (S : dB N ps ys scope) (hd : A.handled = none) (e0 : gr P w K mg base A outer s H) (ca : bR H cs cvs) (hcs : cs.Nodup) (hcl : cs.length = ys.length) (hl : vs.length = ps.length) (r : ax vs us)
   (hns : h1.Ns s.heap.objs.size (fun x => (ps.zip us).reverse.lookup x)) (hk : ∀ b o, s.heap.get? b = some o → h1.get? b = some o) :
   Inv (fH P w K mg base N qual scope f c (ys.zip cs) A outer s (bX cs H) E) [] (dk N vs cvs) (bX cs H) { s with heap := h1, toks := tk } := by
 have ndY : ys.Nodup := by rw [← S.suf]; exact S.nd.sublist (List.drop_sublist _ _)
 have ndP : ps.Nodup := by rw [← S.pre]; exact S.nd.sublist (List.take_sublist _ _)
 have lcv : cvs.length = ys.length := by rw [← hcl]; exact (Paired.length ca).symm
 have cellOf : ∀ c ∈ cs, ∃ v, h1.IsCell c v := fun c hm => by
   obtain ⟨v, ev⟩ := ca.mem c hm
   obtain ⟨⟨u, o, _, eo, hd⟩, _, _⟩ := (show aM P w H s.heap c (bL c v) from e0.hok c _ ev)
   exact ⟨_, o, hk _ _ eo, hd⟩
 have memC : ∀ x c, (ys.zip cs).lookup x = some c → c ∈ cs := fun x c e => by
   obtain ⟨i, _, e2⟩ := eL e
   exact List.mem_of_getElem? e2
 have noA : ∀ b : Addr, b ∉ (fH P w K mg base N qual scope f c (ys.zip cs) A outer s (bX cs H) E).ex := fun b z => absurd (show b ∈ ([] : List Addr) from z) (by simp)
 have hid : ∀ b, H b = none → bX cs H b = none := fun b e => by
   by_cases hb : b ∈ cs
   · exact fo hb
   · rw [cj hb]; exact e
 refine ⟨⟨e0.mod, S.kind, rfl, rfl, Nat.le_refl _, fun y z c h1 h2 => ?_, fun y hy => ?_, fun y c hf _ => ?_, fun _ => hd, Around.frames_deeper e0.frames, .inr ⟨rfl, rfl⟩, fun b z => absurd z (noA b), fun b o e => ⟨(e0.bs b o e).1, hid b (e0.bs b o e).2⟩, e0.bsz, fun b _ _ => noA b, fun b z => absurd z (noA b), e0.funs, fun b hb => hid b (e0.frf b hb)⟩,
   rfl, e0.bare, Un.kept hk, ⟨_, hns, fun i y v q1 q2 q3 => ?_⟩, fun y c h => cellOf c (memC y c h), hid _ (e0.hok.fresh (Nat.le_refl _)), fun y c h => fo (memC y c h), fun p hp => absurd (show p ∈ ([] : List (Addr × Obj)) from hp) (by simp), (vv ca e0.hok).kept hk, ?_⟩
 · obtain ⟨i, e1, e2⟩ := eL (show (ys.zip cs).lookup y = some c from h1)
   obtain ⟨j, e3, e4⟩ := eL (show (ys.zip cs).lookup z = some c from h2)
   have : i = j := by
     obtain ⟨a1, b1⟩ := List.getElem?_eq_some_iff.mp e2
     obtain ⟨a2, b2⟩ := List.getElem?_eq_some_iff.mp e4
     exact (List.getElem_inj hcs).mp (b1.trans b2.symm)
   subst this
   rw [e1] at e3; exact Option.some.inj e3
 · have hy : scope.names.lookup y = some .cell ∨ scope.names.lookup y = some .free := hy
   rcases hy with hy | hy
   · exact absurd rfl (S.nocell _ (PySem.mem_of_lookup hy))
   · obtain ⟨i, hi, e⟩ := List.mem_iff_getElem.mp (S.frs _ (PySem.mem_of_lookup hy) rfl)
     have hi2 : i < cs.length := by omega
     exact ⟨cs[i], iV hcl ndY (List.getElem?_eq_some_iff.mpr ⟨hi, e⟩) (List.getElem?_eq_getElem hi2)⟩
 · exact absurd (show false = true from hf) Bool.false_ne_true
 · unfold dk at q2
   by_cases hi : i < vs.length
   · rw [List.getElem?_append_left (by simpa using hi), List.getElem?_map] at q2
     have ha : vs[i]? = some v := by
       cases e : vs[i]? with
       | none => rw [e] at q2; cases q2
       | some a => rw [e] at q2; cases q2; rfl
     obtain ⟨u, hu, rv⟩ := r.get ha
     have hp : ps[i]? = some y := by
       rw [← S.pre, List.getElem?_take_of_lt (by omega)]; exact q1
     exact ⟨u, rv, .inl ⟨S.par y (List.mem_of_getElem? hp), jw ndP hp hu⟩⟩
   · rw [List.getElem?_append_right (by simpa using hi), List.length_map] at q2
     by_cases hj : i - vs.length < N.length - vs.length - cvs.length
     · rw [List.getElem?_append_left (by simpa using hj), List.getElem?_replicate] at q2
       split at q2 <;> cases q2
     · rw [List.getElem?_append_right (by simpa using hj), List.length_replicate, List.getElem?_map] at q2
       have ha : cvs[i - vs.length - (N.length - vs.length - cvs.length)]? = some v := by
        cases e : cvs[i - vs.length - (N.length - vs.length - cvs.length)]? with
        | none => rw [e] at q2; cases q2
        | some a => rw [e] at q2; cases q2; rfl
       have hle := S.le
       have hiN : i < N.length := (List.getElem?_eq_some_iff.mp q1).1
       have hx : i - vs.length - (N.length - vs.length - cvs.length) = i - (N.length - ys.length) := by omega
       rw [hx] at ha
       have hy : ys[i - (N.length - ys.length)]? = some y := by
        have e1 : N.drop (N.length - ys.length) = ys := S.suf
        have e2 : (N.drop (N.length - ys.length))[i - (N.length - ys.length)]? = some y := by
         rw [List.getElem?_drop]
         rw [show N.length - ys.length + (i - (N.length - ys.length)) = i by omega]; exact q1
        rw [e1] at e2; exact e2
       obtain ⟨c, ec, hc⟩ := ca.get ha
       obtain ⟨⟨u, o, ru, eo, hdo⟩, _, _⟩ := (show aM P w H s.heap c (bL c v) from e0.hok c _ hc)
       exact ⟨u, ru, .inr ⟨.inr (S.fr y (List.mem_of_getElem? hy)), c, iV hcl ndY hy ec, o, hk _ _ eo, hdo⟩⟩
 · unfold dk
   show _ = N.length
   have := S.le
   rw [List.length_append, List.length_append, List.length_map, List.length_map, List.length_replicate]
   omega
end
section
variable {P : Program} {w : World} {K : W.Frag} {mg : Str → Option Value} {base : Heap} {k : Nat} {t : cD} {N : List Str} {sp : Sp}
theorem qz {body : List Stmt} (hb : t.body = .stmts body) (S : dB N t.ps t.ys t.scope)
    (hbody : ∀ (f c : Addr) (cl : List (Str × Addr)) (A : Around) (outer : List Env) (s : Shared) (H : Hp) (vs cvs : List V) (Q : VK) (E : XK), aO k (A.deeper (W.envX t.qual t.scope s.heap.objs.size f (.ref c) cl)) → vs.length = t.ps.length → cvs.length = t.ys.length → sp (vs ++ cvs) H Q E →
      ∃ td, PSs (fH P w K mg base N t.qual t.scope f c cl A outer s H E) body td ∧ td { nx := fun _ H' => Q .non H', rt := Q } (dk N vs cvs) H) : eE P w K mg base (k + 1) t sp := by
  refine ⟨fun A outer s H f cs us vs cvs Q E hr e0 ca r hl hsp => ?_⟩
  obtain ⟨c, hf, hcc⟩ := ca.ex
  have KX : K.In s.heap := e0.mod.kin.keeps fun b o e => (e0.bs b o e).1
  have lim : s.heap.NoLimit := e0.mod.nolimit.keeps fun b o e => (e0.bs b o e).1
  obtain ⟨⟨od, fd, sl, ho, h1, h2, h3, h4, h5, h6, h7, h8, h9, h10⟩, _, _⟩ := (show aM P w H s.heap f (cN f t cs c) from e0.hok f _ hf)
  obtain ⟨⟨o, vs', tk, hco, hdo, hv⟩, _, _⟩ := (show aM P w H s.heap c (ci c t.qual) from e0.hok c _ hcc)
  have hcd : s.heap.CodeRec fd.code fd.qualname := ⟨c, o, vs', tk, h6, hco, hdo, by rw [h1]; exact hv⟩
  refine codeAny_mono (codeAny_call_function (R := CR (CX1 P w) outer P w (bX cs H) s (fun v H' => Q v (bK cs H H')) (fun c a H' => E c a (bK cs H H'))) hr.depth ho rfl (by rw [h3]; exact S.co) (by rw [h3]; exact S.gen) (h2.trans hb) hcd ?_) fun r s' h => CR.back ca.cells e0.frf e0.hok h
  rw [h8 us (by rw [← r.length]; exact hl), h3, h4, h5, h1, h6, h7]
  refine wpAny_pure (wpAny_newFunctionEnv S.nocell (fun y hy => S.par y.1 (List.of_mem_zip hy).1) (fun h' hns hsb => ⟨lim.fresh _ hsb, ?_⟩) S.kind)
  have hk : ∀ b o, s.heap.get? b = some o → h'.get? b = some o := fun b o e => hsb.extBut b o (Nat.ne_of_lt (Heap.lt_size e)) (Heap.get?_push_of_some _ e)
  have lcv : cvs.length = t.ys.length := by rw [← h10]; exact (Paired.length ca.cells).symm
  obtain ⟨td, ht, hq⟩ := hbody f c (t.ys.zip cs) A outer s (bX cs H) vs cvs _ _ (hr.deeper _) hl lcv hsp
  have I := mY (tk := s.toks + (t.ps.zip us).length) (qual := t.qual) (f := f) (c := c) (E := fun c a H' => E c a (bK cs H H')) S hr.hd e0 ca.cells h9 h10 hl r hns hk
  show codeAny _ _ (.func body (W.envX t.qual t.scope s.heap.objs.size f (.ref c) (t.ys.zip cs))) _ _
  refine codeAny_func ?_
  refine wpAny_mono (ht [] _ (dk N vs cvs) _ _ I hq) (fun fl s' hs => ?_) fun e s' hs => hs
  cases fl with
  | ret u =>
    obtain ⟨v, σ', H', J, rv, q⟩ := hs
    exact ⟨v, H', J.os, J.bare, J.base, J.hok, rv, q⟩
  | next =>
    obtain ⟨σ', H', J, q⟩ := hs
    exact ⟨V.non, H', J.os, J.bare, J.base, J.hok, rfl, q⟩
  | brk =>
    obtain ⟨_, _, _, q⟩ := hs
    exact False.elim q
  | cont =>
    obtain ⟨_, _, _, q⟩ := hs
    exact False.elim q
theorem mW {body : Expr} (hb : t.body = .expr body) (S : dB N t.ps t.ys t.scope)
  (hbody : ∀ (f c : Addr) (cl : List (Str × Addr)) (A : Around) (outer : List Env) (s : Shared) (H : Hp) (vs cvs : List V) (Q : VK) (E : XK), aO k (A.deeper (W.envX t.qual t.scope s.heap.objs.size f (.ref c) cl)) → vs.length = t.ps.length → cvs.length = t.ys.length → sp (vs ++ cvs) H Q E →
   ∃ te, PE (fH P w K mg base N t.qual t.scope f c cl A outer s H E) body te ∧ te (dk N vs cvs) H Q) : eE P w K mg base (k + 1) t sp := by
 refine ⟨fun A outer s H f cs us vs cvs Q E hr e0 ca r hl hsp => ?_⟩
 obtain ⟨c, hf, hcc⟩ := ca.ex
 have KX : K.In s.heap := e0.mod.kin.keeps fun b o e => (e0.bs b o e).1
 have lim : s.heap.NoLimit := e0.mod.nolimit.keeps fun b o e => (e0.bs b o e).1
 obtain ⟨⟨od, fd, sl, ho, h1, h2, h3, h4, h5, h6, h7, h8, h9, h10⟩, _, _⟩ := (show aM P w H s.heap f (cN f t cs c) from e0.hok f _ hf)
 obtain ⟨⟨o, vs', tk, hco, hdo, hv⟩, _, _⟩ := (show aM P w H s.heap c (ci c t.qual) from e0.hok c _ hcc)
 have hcd : s.heap.CodeRec fd.code fd.qualname := ⟨c, o, vs', tk, h6, hco, hdo, by rw [h1]; exact hv⟩
 refine codeAny_mono (W.kla_callFunE (R := CR (CX1 P w) outer P w (bX cs H) s (fun v H' => Q v (bK cs H H')) (fun c a H' => E c a (bK cs H H'))) hr.depth ho rfl (by rw [h3]; exact S.co) (by rw [h3]; exact S.gen) (h2.trans hb) hcd ?_) fun r s' h => CR.back ca.cells e0.frf e0.hok h
 rw [h8 us (by rw [← r.length]; exact hl), h3, h4, h5, h1, h6, h7]
 refine wpAny_pure (wpAny_newFunctionEnv S.nocell (fun y hy => S.par y.1 (List.of_mem_zip hy).1) (fun h' hns hsb => ⟨lim.fresh _ hsb, ?_⟩) S.kind)
 have hk : ∀ b o, s.heap.get? b = some o → h'.get? b = some o := fun b o e => hsb.extBut b o (Nat.ne_of_lt (Heap.lt_size e)) (Heap.get?_push_of_some _ e)
 have lcv : cvs.length = t.ys.length := by rw [← h10]; exact (Paired.length ca.cells).symm
 obtain ⟨te, ht, hq⟩ := hbody f c (t.ys.zip cs) A outer s (bX cs H) vs cvs _ _ (hr.deeper _) hl lcv hsp
 have I := mY (tk := s.toks + (t.ps.zip us).length) (qual := t.qual) (f := f) (c := c) (E := fun c a H' => E c a (bK cs H H')) S hr.hd e0 ca.cells h9 h10 hl r hns hk
 show codeAny _ _ (.expr body (W.envX t.qual t.scope s.heap.objs.size f (.ref c) (t.ys.zip cs))) _ _
 refine W.kla_codeExpr ?_
 refine wpAny_mono (ht [] _ (dk N vs cvs) _ _ I hq) (fun v s' hs => ?_) fun e s' hs => hs
 obtain ⟨x, H', J, rv, q⟩ := hs
 exact ⟨x, H', J.os, J.bare, J.base, J.hok, rv, q⟩
end
end L2
namespace L2
open PySem PySem.Spec PyProof.Rows
def BM (mg : Str → Option Value) (h : Heap) : Prop := ∃ bm ob, mg "__builtins__" = some (.ref bm) ∧ bm ≠ builtinsNs ∧ h.get? bm = some ob ∧ ob.cls = .type "module" ∧ ob.dict = some builtinsNs ∧ ob.data = .plain
section
variable {X : Cx} {pins : List (Addr × Obj)} {σ : St} {H : Hp} {s : Shared} {P c : Addr} {ps : Array Value} {t : cD} {cs : List Addr} {h' : Heap} {tk : Nat} {fd : FuncData}
theorem lL {more : Array Value} (I : Inv X pins σ H s) (hP : H P = some (.tbl ps)) (hx : Heap.ExtBut P s.heap h') (hge : s.heap.objs.size ≤ c) (hlt : c < h'.objs.size) (hrec : h'.CodeRec (.ref c) t.qual)
   (htb : h'.get? P = some (W.tabObj (ps ++ more))) (hfd : iS t cs c fd) :
   Inv X pins σ (upd (upd (upd H P (.tbl (ps ++ more))) c (ci c t.qual)) h'.objs.size (cN h'.objs.size t cs c)) { s with heap := h'.push { cls := .type "function", data := .func fd }, toks := tk } := by
 have hcn : H c = none := I.hok.fresh hge
 have hfn : H h'.objs.size = none := I.hok.fresh (Nat.le_of_lt (Nat.lt_of_le_of_lt hge hlt))
 have ncP : c ≠ P := (aj hP hcn).symm
 have nfP : h'.objs.size ≠ P := (aj hP hfn).symm
 have ncf : c ≠ h'.objs.size := Nat.ne_of_lt hlt
 have old : ∀ b o, s.heap.get? b = some o → b ≠ c ∧ b ≠ h'.objs.size := fun b o e => ⟨Nat.ne_of_lt (Nat.lt_of_lt_of_le (Heap.lt_size e) hge), Nat.ne_of_lt (Nat.lt_of_lt_of_le (Heap.lt_size e) (Nat.le_of_lt (Nat.lt_of_le_of_lt hge hlt)))⟩
 have keepP : ∀ b o, b ≠ P → s.heap.get? b = some o → (h'.push { cls := .type "function", data := .func fd }).get? b = some o := fun b o hb e => Heap.get?_push_of_some _ (hx b o hb e)
 have neP : ∀ b, H b = none → b ≠ P := fun b e z => by rw [z, hP] at e; cases e
 have obj : ∀ b o, H b = some o → ∃ u, s.heap.get? b = some u := fun b o e => qS (I.hok b o e)
 have same : ∀ b o, H b = some o → b ≠ P → (upd (upd (upd H P (.tbl (ps ++ more))) c (ci c t.qual)) h'.objs.size (cN h'.objs.size t cs c)) b = some o := fun b o e hb => by
   rw [ae (aj e hfn), ae (aj e hcn), ae hb]; exact e
 refine I.un ⟨fun b o e n hb hx' => keepP b o (neP b n) e, fun b o e n hb hx' => ⟨o.slots, keepP b o (neP b n) e⟩, fun b o e n hx' => ?_, fun b o e hx' => ?_, fun b xs e => same b _ e (aS e hP (fun z => nomatch z)), fun b o u e => same b _ e (aS e hP (fun z => nomatch z)), fun b qs e => ?_⟩ fun b o e => ?_
 · rw [ae (old b o e).2, ae (old b o e).1, ae (neP b n)]; exact n
 · by_cases hb : b = P
   · subst hb; exact ⟨_, Heap.get?_push_of_some _ htb⟩
   · exact ⟨o, keepP b o hb e⟩
 · by_cases hb : b = P
   · subst hb
     rw [hP] at e; cases e
     exact ⟨more, by rw [ae nfP.symm, ae ncP.symm, af]⟩
   · exact ⟨#[], by rw [same b _ e hb]; simp⟩
 · by_cases hf : b = h'.objs.size
   · subst hf
     rw [af] at e; cases e
     refine ⟨⟨_, fd, _, Heap.get?_push_size _ rfl, hfd⟩, ⟨_, Heap.get?_push_size _ rfl⟩, ?_⟩
     rintro h1 h2 ⟨od, fd', sl, e1, e2⟩ k
     exact ⟨od, fd', sl, k _ e1, e2⟩
   · rw [ae hf] at e
     by_cases hc : b = c
     · subst hc
       rw [af] at e; cases e
       obtain ⟨c2, oc, vs, tq, e0, e1, e2, e3⟩ := hrec
       cases e0
       refine ⟨⟨oc, vs, tq, Heap.get?_push_of_some _ e1, e2, e3⟩, ⟨_, Heap.get?_push_of_some _ e1⟩, ?_⟩
       rintro h1 h2 ⟨o, vs, tk, a1, a2, a3⟩ k
       exact ⟨o, vs, tk, k _ a1, a2, a3⟩
     · rw [ae hc] at e
       by_cases hp : b = P
       · subst hp
         rw [af] at e; cases e
         exact Heap.get?_push_of_some _ htb
       · rw [ae hp] at e
         refine (I.hok b o e).stay (fun a u ha q => keepP a u ?_ q) (fun a q => same a _ q (aS q hP (fun z => nomatch z))) fun a xs q => same a _ q (aS q hP (fun z => nomatch z))
         rcases ha with rfl | ha
         · exact hp
         · exact aS ha hP (fun z => nomatch z)
theorem lY (I : Inv X pins σ H s) (hk : ∀ b o, s.heap.get? b = some o → h'.get? b = some o) (hsz : s.heap.objs.size ≤ h'.objs.size) (hfd : iS t cs c fd) :
  Inv X pins σ (upd H h'.objs.size (cN h'.objs.size t cs c)) { s with heap := h'.push { cls := .type "function", data := .func fd }, toks := tk } := by
 refine I.laid (a := h'.objs.size) (o := cN h'.objs.size t cs c) (fun b u e => Heap.get?_push_of_some _ (hk b u e)) hsz ⟨⟨_, fd, _, Heap.get?_push_size _ rfl, hfd⟩, ⟨_, Heap.get?_push_size _ rfl⟩, ?_⟩
 rintro h1 h2 ⟨od, fd', sl, e1, e2⟩ k
 exact ⟨od, fd', sl, k _ e1, e2⟩
end
def jC (P : Addr) (pos : Pos) (t : cD) (cs : List Addr) : TE := fun _ H Q => ∃ ps, H P = some (.tbl ps) ∧ TriplesOk ps.toList ∧
  ((codeAmong pos ps.toList = none ∧ ∀ c f, H c = none → H f = none → c ≠ f → Q (.ref f) (upd (upd (upd H P (.tbl (ps ++ #[rawInt pos.line, rawInt pos.col, .ref c]))) c (ci c t.qual)) f (cN f t cs c))) ∨
   ∃ c, codeAmong pos ps.toList = some (.ref c) ∧ ∀ f, H f = none → Q (.ref f) (upd H f (cN f t cs c)))
section
variable {X : Cx} {c0 P : Addr} {params : Arguments} {scope : Scope} {pos : Pos} {t : cD} {cs : List Addr}
theorem mX {pins : List (Addr × Obj)} {σ : St} {H : Hp} {s : Shared} {ps : Array Value} (I : Inv X pins σ H s) (hP : H P = some (.tbl ps)) (B : BM X.mg X.base) :
   s.heap.get? P = some (W.tabObj ps) ∧ s.heap.Ns mainGlobals X.mg ∧ mainGlobals ≠ P ∧ s.heap.BuiltinsAt X.mg P := by
 have hPo : s.heap.get? P = some (W.tabObj ps) := I.hok P _ hP
 have hg : s.heap.Ns mainGlobals X.mg := I.mod.glob.keeps I.bk
 have hgP : mainGlobals ≠ P := fun q => by
   obtain ⟨o, es, ep, e, hd, _⟩ := hg
   rw [q, hPo] at e; cases e; cases hd
 obtain ⟨bm, ob, b1, b2, b3, b4, b5, b6⟩ := B
 have b3' := I.bk _ _ b3
 refine ⟨hPo, hg, hgP, bm, ob, b1, b2, fun q => ?_, fun q => ?_, b3', b4, b5, b6⟩
 · obtain ⟨o, es, ep, e, hd, _⟩ := hg
   rw [q, e] at b3'; cases b3'; rw [hd] at b6; cases b6
 · rw [q, hPo] at b3'; cases b3'; cases b4
theorem uj {body : Expr} (B : BM X.mg X.base) (C : W.CodeHd X.base c0 P) (hcode : X.env.code = .ref c0) (hcl : closureFor scope X.env = pure (t.ys.zip cs)) (nd : cs.Nodup) (hl : cs.length = t.ys.length)
   (hq : X.env.qual ++ "<lambda>" = t.qual) (hb : t.body = .expr body) (hs : t.scope = scope)
   (hbind : ∀ (cl : List (Str × Addr)) (pm cdv ct : Value) (us : List Value), us.length = t.ps.length → bindArgs (W.kla_fn "<lambda>" t.qual params body scope cl pm cdv ct) ⟨us, []⟩ = pure (t.ps.zip us))
   (hdef : defaultsOf params X.env = ([], []) := by rfl) : QE X (.Lambda params body scope pos) (jC P pos t cs) := ⟨fun pins s σ H Q I h => by
 obtain ⟨ps, hP, ht, h⟩ := h
 obtain ⟨hPo, hg, hgP, hB⟩ := mX I hP B
 have hfd : ∀ (pm ct : Value) (c : Addr), iS t cs c (W.kla_fn "<lambda>" t.qual params body scope (t.ys.zip cs) pm (.ref c) ct) := fun pm ct c => ⟨rfl, hb.symm, hs.symm, rfl, rfl, rfl, rfl, hbind _ _ _ _, nd, hl⟩
 refine W.kla_eval hdef ?_
 rw [hq]
 rcases h with ⟨hn, q⟩ | ⟨c, hf, q⟩
 · refine W.kla_makeFunction hcl I.ok.glob hg hcode (C.keeps I.bk) hPo ht hn hgP hB fun c ctv h' tk hx hge hlt hrec htb => ?_
   exact ⟨.ref h'.objs.size, _, lL I hP hx hge hlt hrec htb (hfd _ _ _), rfl, q c h'.objs.size (I.hok.fresh hge) (I.hok.fresh (Nat.le_of_lt (Nat.lt_of_le_of_lt hge hlt))) (Nat.ne_of_lt hlt)⟩
 · refine W.kla_makeFunctionHit hcl I.ok.glob hg hcode (C.keeps I.bk) hPo ht hf hB fun ctv h' tk hk hsz => ?_
   exact ⟨.ref h'.objs.size, _, lY I hk hsz (hfd _ _ _), rfl, q h'.objs.size (I.hok.fresh hsz)⟩⟩
theorem uk (i : Nat) {name : Str} {body : List Stmt} (hN : X.N.Nodup) (B : BM X.mg X.base) (C : W.CodeHd X.base c0 P) (hcode : X.env.code = .ref c0) (hcl : closureFor scope X.env = pure (t.ys.zip cs)) (nd : cs.Nodup) (hl : cs.length = t.ys.length)
   (hq : qualnameIn X.env name name = t.qual) (hb : t.body = .stmts body) (hs : t.scope = scope)
   (hbind : ∀ (cl : List (Str × Addr)) (doc pm cdv ct : Value) (us : List Value), us.length = t.ps.length → bindArgs (W.fnX name t.qual params body scope cl .none .none doc pm none cdv ct) ⟨us, []⟩ = pure (t.ps.zip us))
   (hi : X.N[i]? = some name := by rfl) (hx : Loc X.env.scope name := by first | exact .inl rfl | exact .inr rfl) (hf : X.fn name = true ∨ X.env.scope.names.lookup name = some .local := by first | exact .inl rfl | exact .inr rfl)
   (hd0 : params.defaults = [] := by rfl) (hk0 : params.kw_defaults = [] := by rfl) (ha : annTrees params none X.env = [] := by rfl) :
   QS X (.FunctionDef name params body [] none [] scope none name pos) (az (jC P pos t cs) (au i)) := ⟨fun pins s σ H D I h => by
 obtain ⟨ps, hP, ht, h⟩ := h
 obtain ⟨hPo, hg, hgP, hB⟩ := mX I hP B
 have hfd : ∀ (doc pm ct : Value) (c : Addr), iS t cs c (W.fnX name t.qual params body scope (t.ys.zip cs) .none .none doc pm none (.ref c) ct) := fun doc pm ct c => ⟨rfl, hb.symm, hs.symm, rfl, rfl, rfl, rfl, hbind _ _ _ _ _, nd, hl⟩
 refine W.nestDef_K hd0 hk0 ha ?_
 rw [hq]
 rcases h with ⟨hn, q⟩ | ⟨c, hff, q⟩
 · refine W.makeFunction_K hcl I.ok.glob hg hcode (C.keeps I.bk) hPo ht hn hgP hB fun c ctv doc h' tk hx' hge hlt hrec htb => ?_
   have I2 := lL (tk := tk) (cs := cs) I hP hx' hge hlt hrec htb (hfd doc ((X.mg "__name__").getD .none) ctv c)
   exact fe I2 hN hi hx (v := .ref h'.objs.size) rfl (fun s' I3 => ⟨_, _, I3, q c h'.objs.size (I.hok.fresh hge) (I.hok.fresh (Nat.le_of_lt (Nat.lt_of_le_of_lt hge hlt))) (Nat.ne_of_lt hlt)⟩) hf
 · refine W.makeFunction_hit hcl I.ok.glob hg hcode (C.keeps I.bk) hPo ht hff hB fun ctv doc h' tk hk hsz => ?_
   have I2 := lY (tk := tk) (cs := cs) I hk hsz (hfd doc ((X.mg "__name__").getD .none) ctv c)
   exact fe I2 hN hi hx (v := .ref h'.objs.size) rfl (fun s' I3 => ⟨_, _, I3, q h'.objs.size (I.hok.fresh hsz)⟩) hf⟩
end
section
variable {X : Cx} {k : Nat} {E : St → XK} {x : Str} {p pos : Pos} {e : Expr} {es : List Expr} {ta : TE}
abbrev gk := List (cD × Sp)
def oY (ks : gk) (f : Addr) (vs : List V) (H : Hp) (Q : VK) (E : XK) : Prop := ∃ ts ∈ ks, ∃ cs cvs, cQ H f ts.1 cs cvs ∧ vs.length = ts.1.ps.length ∧ ts.2 (vs ++ cvs) (bX cs H) (fun v H' => Q v (bK cs H H')) (fun c a H' => E c a (bK cs H H'))
def eW (ks : gk) (E : St → XK) (ta : TE) (t : TA) : TE := fun σ H Q => ta σ H fun x H1 => ∃ f, x = .ref f ∧ (∃ ts ∈ ks, ∃ cs cvs, cQ H1 f ts.1 cs cvs) ∧ t σ H1 fun vs H2 => oY ks f vs H2 Q (E σ)
theorem iR {P : Program} {w : World} {H : Hp} {h : Heap} {f : Addr} {t : cD} {cs : List Addr} {cvs : List V} (ok : HOk P w H h) (c : cQ H f t cs cvs) : W.FnAt f h := by
 obtain ⟨c', hf, _⟩ := c.ex
 obtain ⟨⟨od, fd, sl, ho, _⟩, _, _⟩ := (show aM P w H h f (cN f t cs c') from ok f _ hf)
 exact ⟨_, _, _, _, ho⟩
def jJ (P : Program) (w : World) (K : W.Frag) (mg : Str → Option Value) (base : Heap) (k : Nat) (ks : gk) : Prop := ∀ ts ∈ ks, eE P w K mg base k ts.1 ts.2
theorem fw {ks : gk} {t : TA} (hk : jJ X.prog X.w X.K X.mg X.base k ks) (hr : aO k X.A) (hx : dN (CX1 X.prog X.w) X E) (hg : QE X (.Name x p) ta) (ha : QA X (e :: es) t) (hs : aH (e :: es) = true := by rfl) :
    QE X (.Call (.Name x p) (e :: es) [] pos) (eW ks E ta t) := ⟨fun pins s σ H Q I h => by
  have h' : (bj e && aH es) = true := hs
  refine wpAny_Call_Name_kw (thn (hg.out pins s σ H _ I h) fun u s1 ⟨y, H1, I1, ry, f, ey, ⟨ts, hts, cs, cvs, ca⟩, q⟩ => ?_)
  subst ey
  obtain rfl : u = Value.ref f := ry
  refine W.callWith_F (iR I1.hok ca) (thn (ha.out pos pins s1 σ H1 _ I1 q) fun us s2 ⟨vs, H2, I2, rv, ts2, hm2, cs2, cvs2, ca2, hl, hsp⟩ => ⟨iR I2.hok ca2, ?_⟩)
    (aI (Bool.and_eq_true_iff.mp h').1 es X.env) (bc (Bool.and_eq_true_iff.mp h').2)
  refine wpAny_call (codeAny_mono ((hk ts2 hm2).run X.A X.stack s2 H2 f cs2 us vs cvs2 Q (E σ) hr I2.env0 ca2 rv hl hsp) fun r s' hq => ?_)
  cases r with
  | error e => exact hx pins σ H2 s2 e s' I2 hq
  | ok fl =>
    cases fl with
    | ret u => exact I2.after hq
    | next => exact False.elim hq
    | brk => exact False.elim hq
    | cont => exact False.elim hq⟩
end
end L2
namespace L2
open PySem PySem.Spec PyProof.Rows
structure jt where
 nx : St → Hp → Prop
 rt : St → VK
abbrev TSM := jt → St → Hp → Prop
def SPM (X : Cx) (pins : List (Addr × Obj)) (D : jt) (f : Flow) (s' : Shared) : Prop :=
 match f with
 | .next => ∃ σ' H', Inv X pins σ' H' s' ∧ D.nx σ' H'
 | .ret u => ∃ v σ' H', Inv X pins σ' H' s' ∧ aC v u ∧ D.rt σ' v H'
 | _ => False
structure QM (X : Cx) (st : Stmt) (t : TSM) : Prop where
 out : ∀ (pins : List (Addr × Obj)) (s : Shared) (σ : St) (H : Hp) (D : jt), Inv X pins σ H s → t D σ H → wpAny (model X.prog X.w) X.A (exec st X.env) (SPM X pins D) X.xe s
structure QMs (X : Cx) (st : List Stmt) (t : TSM) : Prop where
 out : ∀ (pins : List (Addr × Obj)) (s : Shared) (σ : St) (H : Hp) (D : jt), Inv X pins σ H s → t D σ H → wpAny (model X.prog X.w) X.A (execs st X.env) (SPM X pins D) X.xe s
def lv (t u : TSM) : TSM := fun D σ H => t { D with nx := fun σ' H' => u D σ' H' } σ H
def jj (t : TS) : TSM := fun D σ H => t { nx := D.nx, rt := fun _ _ => False } σ H
def lO (te : TE) : TSM := fun D σ H => te σ H (D.rt σ)
section
variable {X : Cx} {st : Stmt} {sts l m : List Stmt} {t u : TSM} {tS : TS} {e c : Expr} {te : TE} {tc : TT} {pos : Pos}
theorem iX (h : QS X st tS) : QM X st (jj tS) := ⟨fun pins s σ H D I hq => thn (h.out pins s σ H _ I hq) fun f s1 q => by
 cases f with
 | next => exact q
 | ret v => obtain ⟨_, _, _, _, _, z⟩ := q; exact z.elim
 | brk => obtain ⟨_, _, _, z⟩ := q; exact z.elim
 | cont => obtain ⟨_, _, _, z⟩ := q; exact z.elim⟩
theorem kL (h : QE X e te) : QM X (.Return (some e) pos) (lO te) := ⟨fun pins s σ H D I hq =>
 wpAny_Return_some (thn (h.out pins s σ H _ I hq) fun v s1 ⟨x, H1, I1, r1, q1⟩ => ⟨x, σ, H1, I1, r1, q1⟩)⟩
theorem jk (h1 : QM X st t) (h2 : QMs X sts u) : QMs X (st :: sts) (lv t u) := ⟨fun pins s σ H D I h => by
  refine wpAny_execs_cons (thn (h1.out pins s σ H _ I h) fun f s1 q => ?_)
  cases f with
  | next =>
    obtain ⟨σ', H', I', q⟩ := q
    exact h2.out pins s1 σ' H' D I' q
  | ret v => exact q
  | brk => exact q
  | cont => exact q⟩
theorem lb (h1 : QM X st t) : QMs X [st] t := ⟨fun pins s σ H D I h => by
 refine wpAny_execs_cons (thn (h1.out pins s σ H D I h) fun f s1 q => ?_)
 cases f with
 | next => exact wpAny_execs_nil q
 | ret v => exact q
 | brk => exact q
 | cont => exact q⟩
end
def cf : List (Nat × Addr) → St → Hp → Hp
  | [], _, H => H
  | (i, c) :: r, σ, H => match σ[i]? with
    | some (some v) => cf r σ (upd H c (bL c v))
    | _ => cf r σ H
theorem iw {P : Program} {w : World} {fs : List Addr} {H : Hp} {h h' : Heap} {σ : St} : ∀ (cs : List (Nat × Addr)) (H' : Hp), (cs.map (·.2)).Nodup → (∀ p ∈ cs, H' p.2 = none ∧ h.objs.size ≤ p.2 ∧ ∀ v, σ[p.1]? = some (some v) → ∃ u o, aC v u ∧ h'.get? p.2 = some o ∧ o.data = .cell (some u)) →
    Un fs [] H H' h h' → HOk P w H' h' → Un fs [] H (cf cs σ H') h h' ∧ HOk P w (cf cs σ H') h'
  | [], H', _, _, u, ok => ⟨u, ok⟩
  | (i, c) :: r, H', nd, hc, u, ok => by
    unfold cf
    have ndr := (List.nodup_cons.mp nd).2
    have hcr : ∀ p ∈ r, H' p.2 = none ∧ h.objs.size ≤ p.2 ∧ ∀ v, σ[p.1]? = some (some v) → ∃ u o, aC v u ∧ h'.get? p.2 = some o ∧ o.data = .cell (some u) := fun p hp => hc p (List.mem_cons_of_mem _ hp)
    split
    · rename_i v hv
      obtain ⟨hn, hge, hcell⟩ := hc (i, c) List.mem_cons_self
      have hn : H' c = none := hn
      have hge : h.objs.size ≤ c := hge
      obtain ⟨uv, o, ru, eo, hd⟩ := hcell v hv
      have eo : h'.get? c = some o := eo
      refine iw r (upd H' c (bL c v)) ndr (fun p hp => ⟨?_, (hcr p hp).2⟩) ⟨u.keep, u.slot, fun b ob e n hx => ?_, u.there, fun b xs e => ?_, fun b ob z e => ?_, fun b ps e => ?_⟩ fun b ob e => ?_
      · have : p.2 ≠ c := fun z => (List.nodup_cons.mp nd).1 (by rw [← z]; exact List.mem_map.mpr ⟨p, hp, rfl⟩)
        rw [ae this]; exact (hcr p hp).1
      · rw [ae (Nat.ne_of_lt (Nat.lt_of_lt_of_le (Heap.lt_size e) hge))]; exact u.free b ob e n hx
      · have z := u.tups b xs e; rw [ae (aj z hn)]; exact z
      · have z := u.frzs b ob _ e; rw [ae (aj z hn)]; exact z
      · obtain ⟨more, z⟩ := u.tbls b ps e; exact ⟨more, by rw [ae (aj z hn)]; exact z⟩
      · by_cases hb : b = c
        · subst hb
          rw [af] at e; cases e
          refine ⟨⟨uv, o, ru, eo, hd⟩, ⟨o, eo⟩, ?_⟩
          rintro h1 h2 ⟨u', o', r', e', d'⟩ k
          exact ⟨u', o', r', k _ e', d'⟩
        · rw [ae hb] at e
          exact (ok b ob e).stay (fun a q _ z => z) (fun a q => by rw [ae (aj q hn)]; exact q) fun a xs q => by rw [ae (aj q hn)]; exact q
    · exact iw r H' ndr hcr u ok
theorem Fun.okM {P : Program} {w : World} {K : W.Frag} {mg : Str → Option Value} {base : Heap} {x qual : Str} {st : Stmt} {f c0 : Addr} {fd : FuncData} {N ps : List Str} {k : Nat} {sp : Sp} {caps : Nat → List (Nat × Addr)} (F : Fun K x qual st f fd) (hcd : fd.code = .ref c0) (S : aw N ps (ak st)) (len : ∀ vs H Q E, sp vs H Q E → vs.length = ps.length)
    (hcaps : ∀ (L : Nat) (p : Nat × Addr), p ∈ caps L → ∃ y, N[p.1]? = some y ∧ (ak st).names.lookup y = some .cell ∧ (cellsFrom (L + 1) (ak st).names []).lookup y = some p.2) (hnd : ∀ L, ((caps L).map (·.2)).Nodup)
    (hbody : ∀ (A : Around) (outer : List Env) (s : Shared) (H : Hp) (vs : List V) (Q : VK) (E : XK), aO k (A.deeper (envOfC qual (ak st) s.heap.objs.size f (.ref c0))) → sp vs H Q E →
      ∃ t, QMs (dL (CX1 P w) P w K mg base N qual (ak st) f (.ref c0) A outer s H E) (aK st) t ∧ t { nx := fun σ H' => (∀ p ∈ caps s.heap.objs.size, H' p.2 = none) → Q .non (cf (caps s.heap.objs.size) σ H'), rt := fun σ v H' => (∀ p ∈ caps s.heap.objs.size, H' p.2 = none) → Q v (cf (caps s.heap.objs.size) σ H') } (bY N vs) H) : aJ P w K mg base (CX1 P w) (k + 1) f fd ps sp := by
  obtain ⟨oc, od, kV, doc, pm, an, cdv, ct, osl, rfl, lk, hcd'⟩ := F.ex
  obtain rfl : cdv = .ref c0 := hcd
  refine ⟨len, fun A outer s H args us vs Q E hr e0 hb r hsp => ?_⟩
  have hl := len _ _ _ _ hsp
  have KX : K.In s.heap := e0.mod.kin.keeps fun b o e => (e0.bs b o e).1
  have lim : s.heap.NoLimit := e0.mod.nolimit.keeps fun b o e => (e0.bs b o e).1
  have hkind : ∀ y ∈ ps.zip us, (ak st).names.lookup y.1 = some .local ∨ ((ak st).names.lookup y.1 = some .cell ∧ ((cellsFrom (s.heap.objs.size + 1) (ak st).names []).lookup y.1).isSome = true) := fun ⟨n, v⟩ hy => by
    rcases S.par n (List.of_mem_zip hy).1 with q | q
    · exact .inl q
    · exact .inr ⟨q, W.cellsFrom_some _ _ _ (.inl q)⟩
  refine codeAny_call_function hr.depth (KX _ _ lk) rfl S.co S.gen rfl (W.codeRec_of KX hcd') (hb _ _ _ _ ?_)
  refine wpAny_newFunctionEnv_cells S.kind hkind fun env he s1 x => ?_
  subst he
  refine ⟨lim.keeps x.toInCall.keep, codeAny_func ?_⟩
  obtain ⟨t, ht, hq⟩ := hbody A outer s H vs Q E (hr.deeper _) hsp
  have I : Inv (dL (CX1 P w) P w K mg base N qual (ak st) f (.ref c0) A outer s H E) [] (bY N vs) H s1 := jS S hr.hd e0 hl r x
  refine wpAny_mono (ht.out [] s1 (bY N vs) H _ I hq) (fun fl s' hs => ?_) fun e s' hs => hs
  have fin : ∀ {σ' : St} {H' : Hp} {v : V} {u : Value}, Inv (dL (CX1 P w) P w K mg base N qual (ak st) f (.ref c0) A outer s H E) [] σ' H' s' → aC v u → ((∀ p ∈ caps s.heap.objs.size, H' p.2 = none) → Q v (cf (caps s.heap.objs.size) σ' H')) → CE outer P w H s Q u s' :=
    fun {σ' H' v u} J rv q => by
      have free : ∀ p ∈ caps s.heap.objs.size, H' p.2 = none := fun p hp => by
        obtain ⟨y, _, _, hc⟩ := hcaps _ p hp
        exact J.freeC y p.2 hc
      have hcond : ∀ p ∈ caps s.heap.objs.size, H' p.2 = none ∧ s.heap.objs.size ≤ p.2 ∧ ∀ v, σ'[p.1]? = some (some v) → ∃ u o, aC v u ∧ s'.heap.get? p.2 = some o ∧ o.data = .cell (some u) := fun p hp => by
        obtain ⟨y, hy, hk, hc⟩ := hcaps _ p hp
        refine ⟨free p hp, J.ok.cab y p.2 rfl hc, fun v hv => ?_⟩
        obtain ⟨m, _, hloc⟩ := J.loc
        obtain ⟨u', r', lk'⟩ := hloc p.1 y v hy hv (.inr (.inl hk))
        rcases lk' with ⟨z, _⟩ | ⟨_, c, ec, o, eo, hd⟩
        · have z : (ak st).names.lookup y = some .local := z
          rw [hk] at z; cases z
        · have ec : (cellsFrom (s.heap.objs.size + 1) (ak st).names []).lookup y = some c := ec
          rw [hc] at ec; cases ec
          exact ⟨u', o, r', eo, hd⟩
      obtain ⟨un, ok⟩ := iw (P := P) (w := w) (σ := σ') (caps s.heap.objs.size) H' (hnd _) hcond J.base J.hok
      exact ⟨v, _, J.os, J.bare, un, ok, rv, q free⟩
  cases fl with
  | ret u =>
    obtain ⟨v, σ', H', J, rv, q⟩ := hs
    exact fin J rv q
  | next =>
    obtain ⟨σ', H', J, q⟩ := hs
    exact fin (v := V.non) (u := Value.none) J rfl q
  | brk => exact False.elim hs
  | cont => exact False.elim hs
end L2
namespace L2
open PySem PySem.Spec PyProof.Rows
theorem pH {P : Program} {w : World} {K : W.Frag} {mg mb : Str → Option Value} {CX : CXT} {k : Nat} {fa a : Addr} {fd : FuncData} {x : Str} {sp : Sp} {s₁ : Shared} {vs : List Value} {ns : List Int} {tabs : List (Addr × Addr)}
    (KX : K.In s₁.heap) (hns : s₁.heap.Ns mainGlobals mg) (hb : s₁.heap.Ns builtinsNs mb) (hbb : ∀ x : Str, x ≠ "__name__" → mb x = bootBuiltins x) (hlim : s₁.heap.NoLimit) (hg : s₁.gens = #[]) (hB : BM mg s₁.heap)
    (hT : ∀ q ∈ tabs, W.CodeHd s₁.heap q.1 q.2 ∧ s₁.heap.get? q.2 = some (W.tabObj #[])) (hKT : W.noTabs K = true)
    (ha : s₁.heap.get? a = some { cls := .type "list", data := .seq vs.toArray }) (hi : IntsAre vs ns) (hl : ns.length ≤ sizeLine) (hr : aO k callerA)
    (F : ∀ base : Heap, K.In base → base.Ns mainGlobals mg → BM mg base → (∀ q ∈ tabs, W.CodeHd base q.1 q.2) → aJ P w K mg base CX k fa fd [x] sp) (hbind : ∀ (s : Shared) (u : Value), BindsTo s fd ⟨[u], []⟩ [(x, u)])
    (hsp : ∀ H : Hp, (∀ q ∈ tabs, H q.2 = some (.tbl #[])) → SqL K H a (ns.map V.int) → sp [.ref a] H (fun v _ => v = .bl true) fun _ _ _ => False)
    (hCX : ∀ H e s', CX [] H s₁ (fun _ _ _ => False) e s' → False) :
    codeAny (model P w) callerA (.call (.ref fa) ⟨[.ref a], []⟩) (fun r s' => r = .ok (.ret (.bool true)) ∧ OldK s₁.heap s'.heap ∧ s'.os = s₁.os ∧ AllBare s'.gens) s₁ := by
  have rv := ki hi
  have lenV := hi.length
  have tabK : ∀ q ∈ tabs, K.lookup q.2 = none := fun q hq => by
    cases e : K.lookup q.2 with
    | none => rfl
    | some o =>
      have e2 := KX _ _ e
      rw [(hT q hq).2] at e2; cases e2
      have := List.all_eq_true.mp hKT _ (W.mem_of_lookupK e)
      exact absurd (show false = true from this) Bool.false_ne_true
  have tabA : ∀ q ∈ tabs, q.2 ≠ a := fun q hq e => by
    have e2 := (hT q hq).2
    rw [e, ha] at e2; cases e2
  have core : ∀ H : Hp, (∀ q ∈ tabs, H q.2 = some (.tbl #[])) → SqL K H a (ns.map V.int) → HOk P w H s₁.heap → (∀ b, H b ≠ none → (b = a ∧ ∃ o xs, H b = some (.frz o (.lst xs))) ∨ ∃ q ∈ tabs, q.2 = b) → (∀ b, H b ≠ none → K.lookup b = none) →
      codeAny (model P w) callerA (.call (.ref fa) ⟨[.ref a], []⟩) (fun r s' => r = .ok (.ret (.bool true)) ∧ OldK s₁.heap s'.heap ∧ s'.os = s₁.os ∧ AllBare s'.gens) s₁ := by
    intro H hO hS hok hA hK
    have base_of : ∀ {b : Addr} {o : Obj}, s₁.heap.get? b = some o → H b = none → (fu s₁.heap H).get? b = some o := fun e n => rF e n
    have noA : ∀ {b : Addr} {o : Obj}, s₁.heap.get? b = some o → o.cls ≠ .none → o.cls ≠ .type "list" → H b = none := fun {b o} e c1 c2 => by
      cases q : H b with
      | none => rfl
      | some u =>
        rcases hA b (by rw [q]; simp) with ⟨rfl, _⟩ | ⟨p, hp, rfl⟩
        · rw [ha] at e; cases e; exact absurd rfl c2
        · rw [(hT p hp).2] at e; cases e; exact absurd rfl c1
    have noD : ∀ {b : Addr} {o : Obj} {es : Array DictEntry} {ep : Nat}, s₁.heap.get? b = some o → o.data = .dict es ep → H b = none := fun {b o es ep} e d => by
      cases q : H b with
      | none => rfl
      | some u =>
        rcases hA b (by rw [q]; simp) with ⟨rfl, _⟩ | ⟨p, hp, rfl⟩
        · rw [ha] at e; cases e; cases d
        · rw [(hT p hp).2] at e; cases e; cases d
    have nsK : ∀ {b : Addr} {m : Str → Option Value}, s₁.heap.Ns b m → (fu s₁.heap H).Ns b m := fun {b m} ⟨o, es, ep, e, d, r⟩ => ⟨o, es, ep, base_of e (noD e d), d, r⟩
    have hKb : K.In (fu s₁.heap H) := fun b o e => base_of (KX b o e) (by
      cases q : H b with
      | none => rfl
      | some u => rw [hK b (by rw [q]; simp)] at e; cases e)
    have hBb : BM mg (fu s₁.heap H) := by
      obtain ⟨bm, ob, b1, b2, b3, b4, b5, b6⟩ := hB
      exact ⟨bm, ob, b1, b2, base_of b3 (noA b3 (by rw [b4]; intro z; cases z) (by rw [b4]; intro z; exact absurd (Value.type.inj z) (by decide))), b4, b5, b6⟩
    have hCb : ∀ q ∈ tabs, W.CodeHd (fu s₁.heap H) q.1 q.2 := fun q hq => by
      obtain ⟨o, vs, file, tf, flags, tg, inF, text, tt, e1, e2, r⟩ := (hT q hq).1
      exact ⟨o, vs, file, tf, flags, tg, inF, text, tt, base_of e1 (noA e1 (by rw [e2]; intro z; cases z) (by rw [e2]; intro z; exact absurd (Value.type.inj z) (by decide))), e2, r⟩
    have hM : Mod K mg (fu s₁.heap H) := ⟨hKb, nsK hns, ⟨mb, nsK hb, hbb⟩, let ⟨mc, h1, h2⟩ := hlim; ⟨mc, nsK h1, h2⟩⟩
    have e0 : gr P w K mg (fu s₁.heap H) callerA [] s₁ H := ⟨rfl, hM, fun b o e => vp e, Nat.le_of_eq (pG _ _), trivial, fun b hb => absurd (show b ∈ ([] : List Addr) from hb) (by simp), hok, .of_eq hg⟩
    refine codeAny_mono ((F _ hKb (nsK hns) hBb hCb).run callerA [] s₁ H ⟨[.ref a], []⟩ [.ref a] [.ref a] _ _ hr e0 (hbind s₁ (.ref a)) (.cons rfl .nil) (hsp H hO hS)) fun r s' h => ?_
    cases r with
    | error e => exact (hCX H e s' h).elim
    | ok fl =>
      cases fl with
      | next => exact False.elim h
      | brk => exact False.elim h
      | cont => exact False.elim h
      | ret u =>
        obtain ⟨v, H', os, bare, un, hok', r', q⟩ := h
        have q' : v = .bl true := q
        subst q'
        obtain rfl : u = Value.bool true := r'
        have all : ∀ b o, s₁.heap.get? b = some o → s'.heap.get? b = some o ∨ ∃ q ∈ tabs, q.2 = b ∧ ∃ more, s'.heap.get? b = some (W.tabObj more) := fun b o e => by
          cases q : H b with
          | none => exact .inl (un.keep b o e q (by intro z; exact absurd (show b ∈ ([] : List Addr) from z) (by simp)) (by simp))
          | some u =>
            rcases hA b (by rw [q]; simp) with ⟨rfl, ob, xs, z⟩ | ⟨p, hp, rfl⟩
            · have z2 := un.frzs b ob _ z
              obtain ⟨e1, _⟩ := hok b _ z
              obtain ⟨e2, _⟩ := hok' b _ z2
              rw [e] at e1; cases e1
              exact .inl e2
            · obtain ⟨more, z2⟩ := un.tbls p.2 _ (hO p hp)
              exact .inr ⟨p, hp, rfl, _, hok' p.2 _ z2⟩
        refine ⟨rfl, ⟨fun b o e => ?_, fun b o e => ?_⟩, os, bare⟩
        · rcases all b o e with z | ⟨p, hp, rfl, more, z⟩
          · exact .inl z
          · have e2 := (hT p hp).2
            rw [e] at e2; cases e2
            exact .inr (.inl ⟨((hT p hp).1.tab (hT p hp).2).isCodeTable, rfl, #[], more, rfl, by rw [Array.empty_append]; exact z⟩)
        · rcases all b o e with z | ⟨p, hp, rfl, more, z⟩
          · exact ⟨_, z⟩
          · exact ⟨_, z⟩
  cases hk : K.lookup a with
  | some o =>
    have e := KX a o hk
    rw [ha] at e
    cases e
    refine core (fun b => if b ∈ tabs.map (·.2) then some (.tbl #[]) else none) (fun q hq => if_pos (List.mem_map.mpr ⟨q, hq, rfl⟩)) (.inr ⟨_, vs.toArray, _, hk, rfl, rfl, rfl, by rw [List.size_toArray, lenV]; exact hl, by simpa using rv⟩) (fun b u z => ?_) (fun b z => ?_) fun b z => ?_
    · by_cases hb : b ∈ tabs.map (·.2)
      · have z' := (if_pos hb).symm.trans z
        cases z'
        obtain ⟨q, hq, rfl⟩ := List.mem_map.mp hb
        exact (hT q hq).2
      · have z' := (if_neg hb).symm.trans z
        cases z'
    · by_cases hb : b ∈ tabs.map (·.2)
      · obtain ⟨q, hq, e⟩ := List.mem_map.mp hb
        exact .inr ⟨q, hq, e⟩
      · exact absurd (if_neg hb) z
    · by_cases hb : b ∈ tabs.map (·.2)
      · obtain ⟨q, hq, rfl⟩ := List.mem_map.mp hb
        exact tabK q hq
      · exact absurd (if_neg hb) z
  | none =>
    refine core (fun b => if b = a then some (.frz { cls := .type "list", data := .seq vs.toArray } (.lst (ns.map V.int))) else if b ∈ tabs.map (·.2) then some (.tbl #[]) else none)
      (fun q hq => by show (if q.2 = a then _ else _) = _; rw [if_neg (tabA q hq), if_pos (List.mem_map.mpr ⟨q, hq, rfl⟩)]) (.inl (.inr ⟨{ cls := .type "list", data := .seq vs.toArray }, if_pos rfl⟩)) (fun b u z => ?_) (fun b z => ?_) fun b z => ?_
    · by_cases hb : b = a
      · have z' := (if_pos hb).symm.trans z
        cases z'
        subst hb
        exact ⟨ha, by rw [List.length_map]; exact hl, vs, _, rv, ha⟩
      · have z' : (if b ∈ tabs.map (·.2) then some (HO.tbl #[]) else none) = some u := (if_neg hb).symm.trans z
        by_cases hb2 : b ∈ tabs.map (·.2)
        · rw [if_pos hb2] at z'; cases z'
          obtain ⟨q, hq, rfl⟩ := List.mem_map.mp hb2
          exact (hT q hq).2
        · rw [if_neg hb2] at z'; cases z'
    · by_cases hb : b = a
      · exact .inl ⟨hb, _, _, if_pos hb⟩
      · by_cases hb2 : b ∈ tabs.map (·.2)
        · obtain ⟨q, hq, e⟩ := List.mem_map.mp hb2
          exact .inr ⟨q, hq, e⟩
        · exact absurd ((if_neg hb).trans (if_neg hb2)) z
    · by_cases hb : b = a
      · rw [hb]; exact hk
      · by_cases hb2 : b ∈ tabs.map (·.2)
        · obtain ⟨q, hq, rfl⟩ := List.mem_map.mp hb2
          exact tabK q hq
        · exact absurd ((if_neg hb).trans (if_neg hb2)) z
theorem tL {l : W.OpenLaw} {n k : Nat} {q : Program} {loose : List Str} {XP : (Str → Option Value) → Heap → Prop} {YP : World → Heap → Prop} {d : DefRec} {K : Params → W.Frag} {CX : World → CXT} {x : Str} {names : List Str}
  (hn : l.most = some n) (hn2 : n ≤ sizeLine) (hdf : d.params.defaults = []) (hr : aO k callerA)
  (hY : ∀ (w : World) (h : Heap), YP w h → (K w.params).In h)
  (hq : ∀ y ∈ names, ((PyProof.Rows.recsOf q).find? fun e => e.name == y).isSome = true)
  (F : ∀ (w : World) (mg : Str → Option Value) (fa : Addr) (h : Heap), (K w.params).In h → h.Ns mainGlobals mg → mg d.name = some (.ref fa) →
   ∃ (fd : FuncData) (tabs : List (Addr × Addr)) (sp : Sp), (∀ (s : Shared) (u : Value), BindsTo s fd ⟨[u], []⟩ [(x, u)]) ∧ W.noTabs (K w.params) = true ∧ (∀ t ∈ tabs, ∃ y ∈ names, W.tabIn (K w.params) y = some t) ∧
    (∀ base : Heap, (K w.params).In base → base.Ns mainGlobals mg → BM mg base → (∀ t ∈ tabs, W.CodeHd base t.1 t.2) → aJ l.prog w (K w.params) mg base (CX w) k fa fd [x] sp) ∧
    ∀ (H : Hp) (a : Addr) (ns : List Int), ns.length ≤ n → (∀ t ∈ tabs, H t.2 = some (.tbl #[])) → SqL (K w.params) H a (ns.map V.int) → sp [.ref a] H (fun v _ => v = .bl true) fun _ _ _ => False)
  (hCX : ∀ (w : World) (H : Hp) (s : Shared) (e : Value) (s' : Shared), CX w [] H s (fun _ _ _ => False) e s' → False) :
  W.WalkO q loose XP YP l.row.toRowW d [] (fun f vs => PySem.call f vs) := by
 refine Att.attach_call hn hdf fun w s₀ s₁ mg mb fa o pm cd doc a vs ns G Y ho hd hcd hmg hobj hints hlen hg => ?_
 have KX := hY w _ Y
 obtain ⟨fd, tabs, sp, hb, hKT, htabs, hF, hsp⟩ := F w mg fa _ KX G.T.g hmg
 refine pH (tabs := tabs) KX G.T.g G.T.b G.T.builtins G.T.nolimit hg G.T.bmain (fun t ht => ?_) hKT hobj hints (Nat.le_trans hlen hn2) hr hF hb (fun H hO hS => hsp H a ns hlen hO hS) fun H e s' => hCX w H s₁ e s'
 obtain ⟨y, hy, e⟩ := htabs t ht
 obtain ⟨dd, hdd⟩ := Option.isSome_iff_exists.mp (hq y hy)
 exact W.tab_of G.T KX hdd e
end L2
namespace L2
open PySem PySem.Spec PyProof.Rows
section
variable {X : Cx}
theorem SPM.unwish {E : Value → Shared → Prop} {pins : List (Addr × Obj)} {D : jt} {f : Flow} {s' : Shared} (h : SPM (X.wish E) pins D f s') : SPM X pins D f s' := by
 cases f with
 | next => obtain ⟨σ', H', I, q⟩ := h; exact ⟨σ', H', I.unwish, q⟩
 | brk => exact h
 | cont => exact h
 | ret u => obtain ⟨v, σ', H', I, r, q⟩ := h; exact ⟨v, σ', H', I.unwish, r, q⟩
theorem QMs.nox {st : List Stmt} {t : TSM} (h : QMs X.nox st t) : QMs X st t := ⟨fun pins s σ H D I hw =>
 wpAny_mono (h.out pins s σ H D (I.wish _) hw) (fun _ _ q => SPM.unwish q) fun _ _ z => False.elim z⟩
theorem eE.mono {P : Program} {w : World} {K : W.Frag} {mg : Str → Option Value} {base : Heap} {j k : Nat} {t : cD} {sp : Sp} (F : eE P w K mg base j t sp) (h : j ≤ k) : eE P w K mg base k t sp :=
 ⟨fun A outer s H f cs us vs cvs Q E hr => F.run A outer s H f cs us vs cvs Q E (hr.mono h)⟩
def mT : V → List V → Hp → VK → Prop := fun x vs H Q => ∃ a y d r H', x = .ref a ∧ vs = [y, d] ∧ xQ H a y d r H' ∧ Q r H'
theorem qH (hu : X.A.units + 1 < cLine) : MtR X "dict.setdefault" mT := by
 intro pins s σ H x xs v us Q I rx rs h
 obtain ⟨a, y, d, r, H', rfl, rfl, g, q⟩ := h
 obtain rfl : v = Value.ref a := rx
 obtain ⟨uy, ud, rfl, ry, rd⟩ := jr rs
 rcases g with ⟨g, rfl⟩ | ⟨g, p, rfl⟩
 · rcases g with ⟨kvs, k, e, rfl, l⟩ | ⟨kvs, k, b, e, rfl, eb, l⟩
   · obtain ⟨z, hd, vs, rel, dd⟩ := ii I.hok e
     obtain ⟨w', hw, rw'⟩ := cL.some_of (v := r) (o := valueAt vs k) (by rw [l]; exact rel.val k)
     exact call_meetsIn PySem.F.slot_dict_setdefault dd.typeIs PySem.F.entry_dict_setdefault (PySem.F.args_dict_setdefault_3 _ _ _) (kt_meets_setdefault (bI X.prog X.w) a (ie ry) hd ud)
       ⟨vs, dd, by rw [← rel.length]; exact z, (fun v' hv' => by rw [hw] at hv'; cases hv'; exact ⟨r, H', I.tok _, rw', q⟩), (fun hn => by rw [hw] at hn; cases hn)⟩
   · cases (show uy = Value.ref b from ry)
     obtain ⟨z, hd, xs, rel, dd⟩ := iO I.hok e
     obtain ⟨w', hw, rw'⟩ := cL.some_of (v := r) (o := (atKey xs k).map (·.2)) (by rw [l]; exact rel.val k)
     obtain ⟨pp, hp, hp2⟩ := Option.map_eq_some_iff.mp hw
     refine wpAny_call_entry PySem.F.slot_dict_setdefault dd.typeIs PySem.F.entry_dict_setdefault ?_ (PySem.F.args_dict_setdefault_3 _ _ _)
     unfold Builtin.«dict.setdefault»
     refine wpAny_bind ?_
     unfold Builtin.Dict.keyAndDefault
     refine wpAny_bind (wpAny_notOrdered_dict dd.typeIs ?_)
     show wpAny _ _ (pure (a, Value.ref b, some ud)) _ _ s
     refine wpAny_pure ?_
     show wpAny _ _ (if (a == sysModules) = true then _ else (dictSetDefault a (.ref b) ud >>= _)) _ _ s
     rw [if_neg (by rw [hd]; exact Bool.false_ne_true)]
     refine wpAny_bind (dS (tupleKind_room_in1 hu) (fO I.hok eb) dd (fun p' hp' => ?_) (fun hn => ?_) (by rw [← Paired.length rel]; exact z))
     · rw [hp] at hp'; cases hp'
       exact wpAny_pure ⟨_, rfl, ⟨r, H', I.tok _, by rw [hp2]; exact rw', q⟩⟩
     · rw [hp] at hn; cases hn
 · rcases g with ⟨kvs, k, e, rfl, l⟩ | ⟨kvs, k, b, e, rfl, eb, l⟩
   · rcases p with ⟨kvs', k', e', ey, lz, rfl⟩ | ⟨kvs', k', b', e', ey, _⟩
     · have ek : k = k' := by cases k <;> cases k' <;> first | (cases ey; rfl) | cases ey
       subst ek
       obtain ⟨z, hd, vs, rel, dd⟩ := uh I.hok e'
       have ee : kvs = kvs' := by
         rcases e with e | ⟨o, e⟩
         · rw [e'] at e; cases e; rfl
         · rw [e'] at e; cases e
       subst ee
       have hn : valueAt vs k = none := cL.none_of (by rw [l]; exact rel.val k)
       refine call_meetsIn PySem.F.slot_dict_setdefault dd.typeIs PySem.F.entry_dict_setdefault (PySem.F.args_dict_setdefault_3 _ _ _) (kt_meets_setdefault (bI X.prog X.w) a (ie ry) hd ud)
         ⟨vs, dd, by rw [← rel.length]; exact z, (fun v' hv' => by rw [hn] at hv'; cases hv'), fun _ h' dd' hs => ?_⟩
       have he : ∃ q, h'.get? a = some q := let ⟨q, _, _, hq, _⟩ := dd'; ⟨q, hq⟩
       have hl : (bx kvs k r).length ≤ sizeLine := by have := eA kvs k r; omega
       exact ⟨r, _, gW I (by rw [e']; exact True.intro) hs he (qx hl hd (rel.put k rd) dd'), rd, q⟩
     · cases k <;> cases ey
   · rcases p with ⟨kvs', k', e', ey, _⟩ | ⟨kvs', k', b', e', ey, eb', lz, rfl⟩
     · cases k' <;> cases ey
     · cases ey
       have ek : k = k' := nk (HO.tup.inj (Option.some.inj (eb.symm.trans eb')))
       subst ek
       cases (show uy = Value.ref b from ry)
       obtain ⟨z, hd, xs, rel, dd⟩ := pd I.hok e'
       have ee : kvs = kvs' := by
         rcases e with e | ⟨o, e⟩
         · rw [e'] at e; cases e; rfl
         · rw [e'] at e; cases e
       subst ee
       have hn : atKey xs k = none := by
         have := cL.none_of (o := (atKey xs k).map (·.2)) (by rw [l]; exact rel.val k)
         exact Option.map_eq_none_iff.mp this
       refine wpAny_call_entry PySem.F.slot_dict_setdefault dd.typeIs PySem.F.entry_dict_setdefault ?_ (PySem.F.args_dict_setdefault_3 _ _ _)
       unfold Builtin.«dict.setdefault»
       refine wpAny_bind ?_
       unfold Builtin.Dict.keyAndDefault
       refine wpAny_bind (wpAny_notOrdered_dict dd.typeIs ?_)
       show wpAny _ _ (pure (a, Value.ref b, some ud)) _ _ s
       refine wpAny_pure ?_
       show wpAny _ _ (if (a == sysModules) = true then _ else (dictSetDefault a (.ref b) ud >>= _)) _ _ s
       rw [if_neg (by rw [hd]; exact Bool.false_ne_true)]
       refine wpAny_bind (dS (tupleKind_room_in1 hu) (fO I.hok eb) dd (fun p' hp' => ?_) (fun _ h' dd' hs => ?_) (by rw [← Paired.length rel]; exact z))
       · rw [hn] at hp'; cases hp'
       · obtain ⟨q', es, ep, hq, h2, h3, h4, _, h5⟩ := dd'
         have hl : (bx kvs k r).length ≤ sizeLine := by have := eA kvs k r; omega
         refine wpAny_pure ⟨_, rfl, ⟨r, _, gW (ob := .dT (bx kvs k r)) I (by rw [e']; exact True.intro) hs ⟨q', hq⟩ ⟨hl, hd, _, (rel.put k eb rd).keeps fun c ys ec => ?_, q', es, ep, hq, h2, h3, h4, h5⟩, rd, q⟩⟩
         rw [ae (aS ec e' (fun z => nomatch z))]
         exact ec
def Its (z : Str) : It := ⟨fun i _ => i < z.length, fun i H x H' => H' = H ∧ ∃ c, z.cps[i]? = some c ∧ x = .str ⟨#[c]⟩, fun i _ => z.length ≤ i⟩
theorem sY {P : Program} {w : World} {K : W.Frag} {tg : Expr} (z : Str) (t : Tok) (it : Addr) : fx P w K tg (Its z) [it] it (fun i h => h.IsStrIter it "str_ascii_iterator" z t i) where
 mem := by simp
 obj := fun i h st b hb => by
  have e : b = it := by simpa using hb
  subst e
  obtain ⟨o, e, c, d⟩ := st
  exact ⟨o, e, fun v z => by rw [d] at z; cases z⟩
 keep := fun i h h' st k => let ⟨o, ho, r⟩ := st; ⟨o, k it (by simp) o ho, r⟩
 item := by
  intro X hP hw hK hc i pins s σ H E I hf st hg
  subst hP hw hK
  obtain ⟨f0, f1, f2, f3, f4, f5⟩ := hf it (by simp)
  have hi : i < z.cps.size := hg
  refine wpAny_pyNext_ascii_item st (c := z.cps[i]) (Array.getElem?_eq_getElem hi) fun h' st' sb => ?_
  have I1 : Inv X pins σ H { s with heap := h', toks := s.toks + 1 } := I.turned (t' := s.toks + 1) (fun b o hb e => (sb.2 b hb).trans e) f0 f1 f3 f4 f5
  obtain ⟨o, e, c, d⟩ := id st'
  exact ⟨_, rfl, gs (s := { s with heap := h', toks := s.toks + 1 }) e c d (by decide) ⟨.str ⟨#[z.cps[i]]⟩, H, I1, ⟨_, rfl⟩, ⟨rfl, _, Array.getElem?_eq_getElem hi, rfl⟩, st', fun b hb => (hf b hb).1⟩⟩
 done := by
  intro X hP hw hK hc i pins s σ H E I hf st hg
  subst hP hw hK
  obtain ⟨f0, f1, f2, f3, f4, f5⟩ := hf it (by simp)
  exact wpAny_pyNext_ascii_end (I.ok.hd hc) st (Array.getElem?_eq_none (show z.cps.size ≤ i from hg)) fun h' eb => ⟨rfl, I.turned (t' := s.toks) (fun b o hb e => eb b o hb e) f0 f1 f3 f4 f5⟩
 self := fun A i s Q E st h => by
  refine wpAny_pyIter_slot st.typeIs F.slot_str_ascii_iterator_iter (wpAny_call_entry F.slot_str_ascii_iterator_iter st.typeIs F.entry_str_ascii_iterator_iter ?_ (F.args_str_ascii_iterator_iter_1 _))
  show wpAny _ _ (ret (.ref it)) _ _ s
  exact wpAny_pure ⟨_, rfl, "str_ascii_iterator", _, st.typeIs, F.slot_str_ascii_iterator_next.lookup, h⟩
variable {a : Expr} {ta : TE} {tg : Expr}
def eu (K : W.Frag) (tl : TE) : TI := fun σ H R => tl σ H fun x H1 => match x with
 | .str z => z.cps.all (· < 128) = true ∧ R (Its z) H1
 | x => ∃ a, x = .ref a ∧ (((∃ xs, SqL K H1 a xs) ∧ R (Itl K a) H1) ∨ ((∃ xs, SqT K H1 a xs) ∧ R (Itt K a) H1))
theorem eJ (h : QE X a ta) : QI X tg a (eu X.K ta) := ⟨fun pins s σ H R I hw => by
  refine thn (h.out pins s σ H _ I hw) fun v s1 ⟨x, H1, I1, r1, q1⟩ => ?_
  cases x with
  | str z =>
    obtain ⟨t, rfl⟩ := r1
    refine wpAny_pyIter_ascii q1.1 ?_
    refine ⟨s1.heap.objs.size, [s1.heap.objs.size], _, _, H1, rfl, I1.kept (t' := s1.toks) fun b o e => Heap.get?_push_of_some _ e, sY z t _, ⟨_, Heap.get?_push_size _ rfl, rfl, rfl⟩, fun b hb => ?_, q1.2⟩
    have e : b = s1.heap.objs.size := by simpa using hb
    subst e
    exact I1.fpOk (Nat.le_refl _) (I1.hok.fresh (Nat.le_refl _))
  | ref c =>
    obtain ⟨a, e, q⟩ := q1
    cases e
    cases r1
    rcases q with ⟨⟨xs, hq⟩, q⟩ | ⟨⟨xs, hq⟩, q⟩
    · obtain ⟨its, rv, p, hz⟩ := I1.list hq
      refine wpAny_pyIter_list (cU p) ?_
      refine ⟨s1.heap.objs.size, [s1.heap.objs.size], _, _, H1, rfl, I1.kept (t' := s1.toks) fun b o e => Heap.get?_push_of_some _ e, qE _ _, ⟨_, Heap.get?_push_size _ rfl, rfl, rfl⟩, fun b hb => ?_, q⟩
      have e : b = s1.heap.objs.size := by simpa using hb
      subst e
      exact I1.fpOk (Nat.le_refl _) (I1.hok.fresh (Nat.le_refl _))
    · obtain ⟨its, rv, p, hz⟩ := I1.tuple hq
      refine wpAny_pyIter_tuple (show s1.heap.IsTuple c its.toArray from p) ?_
      refine ⟨s1.heap.objs.size, [s1.heap.objs.size], _, _, H1, rfl, I1.kept (t' := s1.toks) fun b o e => Heap.get?_push_of_some _ e, ot _ _, ⟨_, Heap.get?_push_size _ rfl, rfl, rfl⟩, fun b hb => ?_, q⟩
      have e : b = s1.heap.objs.size := by simpa using hb
      subst e
      exact I1.fpOk (Nat.le_refl _) (I1.hok.fresh (Nat.le_refl _))
  | _ => obtain ⟨_, e, _⟩ := q1; cases e⟩
theorem vq : OpR X (binaryOp .Mult) (fun x y H Q => ∃ z n, x = .str z ∧ y = .int n ∧ (-1000 ≤ n ∧ n ≤ 1000 ∧ z.length ≤ 1000) ∧ Q (.str (Txt.mul z n)) H) := by
 intro pins s σ H x y v u Q I rx ry h
 obtain ⟨z, n, rfl, rfl, ⟨h1, h2, h3⟩, q⟩ := h
 obtain ⟨t, rfl⟩ := rx
 obtain ⟨t', rfl⟩ := ry
 refine SB.mul ⟨?_, fun hn _ => ?_, fun hn _ => ?_⟩ fun t' k => ⟨.str _, H, I.tok k, ⟨_, rfl⟩, q⟩
 · rw [decide_eq_false (by omega), decide_eq_false (by omega)]; rfl
 · intro hgt
   have h5 : (1000 : Int) ≤ (2 ^ 63 - 1) / n := Int.le_ediv_of_mul_le (by omega) (by omega)
   omega
 · have h6 : z.length * n.toNat ≤ 1000 * 1000 := Nat.mul_le_mul h3 (by omega)
   exact decide_eq_false (by rw [sizeLine_eq]; omega)
end
end L2
namespace L2
open PySem PySem.Spec PyProof.Rows
theorem pS {J : It} {n : Nat} {it : Nat → V} {Pk : Hp → Prop} {g : TG} {tb : TS} {D : fc} {σ : St} {H : Hp} (T : cg J n it Pk) (Pv : Nat → St → Hp → Prop) (h0 : Pv 0 σ H) (hl : ∀ i σ H, i ≤ n → Pv i σ H → Pk H)
   (hs : ∀ i σ H, i < n → Pv i σ H → g (it i) σ H fun σ2 H2 => tb { D with nx := Pv (i + 1), ct := Pv (i + 1), bk := D.nx } σ2 H2) (hd : ∀ σ H, Pv n σ H → D.nx σ H) :
   ∃ W : Nat → Nat → St → Hp → Prop, (∃ m, W 0 m σ H) ∧ ∀ i m σ H, W i m σ H →
    (J.stop i H ∧ D.nx σ H) ∨ (J.go i H ∧ ∃ N : St → Hp → Prop, (∀ σ' H', N σ' H' → ∃ m', m' < m ∧ W (i + 1) m' σ' H') ∧ ∀ x H', J.yld i H x H' → g x σ H' fun σ2 H2 => tb { D with nx := N, ct := N, bk := D.nx } σ2 H2) := by
 refine ⟨fun i m σ H => m = n - i ∧ i ≤ n ∧ Pv i σ H, ⟨n, by simp, Nat.zero_le _, h0⟩, ?_⟩
 rintro i m σ H ⟨rfl, hi, p⟩
 have q := hl i σ H hi p
 by_cases hlt : i < n
 · refine .inr ⟨T.go i H hlt q, Pv (i + 1), fun σ' H' p' => ⟨n - (i + 1), by omega, rfl, hlt, p'⟩, fun x H' y => ?_⟩
   obtain ⟨rfl, rfl⟩ := T.yld i H x H' hlt q y
   exact hs i σ _ hlt p
 · have e : i = n := by omega
   subst e
   exact .inl ⟨T.stop H q, hd σ H p⟩
theorem oB {α β : Type} (f : β → α → β) (b : β) (l : List α) (i : Nat) (x : α) (h : l[i]? = some x) : (l.take (i + 1)).foldl f b = f ((l.take i).foldl f b) x := by
 rw [List.take_succ, h]; simp
theorem dY {α β : Type} {f : α → β} {l : List α} {i : Nat} {x : β} (h : (l.map f)[i]? = some x) : ∃ a, l[i]? = some a ∧ x = f a := by
 rw [List.getElem?_map] at h
 cases e : l[i]? with
 | none => rw [e] at h; cases h
 | some a => rw [e] at h; cases h; exact ⟨a, rfl, rfl⟩
theorem cQ.keep {H H' : Hp} {f : Addr} {t : cD} {cs : List Addr} {cvs : List V} (k : ∀ b φ, H b = some (.ext φ) → H' b = some (.ext φ)) (c : cQ H f t cs cvs) : cQ H' f t cs cvs := by
 obtain ⟨⟨a, h1, h2⟩, h3⟩ := c
 refine ⟨⟨a, k _ _ h1, k _ _ h2⟩, ?_⟩
 clear h1 h2
 induction h3 with
 | nil => exact .nil
 | cons r t ih => exact .cons (k _ _ r) ih
def jW (K : W.Frag) (ns : List Str) : Bool := decide ((ns.map fun n => (W.tabIn K n).map (·.2)).Nodup)
theorem rA {l : List Addr} (h : (l.map some).Nodup) : l.Nodup := List.Pairwise.of_map some (fun a b h e => h (congrArg some e)) h
end L2
namespace HT
open PySem PyProof.Rows
theorem eY : fillsNumberSlot (.type "tuple") "mul" = pure false :=
 PySem.fillsNumberSlot_seq (id := "tuple.__mul__") (r := some (.builtin "tuple.__rmul__")) F.slot_tuple_mul.lookup (by decide +kernel) F.slot_tuple_rmul.lookup (by decide +kernel)
theorem gO : seqRepeat? (.type "tuple") = pure (some (.builtin "tuple.__mul__")) := by
 unfold seqRepeat?
 rw [PySem.seqSlot_of (T := "tuple") (name := "__mul__") (id := "tuple.__mul__") F.slot_tuple_mul.lookup (by decide +kernel), PySem.seqSlot_of (T := "tuple") (name := "__rmul__") (id := "tuple.__rmul__") F.slot_tuple_rmul.lookup (by decide +kernel)]
 rfl
theorem fK (a : Int) (t : Tok) (l : Addr) (items : Array Value) (n : Nat) (dd : Option Addr) (sl : Array (Option Value)) :
  Meets (Builtin.«int.__rmul__» ⟨[.int a t, .ref l], []⟩) (fun _ R s => s.heap.get? l = some { cls := .type "tuple", dict := dd, data := .seq items n, slots := sl } ∧ R (.ok (.ret Value.notImplemented)) s) :=
 .of_wp fun prog w A R s h => by obtain ⟨hp, g, d, tk, os⟩ := s; obtain ⟨hl, h⟩ := h; wp_walk; exact ⟨_, rfl, h⟩
theorem nK (l : Addr) (items : Array Value) (n : Nat) (x : Int) (u : Tok) (dd : Option Addr) (sl : Array (Option Value)) (h0 : (decide (x < -(2 ^ 63)) || decide (x ≥ 2 ^ 63)) = false) (h1 : (items.isEmpty || x == 1) = true) :
  Meets (Builtin.«tuple.__mul__» ⟨[.ref l, .int x u], []⟩) (fun _ R s => s.heap.get? l = some { cls := .type "tuple", dict := dd, data := .seq items n, slots := sl } ∧ R (.ok (.ret (.ref l))) s) :=
 .of_wp fun prog w A R s h => by obtain ⟨hp, g, d, tk, os⟩ := s; obtain ⟨hl, h⟩ := h; have f1 := AutoSeq1.idx_int; have f2 := AutoSeq1.sub_tuple_tuple; wp_walk using wpAny_loadPart' hl; refine wpAny_ite_false (decide_eq_false (by rw [h0]; decide)) ?_; wp_walk using wpAny_loadPart' hl; exact ⟨_, rfl, h⟩
theorem oI (l : Addr) (items : Array Value) (n : Nat) (x : Int) (u : Tok) (dd : Option Addr) (sl : Array (Option Value)) (h0 : (decide (x < -(2 ^ 63)) || decide (x ≥ 2 ^ 63)) = false) (h1 : (items.isEmpty || x == 1) = false)
  (h2 : (decide (x ≤ 0) || items.isEmpty) = false) (h3 : ¬ ((items.size : Int) * x > (2 ^ 63 - 1) / 8)) (h4 : ¬ Builtin.Tuple.tupleTooMany (items.size * x) = true) (h5 : (List.foldl (fun x1 x2 => x1 ++ x2) #[] (List.replicate x.toNat items)).size ≤ sizeLine) :
  Meets (Builtin.«tuple.__mul__» ⟨[.ref l, .int x u], []⟩) (fun _ R s => s.heap.get? l = some { cls := .type "tuple", dict := dd, data := .seq items n, slots := sl } ∧ R (.ok (.ret (Value.ref s.heap.objs.size))) { s with heap := s.heap.push { cls := Value.type "tuple", data := Data.seq (List.foldl (fun x1 x2 => x1 ++ x2) #[] (List.replicate x.toNat items)) }, toks := s.toks }) :=
 .of_wp fun prog w A R s h => by obtain ⟨hp, g, d, tk, os⟩ := s; obtain ⟨hl, h⟩ := h; have f1 := AutoSeq1.idx_int; have f2 := AutoSeq1.sub_tuple_tuple; wp_walk using wpAny_loadPart' hl; refine wpAny_ite_false (decide_eq_false (by rw [h0]; decide)) ?_; wp_walk using wpAny_loadPart' hl; refine wpAny_ite_false (decide_eq_false h3) ?_; wp_walk using wpAny_loadPart' hl; exact ⟨_, rfl, h⟩
end HT
namespace L2
open PySem PySem.Spec PyProof.Rows
section
variable {X : Cx}
def uo : R2 := fun x y H Q => ∃ a k xs, x = .ref a ∧ y = .int k ∧ H a = some (.tup xs) ∧ xs ≠ [] ∧ 1 ≤ k ∧ k ≤ 1000 ∧ xs.length ≤ 1000 ∧ ∀ p H', am H H' → H' p = some (.tup (List.replicate k.toNat xs).flatten) → Q (.ref p) H'
theorem uU : OpR X (binaryOp .Mult) uo := by
 intro pins s σ H x y v u Q I rx ry h
 obtain ⟨a, k, xs, rfl, rfl, ha, hne, k1, k2, hl, q⟩ := h
 cases rx
 obtain ⟨t, rfl⟩ := ry
 obtain ⟨its, r, p1, hz⟩ := I.tuple (.inl (.inl ha))
 have hlen : its.length = xs.length := r.length.symm
 have hits : its ≠ [] := fun z => hne (r.nil_iff.mp z)
 obtain ⟨⟨cls, dd, data, sl⟩, ho, hc, n, hd⟩ := id p1
 simp only at hc hd
 subst hc hd
 have h0 : (decide (k < -(2 ^ 63)) || decide (k ≥ 2 ^ 63)) = false := by rw [decide_eq_false (by omega), decide_eq_false (by omega)]; rfl
 have hemp : its.toArray.isEmpty = false := by cases its with | nil => exact (hits rfl).elim | cons _ _ => rfl
 by_cases e : k = 1
 · subst e
   refine PySem.wpAny_binaryOp_repeat_ref (T := "tuple") (U := "int") (by decide) ⟨_, ho, rfl⟩ (fun s' => typeIs_int s' 1 t) HT.eY F.fills_int_mul F.slot_int_rmul HT.gO F.slot_int_index.lookup
     (call_meets F.slot_int_rmul (typeIs_int s 1 t) F.entry_int_rmul (F.args_int_rmul_2 _ _) (HT.fK 1 t a its.toArray n dd sl)
      ⟨ho, rfl, ⟨_, ho, rfl⟩, call_meets F.slot_tuple_mul ⟨_, ho, rfl⟩ F.entry_tuple_mul (F.args_tuple_mul_2 _ _) (HT.nK a its.toArray n 1 t dd sl h0 (by rw [hemp]; rfl)) ⟨ho, ?_⟩⟩)
   exact ⟨.ref a, H, I, rfl, q a H am.rfl' (by rw [ha]; simp)⟩
 · have hsz : its.length * k.toNat ≤ 1000000 := Nat.le_trans (Nat.mul_le_mul (by omega : its.length ≤ 1000) (by omega : k.toNat ≤ 1000)) (by decide)
   have hszI : ((its.toArray.size : Nat) : Int) * k ≤ 1000000 := by
     have e1 : ((its.length * k.toNat : Nat) : Int) = (its.length : Int) * k := by rw [Int.natCast_mul, Int.toNat_of_nonneg (by omega)]
     rw [List.size_toArray, ← e1]; omega
   have hnew : List.foldl (fun x1 x2 => x1 ++ x2) #[] (List.replicate k.toNat its.toArray) = (List.replicate k.toNat its).flatten.toArray := by
     have := jM its k.toNat []
     rw [List.nil_append] at this
     exact this
   refine PySem.wpAny_binaryOp_repeat_ref (T := "tuple") (U := "int") (by decide) ⟨_, ho, rfl⟩ (fun s' => typeIs_int s' k t) HT.eY F.fills_int_mul F.slot_int_rmul HT.gO F.slot_int_index.lookup
     (call_meets F.slot_int_rmul (typeIs_int s k t) F.entry_int_rmul (F.args_int_rmul_2 _ _) (HT.fK k t a its.toArray n dd sl)
      ⟨ho, rfl, ⟨_, ho, rfl⟩, call_meets F.slot_tuple_mul ⟨_, ho, rfl⟩ F.entry_tuple_mul (F.args_tuple_mul_2 _ _) (HT.oI a its.toArray n k t dd sl h0 (by rw [hemp]; simp [e]) (by rw [hemp, decide_eq_false (by omega)]; rfl) (by omega) ?_ ?_) ⟨ho, ?_⟩⟩)
   · unfold Builtin.Tuple.tupleTooMany
     rw [sizeLine_eq]
     simp only [gt_iff_lt, decide_eq_true_eq]
     omega
   · rw [hnew, List.size_toArray, mZ, Nat.mul_comm]
     exact aG hsz
   · rw [hnew]
     refine ⟨.ref s.heap.objs.size, _, I.laid (t' := s.toks) (o := .tup (List.replicate k.toNat xs).flatten) (fun b ob q => Heap.get?_push_of_some _ q) (Nat.le_refl _) ?_, rfl, q _ _ (am.upd (I.hok.fresh (Nat.le_refl _))) af⟩
     exact ⟨by rw [mZ, ← hlen, Nat.mul_comm]; exact aG hsz, _, r.rep k.toNat, IsTup.new _ _⟩
def eD : R2 := fun x y H Q => match x, y with
 | .str z, .int n => (-1000 ≤ n ∧ n ≤ 1000 ∧ z.length ≤ 1000) ∧ Q (.str (Txt.mul z n)) H
 | .ref a, .int n => uo (.ref a) (.int n) H Q
 | x, y => rK x y H Q
theorem gj : OpR X (binaryOp .Mult) eD := (vq.or (uU.or BB)).imp fun x y H Q q => by
 unfold eD at q
 split at q
 · exact .inl ⟨_, _, rfl, rfl, q.1, q.2⟩
 · exact .inr (.inl q)
 · exact .inr (.inr q)
end
end L2
namespace L2
open PySem PySem.Spec PyProof.Rows
end L2
namespace L2
open PySem PySem.Spec PyProof.Rows
section
variable {X : Cx}
end
end L2
namespace HT
open PySem PyProof.Rows
theorem sub_tuple_dict : isSubtype (.type "tuple") (.type "dict") = pure false := by rw [isSubtype_type]; kernel_rfl
theorem jB : isSubtype (.type "dict") (.type "tuple") = pure false := by rw [isSubtype_type]; kernel_rfl
theorem oj (l b : Addr) (o : Obj) (hc : o.cls = .type "dict") (o2 : Obj) (hc2 : o2.cls = .type "tuple") :
  Meets (Builtin.«dict.__eq__» ⟨[.ref l, .ref b], []⟩) (fun _ R s => s.heap.get? l = some o ∧ s.heap.get? b = some o2 ∧ R (.ok (.ret .notImplemented)) s) :=
 .of_wp fun prog w A R s h => by
  obtain ⟨hp, g, d, tk, os⟩ := s; obtain ⟨hl, hb, h⟩ := h; obtain ⟨cls, dd, data, sl⟩ := o; obtain ⟨cls2, dd2, data2, sl2⟩ := o2
  simp only at hc hc2; subst hc hc2
  have f1 := sub_tuple_dict; wp_walk using wpAny_loadPart' hl, wpAny_loadPart' hb; exact ⟨_, rfl, h⟩
theorem mr (l b : Addr) (o : Obj) (hc : o.cls = .type "tuple") (o2 : Obj) (hc2 : o2.cls = .type "dict") :
  Meets (Builtin.«tuple.__eq__» ⟨[.ref l, .ref b], []⟩) (fun _ R s => s.heap.get? l = some o ∧ s.heap.get? b = some o2 ∧ R (.ok (.ret .notImplemented)) s) :=
 .of_wp fun prog w A R s h => by
  obtain ⟨hp, g, d, tk, os⟩ := s; obtain ⟨hl, hb, h⟩ := h; obtain ⟨cls, dd, data, sl⟩ := o; obtain ⟨cls2, dd2, data2, sl2⟩ := o2
  simp only at hc hc2; subst hc hc2
  have f1 := jB; wp_walk using wpAny_loadPart' hl, wpAny_loadPart' hb; exact ⟨_, rfl, h⟩
end HT
namespace L2
open PySem PySem.Spec PyProof.Rows
section
variable {X : Cx}
def ur (K : W.Frag) : R2 := fun x y H Q => ∃ a b ys, x = .ref a ∧ y = .ref b ∧ ((∃ kvs, H a = some (.dK kvs)) ∨ ∃ kvs, H a = some (.dT kvs)) ∧ SqT K H b ys ∧ Q (.bl false) H
theorem va (hu : X.A.units < cLine) : OpR X (compareOp .Eq) (ur X.K) := by
 intro pins s σ H x y v u Q I rx ry h
 obtain ⟨a, b, ys, rfl, rfl, ha, hb, q⟩ := h
 cases rx
 cases ry
 obtain ⟨its, _, p1, _⟩ := I.tuple hb
 obtain ⟨o2, ho2, hc2, _⟩ := id p1
 obtain ⟨o, ho, hc⟩ : ∃ o, s.heap.get? a = some o ∧ o.cls = .type "dict" := by
  rcases ha with ⟨kvs, e⟩ | ⟨kvs, e⟩
  · obtain ⟨_, _, _, _, o, _, _, h1, h2, _⟩ := (show aM X.prog X.w H s.heap a (.dK kvs) from I.hok a _ e)
    exact ⟨o, h1, h2.1⟩
  · obtain ⟨_, _, _, _, o, _, _, h1, h2, _⟩ := (show aM X.prog X.w H s.heap a (.dT kvs) from I.hok a _ e)
    exact ⟨o, h1, h2.1⟩
 have hne : a ≠ b := fun e => by
  subst e
  rw [ho] at ho2; cases ho2
  rw [hc] at hc2; exact absurd hc2 (by simp)
 show wpAny _ _ (richCompare .Eq (.ref a) (.ref b)) _ _ s
 exact SeqAt.rc_eq_decline_or (k := false) ⟨_, ho, hc⟩ ⟨_, ho2, hc2⟩ (by decide) F.sub_tuple_dict F.slot_dict_eq F.slot_tuple_eq_refl
  (fun _ hq => call_meets F.slot_dict_eq ⟨_, ho, hc⟩ F.entry_dict_eq (F.args_dict_eq_2 _ _) (HT.oj a b o hc o2 hc2) ⟨ho, ho2, hq⟩)
  (fun _ hq => call_meets F.slot_tuple_eq_refl ⟨_, ho2, hc2⟩ F.entry_tuple_eq (F.args_tuple_eq_2 _ _) (HT.mr b a o2 hc2 o hc) ⟨ho2, ho, hq⟩)
  (fun _ hq => wpAny_isSame_ref_other hne ho ho2 (by rw [hc]; simp) hq) (.inr hu) ⟨.bl false, H, I, rfl, q⟩
def da (K : W.Frag) : R2 := fun x y H Q => match x, y with
 | .ref a, .ref b => wo K (.ref a) (.ref b) H Q ∨ oo K (.ref a) (.ref b) H Q ∨ ur K (.ref a) (.ref b) H Q
 | .ref a, y => oo K (.ref a) y H Q
 | x, .ref b => oo K x (.ref b) H Q
 | x, y => mEq x y H Q
theorem ef (hu : X.A.units + 150 < cLine) : OpR X (compareOp .Eq) (da X.K) := ((wf (by omega)).or ((vV hu).or ((va (by omega)).or oEq))).imp fun x y H Q q => by
 unfold da at q
 split at q
 · exact q.elim .inl fun z => z.elim (fun z => .inr (.inl z)) fun z => .inr (.inr (.inl z))
 · exact .inr (.inl q)
 · exact .inr (.inl q)
 · exact .inr (.inr (.inr q))
end
end L2
namespace HT
open PySem PyProof.Rows
theorem iz : typeLookup (.type "tuple") "__reversed__" = pure none := by rw [typeLookup_type, builtinLookup_eq_fast]; kernel_rfl
theorem ka : Manifest.owners.lookup (String.ofList ['d', 'e', 's', 'r', 'e', 'v', 'e', 'r'].reverse) = some Manifest.sig_reversed := by kernel_rfl
theorem cX : Slot "reversed" "__next__" "reversed.__next__" :=
 .of (owner := "reversed") (n := "__next__") (by rw [typeLookup_type, builtinLookup_eq_fast]; kernel_rfl) (by decide +kernel) (by decide +kernel) (by decide +kernel)
  (by first | exact .inl (by decide +kernel) | exact .inr (by decide +kernel)) (by rw [isSubtype_type]; kernel_rfl)
theorem fN : entryFor table "reversed.__next__" = some Builtin.«reversed.__next__» := entryFor_of_tree (by kernel_rfl)
theorem gB (a : Value) : argsOk "reversed.__next__" ⟨[a], []⟩ := by
 unfold argsOk; rw [signature?_of (id := "reversed.__next__") (n := ['_', '_', 't', 'x', 'e', 'n', '_', '_']) (o := ['d', 'e', 's', 'r', 'e', 'v', 'e', 'r']) (by kernel_rfl) ka]; kernel_rfl
theorem gC : Slot "reversed" "__iter__" "reversed.__iter__" :=
 .of (owner := "reversed") (n := "__iter__") (by rw [typeLookup_type, builtinLookup_eq_fast]; kernel_rfl) (by decide +kernel) (by decide +kernel) (by decide +kernel)
  (by first | exact .inl (by decide +kernel) | exact .inr (by decide +kernel)) (by rw [isSubtype_type]; kernel_rfl)
theorem ky (a : Value) : argsOk "reversed.__iter__" ⟨[a], []⟩ := by
 unfold argsOk; rw [signature?_of (id := "reversed.__iter__") (n := ['_', '_', 'r', 'e', 't', 'i', '_', '_']) (o := ['d', 'e', 's', 'r', 'e', 'v', 'e', 'r']) (by kernel_rfl) ka]; kernel_rfl
theorem jF : entryFor table "reversed.__iter__" = some Builtin.«dict_keyiterator.__iter__» :=
 entryFor_alias (id' := "dict_keyiterator.__iter__") (by kernel_rfl) (by first | rfl | decide +kernel | (unfold String.splitOn; simp +decide [String.splitOnAux])) (by decide +kernel) (by kernel_rfl)
theorem kA : Slot "reversed" "__init__" "object.__init__" :=
 .of (owner := "object") (n := "__init__") (by rw [typeLookup_type, builtinLookup_eq_fast]; kernel_rfl) (by decide +kernel) (by decide +kernel) (by decide +kernel)
  (by first | exact .inl (by decide +kernel) | exact .inr (by decide +kernel)) (by rw [isSubtype_type]; kernel_rfl)
theorem og : TypeCalled "reversed" "reversed.__new__" "object.__init__" :=
 ⟨by decide +kernel, PySem.F.create_reversed, ⟨_, _, PySem.F.mro_reversed⟩, PySem.F.made_reversed, by decide +kernel, PySem.F.sub_reversed_self, kA⟩
theorem lI : isSubtype (.type "tuple") (.type "dict") = pure false := by rw [isSubtype_type]; kernel_rfl
def ly (t : Addr) (i : Int) : Obj := { cls := .type "reversed", data := .fields #[.ref t, rawInt i] }
theorem kq (t : Addr) (items : Array Value) : Meets (Builtin.«reversed.__new__» ⟨[.type "reversed", .ref t], []⟩) (fun _ R s => IsTup s.heap t items ∧ (items.size : Int) < 2 ^ 63 ∧
  R (.ok (.ret (.ref s.heap.objs.size))) { s with heap := s.heap.push (ly t ((items.size : Int) - 1)), toks := s.toks + 1 + 1 }) :=
 .of_wp fun prog w A R s h => by
  obtain ⟨ht, hz, h⟩ := h
  unfold Builtin.«reversed.__new__»
  refine wpAny_bind (wpAny_of_eq (newClass_reversed _) ?_)
  try dsimp only
  refine wpAny_bind (wpAny_of_eq (a := ()) (by first | rfl | kernel_rfl) ?_)
  refine wpAny_bind (wpAny_of_eq (a := ()) (by first | rfl | kernel_rfl) ?_)
  try dsimp only
  refine wpAny_bind (wpAny_specialOf ht.typeIs iz ?_)
  try dsimp only
  refine wpAny_bind (wpAny_bind (wpAny_isInstance (T := "tuple") (b := false) ht.typeIs lI ?_))
  rw [if_neg (by simp)]
  refine wpAny_bind (wpAny_specialOf (r := some (.builtin "tuple.__getitem__")) ht.typeIs slot_tuple_getitem.lookup ?_)
  show wpAny _ _ (if (["tuple.__getitem__", "str.__getitem__", "bytes.__getitem__", "bytearray.__getitem__", "memoryview.__getitem__", "numpy.ndarray.__getitem__", "sqlite3.Row.__getitem__"].contains "tuple.__getitem__") = true then _ else _) _ _ s
  rw [if_pos (by decide)]
  refine wpAny_pure ?_
  rw [if_neg (by simp)]
  refine wpAny_bind (len_tuple ht hz ?_)
  refine wpAny_bind (wpAny_of_eq (a := some ((items.size : Nat) : Int)) rfl ?_)
  show wpAny _ _ (newObj (.type "reversed") (.fields #[.ref t, rawInt ((items.size : Int) - 1)]) >>= _) _ _ _
  exact wpAny_bind (wpAny_newObj_type (wpAny_pure ⟨_, rfl, h⟩))
section
variable {prog : Program} {w : World} {A : Around} {E : Value → Shared → Prop} {s : Shared}
theorem gF {t : Addr} {items : Array Value} {Q : Value → Shared → Prop} (ht : IsTup s.heap t items) (hz : (items.size : Int) < 2 ^ 63)
  (h : Q (.ref s.heap.objs.size) { s with heap := s.heap.push (ly t ((items.size : Int) - 1)), toks := s.toks + 1 + 1 }) : wpAny (model prog w) A (call (.type "reversed") [.ref t]) Q E s :=
 callType_new og (by decide) (PySem.F.typeCall_reversed_1 _) (PySem.F.newCall_reversed_1 _) (fun obj => PySem.F.args_object_init_2 obj _) PySem.F.entry_reversed_new (kq t items) ⟨ht, hz, ⟨_, Heap.get?_push_size _ rfl, rfl⟩, h⟩
def fB (h : Heap) (a t : Addr) (i : Int) : Prop := h.get? a = some (ly t i)
theorem fB.typeIs {a t : Addr} {i : Int} (x : fB s.heap a t i) : s.TypeIs (.ref a) "reversed" := ⟨_, x, rfl⟩
theorem ku {it t : Addr} {i : Nat} {items : Array Value} {x : Value} {Q : Option Value → Shared → Prop} (hit : fB s.heap it t (i : Int)) (ht : IsTup s.heap t items) (hz : (items.size : Int) < 2 ^ 63) (hx : items[i]? = some x)
   (hQ : ∀ h', fB h' it t ((i : Int) - 1) → Heap.SameBut it s.heap h' → Q (some x) { s with heap := h', toks := s.toks + 1 }) : wpAny (model prog w) A (pyNext (.ref it)) Q E s := by
 have hi : i < items.size := by
   rcases Nat.lt_or_ge i items.size with h | h
   · exact h
   · rw [Array.getElem?_eq_none h] at hx; cases hx
 unfold pyNext
 refine wpAny_bind (wpAny_attempt (wpAny_callSpecial?_slot (name := Str.ofString "__next__") hit.typeIs cX
   (wpAny_call_entry cX hit.typeIs fN ?_ (gB _))))
 unfold Builtin.«reversed.__next__»
 refine wpAny_bind (wpAny_of_eq (a := (Value.ref it, [])) rfl ?_)
 try dsimp only
 refine wpAny_bind (wpAny_field hit rfl (x := .ref t) rfl ?_)
 refine wpAny_bind (wpAny_field hit rfl (x := rawInt (i : Int)) rfl ?_)
 show wpAny _ _ (if (i : Int) < 0 then _ else _) _ _ s
 rw [if_neg (by omega)]
 refine wpAny_bind (wpAny_specialOf (r := some (.builtin "tuple.__getitem__")) ht.typeIs slot_tuple_getitem.lookup ?_)
 rw [if_neg (by simp)]
 refine wpAny_bind (wpAny_mkInt ?_)
 refine wpAny_bind (wpAny_attempt (getItem_tuple (j := i) (x := x) ht (by omega) (by omega) ?_ hx ?_))
 · unfold seqIndex?
   simp
   omega
 · refine wpAny_bind (wpAny_field (s := { s with toks := s.toks + 1 }) hit rfl (x := rawInt (i : Int)) rfl ?_)
   refine wpAny_bind (wpAny_setField_rec hit (by simp) fun h' y sb => ?_)
   exact wpAny_pure ⟨x, rfl, wpAny_pure (hQ h' y sb)⟩
theorem lD {it t : Addr} {Q : Option Value → Shared → Prop} (hh : A.handled = none) (hit : fB s.heap it t (-1))
  (hQ : ∀ h', Heap.ExtBut it s.heap h' → Q none { s with heap := h' }) : wpAny (model prog w) A (pyNext (.ref it)) Q E s := by
 unfold pyNext
 refine wpAny_bind (wpAny_attempt (wpAny_callSpecial?_slot (name := Str.ofString "__next__") hit.typeIs cX
  (wpAny_call_entry cX hit.typeIs fN ?_ (gB _))))
 unfold Builtin.«reversed.__next__»
 refine wpAny_bind (wpAny_of_eq (a := (Value.ref it, [])) rfl ?_)
 try dsimp only
 refine wpAny_bind (wpAny_field hit rfl (x := .ref t) rfl ?_)
 refine wpAny_bind (wpAny_field hit rfl (x := rawInt (-1)) rfl ?_)
 show wpAny _ _ (if (-1 : Int) < 0 then _ else _) _ _ s
 rw [if_pos (by decide)]
 refine wpAny_bind (wpAny_rule ?_)
 refine wpAny_bind (wpAny_bind (wpAny_setField_rec hit (by simp) fun h1 y1 s1 => ?_))
 refine wpAny_setField_rec y1 (by simp) fun h2 y2 s2 => ?_
 first
 | show wpAny _ _ (newExc (.type "StopIteration") [] >>= _) _ _ _
 | (refine wpAny_bind ?_; show wpAny _ _ (newExc (.type "StopIteration") [] >>= _) _ _ _)
 refine wpAny_bind ?_
 simp only [newExc, newTuple]
 refine wpAny_bind (wpAny_newObj_type ?_ (by size_fits))
 refine wpAny_bind (m := firstArgMember _ _) (wpAny_of_eq (a := Value.none) (by first | rfl | (simp only [firstArgMember]; rfl)) ?_)
 refine wpAny_newObj_type ?_ (by size_fits)
 simp only [raiseNew]
 refine wpAny_bind (wpAny_handled ?_)
 first | rw [show A.in1.handled = none from hh] | rw [hh]
 refine wpAny_bind (wpAny_pure (wpAny_throw ?_))
 refine wpAny_bind (wpAny_isInstance (T := "StopIteration") (b := true) ⟨_, Heap.get?_push_size _ rfl, rfl⟩ isSubtype_stop ?_)
 have eb : Heap.ExtBut it s.heap h2 := fun c o hc e => s2.extBut _ _ hc (s1.extBut _ _ hc e)
 exact wpAny_pure (hQ _ ((eb.push _).push _))
theorem ma {it t : Addr} {i : Int} {Q : Value → Shared → Prop} (hit : fB s.heap it t i) (h : Q (.ref it) s) : wpAny (model prog w) A (pyIter (.ref it)) Q E s := by
 refine wpAny_pyIter_slot hit.typeIs gC (wpAny_call_entry gC hit.typeIs jF ?_ (ky _))
 show wpAny _ _ (ret (.ref it)) _ _ s
 exact wpAny_pure ⟨_, rfl, "reversed", _, hit.typeIs, cX.lookup, h⟩
end
end HT
namespace L2
open PySem PySem.Spec PyProof.Rows
def wV (K : W.Frag) (a : Addr) (xs : List V) : It :=
 ⟨fun i H => SqT K H a xs ∧ i < xs.length, fun i H x H' => H' = H ∧ xs.reverse[i]? = some x, fun i _ => xs.length ≤ i⟩
theorem rq {P : Program} {w : World} {K : W.Frag} {tg : Expr} (a it : Addr) (xs : List V) : fx P w K tg (wV K a xs) [it] it (fun i h => i ≤ xs.length ∧ HT.fB h it a ((xs.length : Int) - 1 - i)) where
 mem := by simp
 obj := fun i h st b hb => by
  have e : b = it := by simpa using hb
  subst e
  exact ⟨_, st.2, fun v z => by cases z⟩
 keep := fun i h h' st k => ⟨st.1, k it (by simp) _ st.2⟩
 item := by
  intro X hP hw hK hc i pins s σ H E I hf st hg
  subst hP hw hK
  obtain ⟨hq, hi⟩ := hg
  obtain ⟨its, rv, p, hz⟩ := I.tuple hq
  obtain ⟨f0, f1, f2, f3, f4, f5⟩ := hf it (by simp)
  have hl := rv.length
  obtain ⟨x, hx⟩ : ∃ x, xs[xs.length - 1 - i]? = some x := ⟨_, List.getElem?_eq_getElem (by omega)⟩
  obtain ⟨u, hu, ru⟩ := rv.get hx
  have hrx : xs.reverse[i]? = some x := by rw [List.getElem?_reverse hi]; exact hx
  have e1 : (xs.length : Int) - 1 - i = ((xs.length - 1 - i : Nat) : Int) := by omega
  have st2 := st.2
  rw [e1] at st2
  refine HT.ku st2 (show IsTup s.heap a its.toArray from p) (by rw [List.size_toArray]; rw [sizeLine_eq] at hz; omega) (x := u) (by simpa using hu) fun h' st' sb => ?_
  have I1 : Inv X pins σ H { s with heap := h', toks := s.toks + 1 } := I.turned (t' := s.toks + 1) (fun b o hb e => (sb.2 b hb).trans e) f0 f1 f3 f4 f5
  have e2 : ((xs.length - 1 - i : Nat) : Int) - 1 = (xs.length : Int) - 1 - ((i + 1 : Nat) : Int) := by omega
  rw [e2] at st'
  exact ⟨u, rfl, gs (s := { s with heap := h', toks := s.toks + 1 }) st' rfl rfl (by decide) ⟨x, H, I1, ru, ⟨rfl, hrx⟩, ⟨hi, st'⟩, fun b hb => (hf b hb).1⟩⟩
 done := by
  intro X hP hw hK hc i pins s σ H E I hf st hg
  subst hP hw hK
  obtain ⟨f0, f1, f2, f3, f4, f5⟩ := hf it (by simp)
  have hi : xs.length ≤ i := hg
  have e1 : (xs.length : Int) - 1 - i = -1 := by have := st.1; omega
  have st2 := st.2
  rw [e1] at st2
  exact HT.lD (I.ok.hd hc) st2 fun h' eb => ⟨rfl, I.turned (t' := s.toks) (fun b o hb e => eb b o hb e) f0 f1 f3 f4 f5⟩
 self := fun A i s Q E st h => HT.ma st.2 h
theorem il : bootBuiltins "reversed" = some (.type "reversed") := by decide +kernel
section
variable {X : Cx} {a : Expr} {t : TA} {p pos : Pos} {tg : Expr}
theorem rk : OpR X (binaryOp .FloorDiv) (rI (fun _ j => 0 < j ∧ j < 1267650600228229401496703205376) fun i j => .int (i / j)) := opI fun i j _ _ _ _ _ hc q => by
 have h1 : (0 : Int) < j := hc.1
 have h2 : j < 1267650600228229401496703205376 := hc.2
 have h3 : j.natAbs.log2 < 100 := (Nat.log2_lt (by omega)).mpr (Nat.lt_of_lt_of_eq (m := 1267650600228229401496703205376) (by omega) (by decide))
 exact floordiv_int (by omega) (by rw [Int.fdiv_eq_ediv_of_nonneg i (by omega)]; exact q) (.inl (PyProof.noPylong_of_log2 (by omega)))
def cZ : R2 := fun x y H Q => match x, y with | .int i, .int j => (0 < j ∧ j < 1267650600228229401496703205376) ∧ Q (.int (i / j)) H | _, _ => False
theorem eF : OpR X (binaryOp .FloorDiv) cZ := rk.imp fun x y H Q q => by
 unfold cZ at q
 split at q
 · exact ⟨_, _, rfl, rfl, q.1, q.2⟩
 · exact q.elim
end
end L2
namespace L2
open PySem PySem.Spec PyProof.Rows
section
variable {X : Cx}
end
section
variable {α : Type} {l : List α}
theorem nD (h : l.length = 0) : l = [] := List.length_eq_zero_iff.mp h
theorem dA (h : l.length = 1) : ∃ a0, l = [a0] := by
  cases l with
  | nil => simp at h
  | cons a l =>
    obtain rfl := nD (l := l) (by simpa using h)
    exact ⟨a, rfl⟩
theorem oX (h : l.length = 2) : ∃ a0 a1, l = [a0, a1] := by
  cases l with
  | nil => simp at h
  | cons a l =>
    obtain ⟨b0, rfl⟩ := dA (l := l) (by simpa using h)
    exact ⟨a, b0, rfl⟩
theorem ua (h : l.length = 3) : ∃ a0 a1 a2, l = [a0, a1, a2] := by
  cases l with
  | nil => simp at h
  | cons a l =>
    obtain ⟨b0, b1, rfl⟩ := oX (l := l) (by simpa using h)
    exact ⟨a, b0, b1, rfl⟩
theorem AG (h : l.length = 4) : ∃ a0 a1 a2 a3, l = [a0, a1, a2, a3] := by
  cases l with
  | nil => simp at h
  | cons a l =>
    obtain ⟨b0, b1, b2, rfl⟩ := ua (l := l) (by simpa using h)
    exact ⟨a, b0, b1, b2, rfl⟩
end
end L2
namespace L2
open PySem PySem.Spec PyProof.Rows
section
variable {X : Cx}
end
end L2
namespace L2
open PySem PySem.Spec PyProof.Rows
section
variable {M : Model} {A : Around} {E : Value → Shared → Prop} {s : Shared}
end
section
variable {X : Cx}
end
end L2
namespace L2
open PySem PySem.Spec PyProof.Rows
section
variable {X : Cx} {pos ep px py pz : Pos} {ek : Nat} {x y z : Str} {iter : Expr} {wi : TI} {tS : TS}
end
end L2
namespace L2
open PySem PySem.Spec PyProof.Rows
theorem aO.le {A : Around} {m n : Nat} (h : aO m A) (d : n ≤ m := by first | decide | omega) : aO n A := h.mono d
theorem scF {N P : List Str} {sc : Scope} (h1 : sc.kind = .function := by rfl) (h2 : sc.isCoroutine = false := by rfl) (h3 : sc.isGenerator = false := by rfl) (h4 : N.Nodup := by decide +kernel) (h5 : N.take P.length = P := by rfl)
 (h6 : ∀ x ∈ P, sc.names.lookup x = some .local ∨ sc.names.lookup x = some .cell := by decide +kernel) (h7 : ∀ y ∈ sc.names, y.2 ≠ .free := by decide +kernel) : aw N P sc := ⟨h1, h2, h3, h4, h5, h6, h7⟩
structure Fm (K : W.Frag) (mg : Str → Option Value) (x qual : Str) (st : Stmt) (a : Addr) (d : FuncData) (ps : List Str) : Prop where
 f : Fun K x qual st a d
 m : mg x = some (.ref a)
 b : bu K d ps []
structure Fa (K : W.Frag) (x qual : Str) (st : Stmt) (a : Addr) (d : FuncData) : Prop where
 m : W.nsIn K mainGlobals x = some (some (.ref a))
 f : Fun K x qual st a d
section
variable {P : Program} {w : World} {K : W.Frag} {mg : Str → Option Value} {base h : Heap} {x qual : Str} {st : Stmt} {a : Addr} {d : FuncData} {ps : List Str}
theorem ba {oc : Value} {od an : Option Addr} {osl : Array (Option Value)} {kV doc pm cdv ct : Value} (m : W.nsIn K mainGlobals x = some (some (.ref a))) (l : K.lookup a = some ⟨oc, od, .func (W.fnOf x qual (bA st) (aK st) (ak st) .none kV doc pm an cdv ct), osl⟩)
 (c : W.codeIn K cdv qual = true) (k : W.keepIn K (.ref a) = true) : Fa K x qual st a (W.fnOf x qual (bA st) (aK st) (ak st) .none kV doc pm an cdv ct) := ⟨m, dj l c k⟩
theorem Fa.code (F : Fa K x qual st a d) (X : K.In h) (G : h.Ns mainGlobals mg) {z t : Addr} (ht : W.tabIn K x = some (z, t)) : d.code = .ref z := by
 obtain ⟨oc, od, kV, doc, pm, an, cdv, ct, osl, e, lk, hcd⟩ := F.f.ex
 exact W.law_code X G ht (W.mg_of X G F.m) (X _ _ lk) rfl
theorem Fun.bt {p : Str} (F : Fun K x qual st a d) (hb : ∀ (kV doc pm : Value) (an : Option Addr) (cdv ct v : Value), bindArgs (W.fnOf x qual (bA st) (aK st) (ak st) .none kV doc pm an cdv ct) ⟨[v], []⟩ = pure [(p, v)] := by intros; rfl) (s : Shared) (v : Value) : BindsTo s d ⟨[v], []⟩ [(p, v)] := by
 obtain ⟨oc, od, kV, doc, pm, an, cdv, ct, osl, rfl, lk, hcd⟩ := F.ex
 exact .of_eq (hb kV doc pm an cdv ct v)
theorem Fun.b0 (F : Fun K x qual st a d) (hb : ∀ (kV doc pm : Value) (an : Option Addr) (cdv ct : Value), bindArgs (W.fnOf x qual (bA st) (aK st) (ak st) .none kV doc pm an cdv ct) ⟨[], []⟩ = pure (List.zip [] []) := by intros; rfl) : bu K d [] [] := F.binds fun kV doc pm an cdv ct us hl => by
 obtain rfl := L2.nD hl
 exact hb kV doc pm an cdv ct
theorem Fa.fm0 (F : Fa K x qual st a d) (X : K.In h) (G : h.Ns mainGlobals mg) (hb : ∀ (kV doc pm : Value) (an : Option Addr) (cdv ct : Value), bindArgs (W.fnOf x qual (bA st) (aK st) (ak st) .none kV doc pm an cdv ct) ⟨[], []⟩ = pure (List.zip [] []) := by intros; rfl) : Fm K mg x qual st a d [] := ⟨F.f, W.mg_of X G F.m, F.f.b0 hb⟩
theorem Fun.b1 {p0 : Str} (F : Fun K x qual st a d) (hb : ∀ (kV doc pm : Value) (an : Option Addr) (cdv ct u0 : Value), bindArgs (W.fnOf x qual (bA st) (aK st) (ak st) .none kV doc pm an cdv ct) ⟨[u0], []⟩ = pure (List.zip [p0] [u0]) := by intros; rfl) : bu K d [p0] [] := F.binds fun kV doc pm an cdv ct us hl => by
 obtain ⟨u0, rfl⟩ := L2.dA hl
 exact hb kV doc pm an cdv ct u0
theorem Fa.fm1 {p0 : Str} (F : Fa K x qual st a d) (X : K.In h) (G : h.Ns mainGlobals mg) (hb : ∀ (kV doc pm : Value) (an : Option Addr) (cdv ct u0 : Value), bindArgs (W.fnOf x qual (bA st) (aK st) (ak st) .none kV doc pm an cdv ct) ⟨[u0], []⟩ = pure (List.zip [p0] [u0]) := by intros; rfl) : Fm K mg x qual st a d [p0] := ⟨F.f, W.mg_of X G F.m, F.f.b1 hb⟩
theorem Fun.b2 {p0 p1 : Str} (F : Fun K x qual st a d) (hb : ∀ (kV doc pm : Value) (an : Option Addr) (cdv ct u0 u1 : Value), bindArgs (W.fnOf x qual (bA st) (aK st) (ak st) .none kV doc pm an cdv ct) ⟨[u0, u1], []⟩ = pure (List.zip [p0, p1] [u0, u1]) := by intros; rfl) : bu K d [p0, p1] [] := F.binds fun kV doc pm an cdv ct us hl => by
 obtain ⟨u0, u1, rfl⟩ := L2.oX hl
 exact hb kV doc pm an cdv ct u0 u1
theorem Fa.fm2 {p0 p1 : Str} (F : Fa K x qual st a d) (X : K.In h) (G : h.Ns mainGlobals mg) (hb : ∀ (kV doc pm : Value) (an : Option Addr) (cdv ct u0 u1 : Value), bindArgs (W.fnOf x qual (bA st) (aK st) (ak st) .none kV doc pm an cdv ct) ⟨[u0, u1], []⟩ = pure (List.zip [p0, p1] [u0, u1]) := by intros; rfl) : Fm K mg x qual st a d [p0, p1] := ⟨F.f, W.mg_of X G F.m, F.f.b2 hb⟩
theorem Fun.b3 {p0 p1 p2 : Str} (F : Fun K x qual st a d) (hb : ∀ (kV doc pm : Value) (an : Option Addr) (cdv ct u0 u1 u2 : Value), bindArgs (W.fnOf x qual (bA st) (aK st) (ak st) .none kV doc pm an cdv ct) ⟨[u0, u1, u2], []⟩ = pure (List.zip [p0, p1, p2] [u0, u1, u2]) := by intros; rfl) : bu K d [p0, p1, p2] [] := F.binds fun kV doc pm an cdv ct us hl => by
 obtain ⟨u0, u1, u2, rfl⟩ := L2.ua hl
 exact hb kV doc pm an cdv ct u0 u1 u2
theorem Fa.fm3 {p0 p1 p2 : Str} (F : Fa K x qual st a d) (X : K.In h) (G : h.Ns mainGlobals mg) (hb : ∀ (kV doc pm : Value) (an : Option Addr) (cdv ct u0 u1 u2 : Value), bindArgs (W.fnOf x qual (bA st) (aK st) (ak st) .none kV doc pm an cdv ct) ⟨[u0, u1, u2], []⟩ = pure (List.zip [p0, p1, p2] [u0, u1, u2]) := by intros; rfl) : Fm K mg x qual st a d [p0, p1, p2] := ⟨F.f, W.mg_of X G F.m, F.f.b3 hb⟩
theorem Fun.b4 {p0 p1 p2 p3 : Str} (F : Fun K x qual st a d) (hb : ∀ (kV doc pm : Value) (an : Option Addr) (cdv ct u0 u1 u2 u3 : Value), bindArgs (W.fnOf x qual (bA st) (aK st) (ak st) .none kV doc pm an cdv ct) ⟨[u0, u1, u2, u3], []⟩ = pure (List.zip [p0, p1, p2, p3] [u0, u1, u2, u3]) := by intros; rfl) : bu K d [p0, p1, p2, p3] [] := F.binds fun kV doc pm an cdv ct us hl => by
 obtain ⟨u0, u1, u2, u3, rfl⟩ := L2.AG hl
 exact hb kV doc pm an cdv ct u0 u1 u2 u3
theorem Fa.fm4 {p0 p1 p2 p3 : Str} (F : Fa K x qual st a d) (X : K.In h) (G : h.Ns mainGlobals mg) (hb : ∀ (kV doc pm : Value) (an : Option Addr) (cdv ct u0 u1 u2 u3 : Value), bindArgs (W.fnOf x qual (bA st) (aK st) (ak st) .none kV doc pm an cdv ct) ⟨[u0, u1, u2, u3], []⟩ = pure (List.zip [p0, p1, p2, p3] [u0, u1, u2, u3]) := by intros; rfl) : Fm K mg x qual st a d [p0, p1, p2, p3] := ⟨F.f, W.mg_of X G F.m, F.f.b4 hb⟩
theorem Fun.okS {CX : CXT} {N : List Str} {k : Nat} {sp : Sp} {t : TS} (F : Fun K x qual st a d) (S : aw N ps (ak st)) (len : ∀ vs H Q E, sp vs H Q E → vs.length = ps.length)
  (hrd : ∀ (vs : List V) (H : Hp) (Q : VK) (E : XK), sp vs H Q E → t { nx := fun _ H' => Q .non H', rt := Q } (bY N vs) H)
  (hq : ∀ (cdv : Value) (A : Around) (outer : List Env) (s : Shared) (H : Hp) (E : XK), aO k (A.deeper (envOfC qual (ak st) s.heap.objs.size a cdv)) → QSs (dL CX P w K mg base N qual (ak st) a cdv A outer s H E).nox (aK st) t) : aJ P w K mg base CX (k + 1) a d ps sp :=
 F.okN S len fun cdv A outer s H vs Q E hr h => ⟨t, (hq cdv A outer s H E hr).out, hrd vs H Q E h⟩
end
section
variable {X : Cx} {x q : Str} {e : Expr} {es : List Expr} {t : TA} {p pos : Pos} {st : Stmt} {f : Addr} {fd : FuncData} {ps : List Str} {k : Nat} {sp : Sp}
theorem aL {P : Program} {w : World} (F : aJ X.prog X.w X.K X.mg X.base (CX1 P w) k f fd ps sp) (hr : aO k X.A) (M : Fm X.K X.mg x q st f fd ps)
 (ha : QA X (e :: es) t) (hg : Gl X x := by rfl) (hdb : (x == ("__debug__" : Str)) = false := by decide) (hs : aH (e :: es) = true := by rfl) : QE X (.Call (.Name x p) (e :: es) [] pos) (av sp (fun _ => E0) t) := vC F hr M.m M.f.kp M.b bh ha hg hdb hs
end
end L2
namespace L2
open PySem PySem.Spec PyProof.Rows
section
variable {X : Cx}
end
end L2
namespace L2
open PySem PySem.Spec PyProof.Rows
section
variable {K : W.Frag} {mg : Str → Option Value} {h : Heap} {x qual : Str} {st : Stmt} {a : Addr} {d : FuncData}
end
end L2
namespace L2
open PySem PySem.Spec PyProof.Rows
def qI (ks : gk) (C : Addr) (m : Str) (E : St → XK) (ta : TE) (t : TA) : TE := fun σ H Q => ta σ H fun x H1 => ∃ a dx fs f, x = .ref a ∧ H1 a = some (.ins C dx fs) ∧ fs.lookup m = some (.ref f) ∧ (∃ ts ∈ ks, ∃ cs cvs, cQ H1 f ts.1 cs cvs) ∧ t σ H1 fun vs H2 => oY ks f vs H2 Q (E σ)
section
variable {X : Cx} {pins : List (Addr × Obj)} {σ : St} {H : Hp} {s : Shared} {A : Around} {E : Value → Shared → Prop} {a C dx : Addr} {fs : List (Str × V)} {v : V}
theorem nY {m : Str} {pl : Sem Bool} {Q : Value × List Value → Shared → Prop} (I : Inv X pins σ H s) (e : H a = some (.ins C dx fs)) (c : Cls X.K C) (n : cY X.K C m) (l : fs.lookup m = some v)
  (h : ∀ u s', Inv X pins σ H s' → aC v u → Q (u, []) s') : wpAny (model X.prog X.w) A (getMethod (.ref a) m pl) Q E s := by
 obtain ⟨mA, O, r, _, _, _⟩ := fL I.hok e
 obtain ⟨od, J, hl⟩ := O.look
 exact W.method_usual (r := none) I.kIn J (W.plainGet_of (c.get m)).1 (W.plainGet_of (c.get m)).2 n rfl (ja I e c n l h)
end
section
variable {X : Cx} {k : Nat} {C : Addr} {E : St → XK} {m : Str} {pos apos : Pos} {e o : Expr} {es : List Expr} {ta : TE} {t : TA}
theorem uD {pl : Sem Bool} {ks : gk} (hk : jJ X.prog X.w X.K X.mg X.base k ks) (hr : aO k X.A) (hx : dN (CX1 X.prog X.w) X E) (he : QE X o ta) (c : Cls X.K C) (n : cY X.K C m) (ha : QA X (e :: es) t)
    (hs : aH (e :: es) = true := by rfl)
    (ht : eval (.Call (.Attribute o m apos) (e :: es) [] pos) X.env = (do
      let ov ← eval o X.env
      standAt apos.atName
      let (f, first) ← holding [ov] (getMethod ov m pl)
      callWith pos f first (backTo pos (starEach (e :: es) X.env)) (backToKw pos (keywordEach [] X.env))) := by rfl) :
    QE X (.Call (.Attribute o m apos) (e :: es) [] pos) (qI ks C m E ta t) := ⟨fun pins s σ H Q I h => by
  have h' : (bj e && aH es) = true := hs
  refine W.methodCall_KW (pl := pl) (thn (he.out pins s σ H _ I h) fun u s1 ⟨x, H1, I1, rx, a, dx, fs, f, ex, ea, l, ⟨ts, hts, cs, cvs, ca⟩, q⟩ => ?_) ht
  subst ex
  obtain rfl : u = Value.ref a := rx
  refine nY I1 ea c n l fun w s2 I2 rw2 => ?_
  obtain rfl : w = Value.ref f := rw2
  refine W.callWith_F (iR I2.hok ca) (thn (ha.out pos pins s2 σ H1 _ I2 q) fun us s3 ⟨vs, H2, I3, rv, ts2, hm2, cs2, cvs2, ca2, hl, hsp⟩ => ⟨iR I3.hok ca2, ?_⟩)
    (aI (Bool.and_eq_true_iff.mp h').1 es X.env) (bc (Bool.and_eq_true_iff.mp h').2)
  refine wpAny_call (codeAny_mono ((hk ts2 hm2).run X.A X.stack s3 H2 f cs2 us vs cvs2 Q (E σ) hr I3.env0 ca2 rv hl hsp) fun r s' hq => ?_)
  cases r with
  | error e => exact hx pins σ H2 s3 e s' I3 hq
  | ok fl =>
    cases fl with
    | ret u => exact I3.after hq
    | next => exact False.elim hq
    | brk => exact False.elim hq
    | cont => exact False.elim hq⟩
end
end L2
namespace HT
open PySem PyProof.Rows
theorem pB : typeLookup (.type "list_reverseiterator") "__len__" = pure none := by rw [typeLookup_type, builtinLookup_eq_fast]; kernel_rfl
theorem tp : typeLookup (.type "list_reverseiterator") "__length_hint__" = pure (some (.builtin "list_reverseiterator.__length_hint__")) := by rw [typeLookup_type, builtinLookup_eq_fast]; kernel_rfl
section
variable {prog : Program} {w : World} {A : Around} {s : Shared} {R : Result → Shared → Prop}
variable {I : Addr} {fp wr : List Addr} {G : Array GenState → Array GenState → Prop} {n : Nat} {P : Nat → Value → Prop} {St : Nat → Shared → Prop}
theorem nQ (W : WalksS prog w A.in1 I fp wr G n P St) (hT : ∀ i s, St i s → s.TypeIs (.ref I) "list_reverseiterator") (S : Addr) (res : Value) (c₀ : Nat) (hst : St 0 s) (hSf : S ∉ fp) (hI : I ∈ fp)
  (hS : s.heap.get? S = some { cls := .type "list", data := .seq #[] c₀ })
  (hR : ∀ s' acc' c', Moved (S :: wr) G s s' → s'.heap.get? S = some { cls := .type "list", dict := none, data := .seq acc' c', slots := #[] } → ItemsOf P acc' n → R (.ok (.ret res)) s') (hn : n ≤ sizeLine) :
  wpAny (model prog w) A.in1 (Builtin.List.listExtendWith (.ref S) (.ref I) res)
   (fun fin s' => match fin with | .done f => R (.ok f) s' | .again c' => c'.quiet = true ∧ codeAny (model prog w) A c' R s') (fun e s' => R (.error e) s') s := by
 have hSI : S ≠ I := fun e => hSf (e ▸ hI)
 have h1 : Builtin.List.listSameRef (.ref S) (.ref I) = false := by simp [Builtin.List.listSameRef, hSI]
 unfold Builtin.List.listExtendWith
 refine wpAny_bind (wpAny_typeOf (hT 0 _ hst) ?_)
 rw [if_neg (by rw [h1]; decide)]
 refine wpAny_bind (W.self 0 _ _ _ hst ?_)
 refine wpAny_bind (wpAny_holding ?_)
 unfold Builtin.List.listLengthHint
 refine wpAny_bind (wpAny_specialOf (hT 0 _ hst) pB ?_)
 show wpAny _ A.in1 (specialOf (Value.ref I) (Str.ofString "__length_hint__") >>= _) _ _ _
 refine wpAny_bind (wpAny_specialOf (hT 0 _ hst) tp ?_)
 generalize hid : ("list_reverseiterator.__length_hint__" : String) = id0
 wp_delta
 rw [show splitId id0 = some ("list_reverseiterator", "__length_hint__") from by subst hid; decide +kernel]
 subst hid
 refine wpAny_bind (wpAny_isInstance (b := true) (hT 0 _ hst) (by rw [isSubtype_type]; kernel_rfl) ?_)
 refine wpAny_pure ?_
 rw [if_neg (by decide)]
 exact wpAny_pure ⟨plainId_quiet F.plain_extend_loop _, codeAny_extend_loopS W hn _ hSf _ n 0 _ _ _ rfl (Nat.zero_le _) hst hS (ItemsOf.nil P) fun s' acc' c' hm hS' hacc => hR s' acc' c' hm hS' hacc⟩
theorem kr (W : WalksS prog w A.in1 I fp wr G n P St) (hT : ∀ i s, St i s → s.TypeIs (.ref I) "list_reverseiterator") (S : Addr) (hst : St 0 s) (hSf : S ∉ fp) (hI : I ∈ fp)
  (hS : s.heap.get? S = some { cls := .type "list", data := .seq #[] })
  (hR : ∀ s' acc' c', Moved (S :: wr) G s s' → s'.heap.get? S = some { cls := .type "list", dict := none, data := .seq acc' c', slots := #[] } → ItemsOf P acc' n → R (.ok (.ret .none)) s') (hn : n ≤ sizeLine) :
  wpAny (model prog w) A.in1 (Builtin.«list.__init__» ⟨[.ref S, .ref I], []⟩)
   (fun fin s' => match fin with | .done f => R (.ok f) s' | .again c' => c'.quiet = true ∧ codeAny (model prog w) A c' R s') (fun e s' => R (.error e) s') s := by
 show wpAny _ A.in1 (do let old ← Builtin.List.listItems (.ref S); Builtin.List.listUpdate (.ref S) (fun _ => #[]); letGo old.toList.reverse; Builtin.List.listExtendWith (.ref S) (.ref I) .none) _ _ s
 refine wpAny_bind ?_
 unfold Builtin.List.listItems
 refine wpAny_bind (wpAny_seqItems hS rfl (wpAny_pure ?_))
 show wpAny _ A.in1 (updateSeq S (fun _ => #[]) >>= fun _ => letGo (#[] : Array Value).toList.reverse >>= fun _ => Builtin.List.listExtendWith (.ref S) (.ref I) .none) _ _ s
 refine wpAny_bind (wpAny_updateSeq hS rfl ?_)
 have hS₂ := Heap.get?_update_self (Obj.mapSeq (fun _ => (#[] : Array Value))) hS rfl
 have oth : ∀ b o, b ≠ S → s.heap.get? b = some o → (s.heap.update S (Obj.mapSeq (fun _ => (#[] : Array Value)))).get? b = some o :=
  fun b o hb e => (Heap.get?_update_other _ _ (Ne.symm hb)).trans e
 refine wpAny_bind (wpAny_letGo ?_)
 refine nQ (hn := hn) W hT S .none _ (W.frame 0 s _ s.toks hst (Nat.le_refl _) fun b hb o e => oth b o (fun h => hSf (h ▸ hb)) e) hSf hI hS₂ fun s' acc' c' hm hS' hacc => ?_
 exact hR s' acc' c' (Moved.trans W.gtrans ((Moved.refl W.grefl).then_heap (Nat.le_refl _) fun b o hb e => oth b o (fun h => hb (h ▸ List.mem_cons_self)) e) hm) hS' hacc
end
section
variable {prog : Program} {w : World} {A : Around} {E : Value → Shared → Prop} {s : Shared}
variable {I : Addr} {fp wr : List Addr} {G : Array GenState → Array GenState → Prop} {n : Nat} {P : Nat → Value → Prop} {St : Nat → Shared → Prop}
theorem kB {Q : Value → Shared → Prop} (W : WalksS prog w A.in1.in1 I fp wr G n P St) (hT : ∀ i s, St i s → s.TypeIs (.ref I) "list_reverseiterator") (hst : St 0 s) (hfp : ∀ b ∈ fp, b < s.heap.objs.size) (hI : I ∈ fp)
  (hQ : ∀ s' acc' c', Moved (s.heap.objs.size :: wr) G { s with heap := s.heap.push { cls := .type "list", data := .seq #[] } } s' →
   s'.heap.get? s.heap.objs.size = some { cls := .type "list", dict := none, data := .seq acc' c', slots := #[] } → ItemsOf P acc' n → Q (.ref s.heap.objs.size) s') (hn : n ≤ sizeLine) :
  wpAny (model prog w) A (call (.type "list") [.ref I]) Q E s := by
 have hSf : s.heap.objs.size ∉ fp := fun hm => Nat.lt_irrefl _ (hfp _ hm)
 refine callType_codes (Q₁ := fun obj s₁ => obj = .ref s.heap.objs.size ∧ s₁ = { s with heap := s.heap.push { cls := .type "list", data := .seq #[] } }) F.called_list (F.typeCall_list_1 _) F.entry_list_init
  (code_list_new _ ⟨rfl, rfl⟩) fun obj s₁ h₁ => ?_
 obtain ⟨rfl, rfl⟩ := h₁
 have hS : (s.heap.push { cls := .type "list", data := .seq #[] }).get? s.heap.objs.size = some { cls := .type "list", data := .seq #[] } := Heap.get?_push_size _ rfl
 refine ⟨⟨_, hS, rfl⟩, F.args_list_init_2 _ _, kr (hn := hn) W hT _ (W.frame 0 s _ s.toks hst (Nat.le_refl _) fun b _ o e => Heap.get?_push_of_some _ e) hSf hI hS fun s' acc' c' hm hS' hacc => ?_⟩
 exact ⟨rfl, hQ s' acc' c' hm hS' hacc⟩
end
end HT
namespace L2
open PySem PySem.Spec PyProof.Rows
def iC (K : W.Frag) : List V → Hp → VK → Prop := fun xs H Q => ∃ c ys, xs = [.ref c] ∧ SqL K H c ys ∧ ∀ l, H l = none → Q (.ref l) (upd H l (.lst ys.reverse))
section
variable {X : Cx} {pins : List (Addr × Obj)} {σ : St} {H : Hp} {s : Shared}
theorem su {Q : VK} {c : Addr} {ys : List V} (hc : X.calm = true) (I : Inv X pins σ H s) (hq : SqL X.K H c ys) (q : ∀ l, H l = none → Q (.ref l) (upd H l (.lst ys.reverse))) :
   wpAny (model X.prog X.w) X.A (call (.type "reversed") [.ref c]) (fun u s2 => wpAny (model X.prog X.w) X.A (call (.type "list") [u]) (EP X pins σ Q) X.xe s2) X.xe s := by
 obtain ⟨its, r', pl, hz⟩ := I.list hq
 have hlen := r'.length
 have hl := pl.isList
 refine call_reversed_list hl ?_
 have hcs : c < s.heap.objs.size := by obtain ⟨o, ho, _⟩ := hl; exact Heap.lt_size ho
 have hne : c ≠ s.heap.objs.size := Nat.ne_of_lt hcs
 have W := (Walks.listRev (prog := X.prog) (w := X.w) (A := X.A.in1.in1) (I.ok.hd hc) s.heap.objs.size c hne its.toArray).toS
 have hl2 : (s.heap.push (revObj c ((its.toArray.size : Int) - 1))).IsList c its.toArray := hl.at fun o e => Heap.get?_push_of_some _ e
 have hz' : its.toArray.size ≤ sizeLine := by rw [List.size_toArray]; omega
 have hsz : (s.heap.push (revObj c ((its.toArray.size : Int) - 1))).objs.size = s.heap.objs.size + 1 := Heap.size_push _ _
 refine HT.kB (s := { s with heap := s.heap.push (revObj c ((its.toArray.size : Int) - 1)) }) W (fun i s3 st => st.2.1.typeIs) ⟨Nat.zero_le _, ⟨_, Heap.get?_push_size _ rfl, rfl, by show Data.fields _ = Data.fields _; simp⟩, hl2⟩ (fun b hb => ?_) (by simp) (fun s' acc' c' hm hS' hacc => ?_) hz'
 · show b < (s.heap.push _).objs.size
   rw [hsz]
   rcases List.mem_cons.mp hb with z | z
   · rw [z]; exact Nat.lt_succ_self _
   · rw [List.mem_singleton.mp z]; exact Nat.lt_succ_of_lt hcs
 · have e1 : acc'.toList = its.reverse := by
     refine List.ext_getElem? fun j => ?_
     by_cases hj : j < its.length
     · have hj2 : j < acc'.size := by rw [hacc.1, List.size_toArray]; exact hj
       have ea : acc'[j]? = some acc'[j] := Array.getElem?_eq_getElem hj2
       have hp : its.toArray[its.toArray.size - 1 - j]? = some acc'[j] := hacc.2 j _ ea
       rw [Array.getElem?_toList, ea, List.getElem?_reverse hj, ← hp]
       simp
     · rw [List.getElem?_eq_none (by rw [Array.length_toList, hacc.1, List.size_toArray]; omega), List.getElem?_eq_none (by simp; omega)]
   have hw : ∀ b o, s.heap.get? b = some o → s'.heap.get? b = some o := fun b o e => by
     have hb := Heap.lt_size e
     refine hm.heap b o (fun z => ?_) (Heap.get?_push_of_some _ (Heap.get?_push_of_some _ e))
     rcases List.mem_cons.mp z with z | z
     · have z : b = (s.heap.push (revObj c ((its.toArray.size : Int) - 1))).objs.size := z
       rw [hsz] at z
       rw [z] at hb
       exact Nat.lt_irrefl _ (Nat.lt_trans (Nat.lt_succ_self _) hb)
     · rw [List.mem_singleton.mp z] at hb
       exact Nat.lt_irrefl _ hb
   have es : s' = { s with heap := s'.heap, toks := s'.toks } := by
     have h1 := hm.gens
     have h2 := hm.drawn
     have h3 := hm.os
     cases s'
     cases h1; cases h2; cases h3
     rfl
   have hS2 : s'.heap.get? (s.heap.objs.size + 1) = some { cls := .type "list", dict := none, data := .seq its.reverse.toArray c', slots := #[] } := by
     rw [← hsz, hS', ← e1]
   have new : aM X.prog X.w (upd H (s.heap.objs.size + 1) (.lst ys.reverse)) s'.heap (s.heap.objs.size + 1) (.lst ys.reverse) := ⟨by rw [List.length_reverse]; exact hz, its.reverse, c', r'.reverse, hS2⟩
   refine ⟨.ref (s.heap.objs.size + 1), upd H (s.heap.objs.size + 1) (.lst ys.reverse), ?_, ?_, q _ (I.hok.fresh (Nat.le_succ _))⟩
   · rw [es]; exact I.laid hw (Nat.le_succ _) new
   · show Value.ref _ = Value.ref _
     rw [hsz]
end
section
variable {X : Cx} {a : Expr} {t : TA} {p1 p2 pos1 pos2 : Pos}
theorem mH : bootBuiltins "list" = some (.type "list") := by decide +kernel
theorem qO (hm1 : X.mg "list" = none) (hm2 : X.mg "reversed" = none) (hc : X.calm = true) (ha : QA X [a] t) (hg1 : Gl X "list" := by rfl) (hg2 : Gl X "reversed" := by rfl) (hs : aH [a] = true := by rfl) :
  QE X (.Call (.Name "list" p1) [.Call (.Name "reversed" p2) [a] [] pos2] [] pos1) (tCB (iC X.K) t) := ⟨fun pins s σ H Q I h => by
 have h' : (bj a && aH []) = true := hs
 refine wpAny_Call_Name_kw (dg I hg1 hm1 mH ?_ (by decide) (by decide))
 refine PyProof.Rows.callWith_type1 ?_ rfl rfl
 show wpAny _ _ (spliced ((false, eval (.Call (.Name "reversed" p2) [a] [] pos2) X.env) :: backTo pos1 (starEach [] X.env))) _ _ s
 refine Calls.spliced_cons ?_
 refine wpAny_Call_Name_kw (dg I hg2 hm2 il ?_ (by decide) (by decide))
 refine PyProof.Rows.callWith_type1 (thn (ha.out pos2 pins s σ H _ I h) fun us s1 ⟨vs, H1, I1, r1, q1⟩ => ?_)
  (aI (Bool.and_eq_true_iff.mp h').1 [] X.env) (bc (Bool.and_eq_true_iff.mp h').2)
 obtain ⟨c, ys, rfl, hq, q⟩ := q1
 obtain ⟨u, rfl, ru⟩ := fA r1
 cases ru
 refine wpAny_mono (su hc I1 hq q) (fun u s2 z => ?_) fun _ _ z => z
 exact Calls.spliced_nil z⟩
end
end L2
namespace L2
open PySem PySem.Spec PyProof.Rows
def oP (lo st : Int) (n : Nat) : It := ⟨fun i _ => i < n, fun i H x H' => H' = H ∧ x = .int (lo + i * st), fun i _ => n ≤ i⟩
theorem mq {P : Program} {w : World} {K : W.Frag} {tg : Expr} (it : Addr) (lo st : Int) (n : Nat) : fx P w K tg (oP lo st n) [it] it (fun i h => IsRangeIter h it (lo + (i : Nat) * st) ((n : Int) - (i : Nat)) st) where
 mem := by simp
 obj := fun i h st b hb => by
  have e : b = it := by simpa using hb
  subst e
  exact ⟨_, st, fun v z => by
   have z' : Data.fields _ = Data.cell v := z
   cases z'⟩
 keep := fun i h h' st k => k it (by simp) _ st
 item := by
  intro X hP hw hK hc i pins s σ H E I hf sti hg
  subst hP hw hK
  obtain ⟨f0, f1, f2, f3, f4, f5⟩ := hf it (by simp)
  have W := Walks.range (prog := X.prog) (w := X.w) (I.ok.hd hc) it lo st n
  refine W.item i s _ _ hg sti fun v h' tk hv st' kk => ?_
  obtain ⟨t, rfl⟩ := hv
  have I1 : Inv X pins σ H { s with heap := h', toks := tk } := I.turned (fun b o hb e => kk b o (by simpa using hb) e) f0 f1 f3 f4 f5
  exact ⟨_, rfl, gs (s := { s with heap := h', toks := tk }) (n := "range_iterator") st' rfl rfl (by decide) ⟨.int (lo + i * st), H, I1, ⟨t, rfl⟩, ⟨rfl, rfl⟩, st', fun b hb => (hf b hb).1⟩⟩
 done := by
  intro X hP hw hK hc i pins s σ H E I hf st hg
  subst hP hw hK
  obtain ⟨f0, f1, f2, f3, f4, f5⟩ := hf it (by simp)
  exact wpAny_pyNext_range_end (I.ok.hd hc) st (by have : n ≤ i := hg; omega) fun h' eb => ⟨rfl, I.turned (t' := s.toks) (fun b o hb e => eb b o hb e) f0 f1 f3 f4 f5⟩
 self := fun _ _ _ _ _ st h => wpAny_pyIter_rangeiter st h
section
variable {X : Cx} {tg : Expr}
theorem qo {pins : List (Addr × Obj)} {σ : St} {H : Hp} {s : Shared} {R : It → Hp → Prop} {E : Value → Shared → Prop} {lo hi st : Int} {t u v : Tok} {tk : Nat} (I : Inv X pins σ H s) (hs : Builtin.Range.small lo hi st = true) (h0 : 0 ≤ Builtin.Range.rangeSize lo hi st)
   (q : R (oP lo st (Builtin.Range.rangeSize lo hi st).toNat) H) : wpAny (model X.prog X.w) X.A (pyIter (.ref s.heap.objs.size)) (PIE X pins σ tg R) E { s with heap := s.heap.push { cls := .type "range", data := .fields #[.int lo t, .int hi u, .int st v] }, toks := tk } := by
 refine wpAny_pyIter_range (IsRange.new ..) hs ?_
 have I1 : Inv X pins σ H { s with heap := s.heap.push { cls := .type "range", data := .fields #[.int lo t, .int hi u, .int st v] }, toks := tk } := I.kept fun b o e => Heap.get?_push_of_some _ e
 refine ⟨(s.heap.push { cls := .type "range", data := .fields #[.int lo t, .int hi u, .int st v] }).objs.size, [(s.heap.push { cls := .type "range", data := .fields #[.int lo t, .int hi u, .int st v] }).objs.size], _, _, H, rfl,
   I1.kept (t' := tk) fun b o e => Heap.get?_push_of_some _ e, mq _ lo st (Builtin.Range.rangeSize lo hi st).toNat, ?_, fun b hb => ?_, q⟩
 · have e1 : lo + ((0 : Nat) : Int) * st = lo := by simp
   have e2 : (((Builtin.Range.rangeSize lo hi st).toNat : Nat) : Int) - ((0 : Nat) : Int) = Builtin.Range.rangeSize lo hi st := by omega
   show IsRangeIter _ _ (lo + ((0 : Nat) : Int) * st) ((((Builtin.Range.rangeSize lo hi st).toNat : Nat) : Int) - ((0 : Nat) : Int)) st
   rw [e1, e2]
   exact Heap.get?_push_size _ rfl
 · have e : b = (s.heap.push { cls := .type "range", data := .fields #[.int lo t, .int hi u, .int st v] }).objs.size := by simpa using hb
   subst e
   exact I1.fpOk (Nat.le_refl _) (I1.hok.fresh (Nat.le_refl _))
def oF (ta : TA) : TI := fun σ H R => ta σ H fun vs H1 => ∃ i j k : Int, vs = [.int i, .int j, .int k] ∧ (k ≠ 0 ∧ Builtin.Range.small i j k = true ∧ 0 ≤ Builtin.Range.rangeSize i j k ∧ k.natAbs.log2 < 9000) ∧ R (oP i k (Builtin.Range.rangeSize i j k).toNat) H1
theorem tB {a b c : Expr} {ta : TA} {p pos : Pos} (hm : X.mg "range" = none) (ha : QA X [a, b, c] ta) (hg : Gl X "range" := by rfl) (hs : aH [a, b, c] = true := by rfl) : QI X tg (.Call (.Name "range" p) [a, b, c] [] pos) (oF ta) := ⟨fun pins s σ H R I h => by
  have h' : (bj a && aH [b, c]) = true := hs
  refine Call_ (dg I hg hm boot_range (PyProof.Rows.callWith_type1 (thn (ha.out pos pins s σ H _ I h) fun us s1 ⟨vs, H1, I1, r1, q1⟩ => ?_) (aI (Bool.and_eq_true_iff.mp h').1 [b, c] X.env) (bc (Bool.and_eq_true_iff.mp h').2)))
  obtain ⟨i, j, k, e, ⟨q1, q2, q3, q4⟩, q⟩ := q1
  subst e
  cases r1 with
  | cons r rr =>
    cases rr with
    | cons r' rr =>
      cases rr with
      | cons r'' rr =>
        cases rr
        obtain ⟨t, rfl⟩ := r
        obtain ⟨t', rfl⟩ := r'
        obtain ⟨t'', rfl⟩ := r''
        exact call_range_3 q1 (qo I1 q2 q3 q) (Or.inl (PyProof.noPylong_of_log2 q4))⟩
theorem cg.range3 {lo st : Int} {n : Nat} : cg (oP lo st n) n (fun i => .int (lo + i * st)) (fun _ => True) where
 go := fun i H hi _ => hi
 yld := fun i H x H' hi _ y => y
 stop := fun H _ => Nat.le_refl _
end
section
variable {X : Cx} {a b : Expr} {t : TA} {p pos ep : Pos} {elts : List Expr} {ek : Nat}
def kE (K : W.Frag) (t : TA) : TI := fun σ H R => t σ H fun vs H1 => (∃ c d xs ys, vs = [.ref c, .ref d] ∧ SqT K H1 c xs ∧ SqT K H1 d ys ∧ R (Itz K c d) H1) ∨ (∃ c d xs ys, vs = [.ref c, .ref d] ∧ SqL K H1 c xs ∧ SqL K H1 d ys ∧ R (iA K c d) H1)
theorem qB (hm : X.mg "zip" = none) (ha : QA X [a, b] t) (hg : Gl X "zip" := by rfl) (hs : aH [a, b] = true := by rfl) : QI X (.Tuple elts ek ep) (.Call (.Name "zip" p) [a, b] [] pos) (kE X.K t) := ⟨fun pins s σ H R I h => by
 have h' : (bj a && aH [b]) = true := hs
 refine wpAny_Call_Name_kw (dg I hg hm pv ?_ (by decide) (by decide))
 exact PyProof.Rows.callWith_type1 (thn (ha.out pos pins s σ H _ I h) fun us s1 ⟨vs, H1, I1, r1, q1⟩ => q1.elim (tw pins s1 σ H1 us vs R I1 r1) (qg pins s1 σ H1 us vs R I1 r1))
  (aI (Bool.and_eq_true_iff.mp h').1 [b] X.env) (bc (Bool.and_eq_true_iff.mp h').2)⟩
end
end L2
namespace HT
open PySem PyProof.Rows
abbrev gi (f0 f1 : Value) (TI TO : Addr) : Obj := { cls := .type "zip", dict := none, data := .fields #[f0, f1, .bool false, .ref TI, .ref TO], slots := #[] }
structure eg (h : Heap) (z TI TO i1 i2 l t S : Addr) (k : Nat) : Prop where
 z : (k = 0 ∧ h.get? z = some (gi .none (.bool false) TI TO)) ∨ ∃ T f oT, h.get? z = some (gi (rawInt (T : Addr)) (.bool f) TI TO) ∧ h.get? T = some oT ∧ T ≠ z ∧ T ≠ TO ∧ T ≠ i1 ∧ T ≠ i2 ∧ T ≠ S
 ti : IsPair h TI (.ref i1) (.ref i2)
 to : ∃ a b, IsPair h TO a b
 j1 : h.IsListIter i1 l k
 j2 : h.IsTupleIter i2 t k
section
variable {prog : Program} {w : World} {A : Around} {E : Value → Shared → Prop} {s : Shared}
theorem mU {z TI TO T : Addr} {f : Bool} {oT : Obj} (hz : s.heap.get? z = some (gi (rawInt T) (.bool f) TI TO)) (hTt : s.heap.get? T = some oT) :
    wpAny (model prog w) A (Builtin.SmallTypes.ownedTupleIsFree (.ref z)) (fun b s1 => b = false ∧ ∃ h₁, s1 = { s with heap := h₁ } ∧ h₁.get? z = some (gi (rawInt T) (.bool true) TI TO) ∧ Heap.SameBut z s.heap h₁) (fun _ _ => False) s := by
  unfold Builtin.SmallTypes.ownedTupleIsFree
  refine wpAny_bind (wpAny_field hz rfl (x := rawInt T) rfl ?_)
  show wpAny _ _ (loadIfAlive ((T : Int).toNat) >>= _) _ _ _
  rw [Int.toNat_natCast]
  refine wpAny_bind (W.kdx_alive hTt ?_)
  simp only [Option.isNone_some, Bool.false_eq_true, if_false]
  refine wpAny_bind (wpAny_field hz rfl (x := .bool f) rfl ?_)
  cases f with
  | true =>
    rw [if_neg (show ¬ ((Value.bool true != Value.bool true) = true) from Bool.false_ne_true)]
    exact wpAny_pure ⟨rfl, s.heap, rfl, hz, Heap.SameBut.refl _ _⟩
  | false =>
    rw [if_pos (show (Value.bool false != Value.bool true) = true from rfl)]
    exact wpAny_bind (wpAny_setField_rec hz (by simp) fun h₃ he₃ hs₃ => wpAny_pure ⟨rfl, h₃, rfl, he₃, hs₃⟩)
theorem nU {z TI TO i1 i2 l t S : Addr} {k : Nat} {xs ys : Array Value} {x y a b : Value} {Q : Option Value → Shared → Prop} (D : ZipApart z TI TO i1 i2 l t) (hz : IsZip s.heap z TI TO .none) (hTI : IsPair s.heap TI (.ref i1) (.ref i2)) (hTO : IsPair s.heap TO a b)
  (h1 : s.heap.IsListIter i1 l k) (h2 : s.heap.IsTupleIter i2 t k) (ht1 : s.heap.IsList l xs) (ht2 : s.heap.IsTuple t ys) (hx : xs[k]? = some x) (hy : ys[k]? = some y) (hS : S < s.heap.objs.size)
  (hQ : ∀ h', eg h' z TI TO i1 i2 l t S (k + 1) → IsPair h' s.heap.objs.size x y →
   (∀ c o, c ≠ z → c ≠ TO → c ≠ i1 → c ≠ i2 → s.heap.get? c = some o → h'.get? c = some o) → Q (some (.ref s.heap.objs.size)) { s with heap := h' }) :
  wpAny (model prog w) A (pyNext (.ref z)) Q E s := by
 have hT : s.TypeIs (.ref z) "zip" := ⟨_, hz, rfl⟩
 unfold pyNext
 refine wpAny_bind (wpAny_attempt (wpAny_callSpecial?_slot (name := Str.ofString "__next__") hT F.slot_zip_next (wpAny_call_entry F.slot_zip_next hT F.entry_zip_next ?_ (F.args_zip_next_1 _))))
 show wpAny _ _ (field (.ref z) 2 >>= _) _ _ _
 refine wpAny_bind (wpAny_field hz rfl (x := .bool false) rfl ?_)
 show wpAny _ _ (field (.ref z) 3 >>= _) _ _ _
 refine wpAny_bind (wpAny_field hz rfl (x := .ref TI) rfl (wpAny_bind (wpAny_seqItems hTI rfl ?_)))
 show wpAny _ _ (Builtin.SmallTypes.ownedTupleIsFree (.ref z) >>= _) _ _ _
 refine wpAny_bind ?_
 unfold Builtin.SmallTypes.ownedTupleIsFree
 refine wpAny_bind (wpAny_field hz rfl (x := .none) rfl (wpAny_pure ?_))
 simp only [if_true]
 refine wpAny_bind (wpAny_rule (wpAny_bind (wpAny_field hz rfl (x := .ref TO) rfl (wpAny_bind (wpAny_setField_rec hz (by simp) fun ha hza hsa => wpAny_bind ?_)))))
 replace hza : IsZip ha z TI TO .ellipsis := hza
 simp only [List.zipIdx_cons, List.zipIdx_nil, List.forIn_cons, List.forIn_nil]
 refine wpAny_bind (wpAny_bind (wpAny_onRaise ?_))
 show wpAny _ _ (Builtin.SmallTypes.nextOf (.ref i1) >>= _) _ _ _
 refine wpAny_bind (wpAny_nextOf_list_item (h1.at fun o e => hsa.extBut _ _ D.i1z e) (ht1.at fun o e => hsa.extBut _ _ D.l1z e) hx fun hb h1b hsb => wpAny_pure ?_)
 have hTOb : IsPair hb TO a b := hsb.extBut _ _ D.TOi1 (hsa.extBut _ _ D.TOz hTO)
 refine wpAny_bind (wpAny_seqItems hTOb rfl (wpAny_bind (wpAny_updateSeq_pair hTOb fun hc hTOc hsc => ?_)))
 replace hTOc : IsPair hc TO x b := hTOc
 refine wpAny_bind (wpAny_letGo (wpAny_pure ?_))
 refine wpAny_bind (wpAny_bind (wpAny_onRaise ?_))
 show wpAny _ _ (Builtin.SmallTypes.nextOf (.ref i2) >>= _) _ _ _
 refine wpAny_bind (fh (h2.at fun o e => hsc.extBut _ _ D.TOi2.symm (hsb.extBut _ _ D.i12.symm (hsa.extBut _ _ D.i2z e)))
  (ht2.at fun o e => hsc.extBut _ _ D.l2TO (hsb.extBut _ _ D.l2i1 (hsa.extBut _ _ D.l2z e))) hy fun hd h2d hsd => wpAny_pure ?_)
 have hTOd : IsPair hd TO x b := hsd.extBut _ _ D.TOi2 hTOc
 refine wpAny_bind (wpAny_seqItems hTOd rfl (wpAny_bind (wpAny_updateSeq_pair hTOd fun he hTOe hse => ?_)))
 replace hTOe : IsPair he TO x y := hTOe
 refine wpAny_bind (wpAny_letGo (wpAny_pure (wpAny_pure ?_)))
 refine wpAny_bind (wpAny_seqItems hTOe rfl (wpAny_bind (wpAny_newTuple ?_)))
 have hsz : he.objs.size = s.heap.objs.size := by rw [hse.1, hsd.1, hsc.1, hsb.1, hsa.1]
 have hze : IsZip he z TI TO .ellipsis := hse.extBut _ _ D.TOz.symm (hsd.extBut _ _ D.i2z.symm (hsc.extBut _ _ D.TOz.symm (hsb.extBut _ _ D.i1z.symm hza)))
 have hke : ∀ c o, c ≠ z → c ≠ TO → c ≠ i1 → c ≠ i2 → s.heap.get? c = some o → he.get? c = some o := fun c o c1 c2 c3 c4 e =>
  hse.extBut _ _ c2 (hsd.extBut _ _ c4 (hsc.extBut _ _ c2 (hsb.extBut _ _ c3 (hsa.extBut _ _ c1 e))))
 have h1e : he.IsListIter i1 l (k + 1) := h1b.at fun o e => hse.extBut _ _ D.TOi1.symm (hsd.extBut _ _ D.i12 (hsc.extBut _ _ D.TOi1.symm e))
 have h2e : he.IsTupleIter i2 t (k + 1) := h2d.at fun o e => hse.extBut _ _ D.TOi2.symm e
 show wpAny _ _ (Builtin.SmallTypes.ownedTupleHandOut (.ref z) (.ref he.objs.size) >>= _) _ _ _
 refine wpAny_bind ?_
 unfold Builtin.SmallTypes.ownedTupleHandOut
 have hzf : IsZip (he.push { cls := .type "tuple", data := .seq #[x, y] }) z TI TO .ellipsis := Heap.get?_push_of_some _ hze
 refine wpAny_bind (wpAny_setField_rec hzf (by simp) fun hg hzg hsg => ?_)
 replace hzg : IsZip hg z TI TO (rawInt he.objs.size) := hzg
 refine wpAny_setField_rec hzg (by simp) fun hh hzh hsh => ?_
 replace hzh : IsZip hh z TI TO (rawInt he.objs.size) := hzh
 have up : ∀ c o, c ≠ z → he.get? c = some o → hh.get? c = some o := fun c o c1 e => hsh.extBut _ _ c1 (hsg.extBut _ _ c1 (Heap.get?_push_of_some _ e))
 have hTh : IsPair hh he.objs.size x y := hsh.extBut _ _ (Nat.ne_of_gt (Heap.lt_size hze)) (hsg.extBut _ _ (Nat.ne_of_gt (Heap.lt_size hze)) (Heap.get?_push_size _ rfl))
 have n1 : he.objs.size ≠ z := Nat.ne_of_gt (Heap.lt_size hze)
 have n2 : he.objs.size ≠ TO := Nat.ne_of_gt (Heap.lt_size hTOe)
 have n3 : he.objs.size ≠ i1 := by obtain ⟨o, eo, _⟩ := h1e; exact Nat.ne_of_gt (Heap.lt_size eo)
 have n4 : he.objs.size ≠ i2 := by obtain ⟨o, eo, _⟩ := h2e; exact Nat.ne_of_gt (Heap.lt_size eo)
 have n5 : he.objs.size ≠ S := by rw [hsz]; exact Nat.ne_of_gt hS
 rw [hsz] at hzh hTh n1 n2 n3 n4 n5
 have fin := hQ hh ⟨.inr ⟨s.heap.objs.size, false, _, hzh, hTh, n1, n2, n3, n4, n5⟩, up _ _ D.TIz (hke _ _ D.TIz D.TITO D.TIi1 D.TIi2 hTI), ⟨x, y, up _ _ D.TOz hTOe⟩, h1e.at fun o e => up _ o D.i1z e, h2e.at fun o e => up _ o D.i2z e⟩ hTh fun c o c1 c2 c3 c4 e => up c o c1 (hke c o c1 c2 c3 c4 e)
 rw [← hsz] at fin
 exact wpAny_pure ⟨_, rfl, wpAny_pure fin⟩
theorem pV {z TI TO i1 i2 l t S T : Addr} {f : Bool} {oT : Obj} {k : Nat} {xs ys : Array Value} {x y : Value} {Q : Option Value → Shared → Prop} (D : ZipApart z TI TO i1 i2 l t) (hz : s.heap.get? z = some (gi (rawInt T) (.bool f) TI TO)) (hTt : s.heap.get? T = some oT)
  (nT : T ≠ z ∧ T ≠ TO ∧ T ≠ i1 ∧ T ≠ i2 ∧ T ≠ S) (hTI : IsPair s.heap TI (.ref i1) (.ref i2)) (hTO : ∃ a b, IsPair s.heap TO a b)
  (h1 : s.heap.IsListIter i1 l k) (h2 : s.heap.IsTupleIter i2 t k) (ht1 : s.heap.IsList l xs) (ht2 : s.heap.IsTuple t ys) (hx : xs[k]? = some x) (hy : ys[k]? = some y)
  (hQ : ∀ h', eg h' z TI TO i1 i2 l t S (k + 1) → IsPair h' s.heap.objs.size x y →
   (∀ c o, c ≠ z → c ≠ TO → c ≠ i1 → c ≠ i2 → s.heap.get? c = some o → h'.get? c = some o) → Q (some (.ref s.heap.objs.size)) { s with heap := h' }) :
  wpAny (model prog w) A (pyNext (.ref z)) Q E s := by
 have hT : s.TypeIs (.ref z) "zip" := ⟨_, hz, rfl⟩
 unfold pyNext
 refine wpAny_bind (wpAny_attempt (wpAny_callSpecial?_slot (name := Str.ofString "__next__") hT F.slot_zip_next (wpAny_call_entry F.slot_zip_next hT F.entry_zip_next ?_ (F.args_zip_next_1 _))))
 show wpAny _ _ (field (.ref z) 2 >>= _) _ _ _
 refine wpAny_bind (wpAny_field hz rfl (x := .bool false) rfl ?_)
 show wpAny _ _ (field (.ref z) 3 >>= _) _ _ _
 refine wpAny_bind (wpAny_field hz rfl (x := .ref TI) rfl (wpAny_bind (wpAny_seqItems hTI rfl ?_)))
 show wpAny _ _ (Builtin.SmallTypes.ownedTupleIsFree (.ref z) >>= _) _ _ _
 refine wpAny_bind (wpAny_mono (mU hz hTt) (fun b s1 hb => ?_) fun _ _ e => e.elim)
 obtain ⟨rfl, ha, rfl, hza, hsa⟩ := hb
 simp only [Bool.false_eq_true, if_false]
 refine wpAny_bind ?_
 rw [← Array.forIn_toList]
 simp only [List.forIn_cons, List.forIn_nil]
 refine wpAny_bind (wpAny_bind (wpAny_holding ?_))
 show wpAny _ _ (Builtin.SmallTypes.nextOf (.ref i1) >>= _) _ _ _
 refine wpAny_bind (wpAny_nextOf_list_item (h1.at fun o e => hsa.extBut _ _ D.i1z e) (ht1.at fun o e => hsa.extBut _ _ D.l1z e) hx fun hb h1b hsb => wpAny_pure (wpAny_pure ?_))
 refine wpAny_bind (wpAny_bind (wpAny_holding ?_))
 show wpAny _ _ (Builtin.SmallTypes.nextOf (.ref i2) >>= _) _ _ _
 refine wpAny_bind (fh (h2.at fun o e => hsb.extBut _ _ D.i12.symm (hsa.extBut _ _ D.i2z e)) (ht2.at fun o e => hsb.extBut _ _ D.l2i1 (hsa.extBut _ _ D.l2z e)) hy fun hd h2d hsd => wpAny_pure (wpAny_pure (wpAny_pure ?_)))
 refine wpAny_bind (wpAny_newTuple (hsz := by show 2 ≤ sizeLine; decide) ?_)
 have hsz : hd.objs.size = s.heap.objs.size := by rw [hsd.1, hsb.1, hsa.1]
 have hk : ∀ c o, c ≠ z → c ≠ TO → c ≠ i1 → c ≠ i2 → s.heap.get? c = some o → (hd.push { cls := .type "tuple", data := .seq #[x, y] }).get? c = some o := fun c o c1 c2 c3 c4 e =>
  Heap.get?_push_of_some _ (hsd.extBut _ _ c4 (hsb.extBut _ _ c3 (hsa.extBut _ _ c1 e)))
 obtain ⟨a, b, hTO⟩ := hTO
 have fin := hQ (hd.push { cls := .type "tuple", data := .seq #[x, y] }) ⟨.inr ⟨T, true, oT, Heap.get?_push_of_some _ (hsd.extBut _ _ D.i2z.symm (hsb.extBut _ _ D.i1z.symm hza)), hk T oT nT.1 nT.2.1 nT.2.2.1 nT.2.2.2.1 hTt, nT⟩,
  hk _ _ D.TIz D.TITO D.TIi1 D.TIi2 hTI, ⟨a, b, Heap.get?_push_of_some _ (hsd.extBut _ _ D.TOi2 (hsb.extBut _ _ D.TOi1 (hsa.extBut _ _ D.TOz hTO)))⟩,
  h1b.at fun o e => Heap.get?_push_of_some _ (hsd.extBut _ _ D.i12 e), h2d.at fun o e => Heap.get?_push_of_some _ e⟩ (by rw [← hsz]; exact Heap.get?_push_size _ rfl) hk
 rw [← hsz] at fin
 exact wpAny_pure ⟨_, rfl, wpAny_pure fin⟩
theorem sJ {z TI TO i1 i2 l t S : Addr} {k : Nat} {xs : Array Value} {Q : Option Value → Shared → Prop} (hh : A.handled = none) (D : ZipApart z TI TO i1 i2 l t) (Z : eg s.heap z TI TO i1 i2 l t S k)
   (ht1 : s.heap.IsList l xs) (hend : xs[k]? = none)
   (hQ : ∀ h', (∀ c o, c ≠ z → c ≠ TO → c ≠ i1 → c ≠ i2 → s.heap.get? c = some o → h'.get? c = some o) → Q none { s with heap := h' }) : wpAny (model prog w) A (pyNext (.ref z)) Q E s := by
 obtain ⟨Zz, hTI, ⟨a, b, hTO⟩, h1, h2⟩ := Z
 have hT : s.TypeIs (.ref z) "zip" := by rcases Zz with ⟨_, e⟩ | ⟨_, _, _, e, _⟩ <;> exact ⟨_, e, rfl⟩
 have fin : ∀ h' e, (∀ c o, c ≠ z → c ≠ TO → c ≠ i1 → c ≠ i2 → s.heap.get? c = some o → h'.get? c = some o) → (∃ o, h'.get? e = some o ∧ o.cls = .type "StopIteration") →
    wpAny (model prog w) A (do if ← isInstance (.ref e) (.type "StopIteration") then pure none else throw (.ref e)) Q E { s with heap := h' } := fun h' e hk ⟨o, ho, hc⟩ =>
   wpAny_bind (wpAny_isInstance (T := "StopIteration") (b := true) ⟨o, ho, hc⟩ isSubtype_stop (wpAny_pure (hQ _ hk)))
 unfold pyNext
 refine wpAny_bind (wpAny_attempt (wpAny_callSpecial?_slot (name := Str.ofString "__next__") hT F.slot_zip_next (wpAny_call_entry F.slot_zip_next hT F.entry_zip_next ?_ (F.args_zip_next_1 _))))
 show wpAny _ _ (field (.ref z) 2 >>= _) _ _ _
 rcases Zz with ⟨_, hz⟩ | ⟨T, f, oT, hz, hTt, nT⟩
 · refine wpAny_bind (wpAny_field hz rfl (x := .bool false) rfl ?_)
   show wpAny _ _ (field (.ref z) 3 >>= _) _ _ _
   refine wpAny_bind (wpAny_field hz rfl (x := .ref TI) rfl (wpAny_bind (wpAny_seqItems hTI rfl ?_)))
   show wpAny _ _ (Builtin.SmallTypes.ownedTupleIsFree (.ref z) >>= _) _ _ _
   refine wpAny_bind ?_
   unfold Builtin.SmallTypes.ownedTupleIsFree
   refine wpAny_bind (wpAny_field hz rfl (x := .none) rfl (wpAny_pure ?_))
   simp only [if_true]
   refine wpAny_bind (wpAny_rule (wpAny_bind (wpAny_field hz rfl (x := .ref TO) rfl (wpAny_bind (wpAny_setField_rec hz (by simp) fun ha hza hsa => wpAny_bind ?_)))))
   replace hza : IsZip ha z TI TO .ellipsis := hza
   simp only [List.zipIdx_cons, List.zipIdx_nil, List.forIn_cons, List.forIn_nil]
   refine wpAny_bind (wpAny_bind (wpAny_onRaise ?_))
   show wpAny _ _ (Builtin.SmallTypes.nextOf (.ref i1) >>= _) _ _ _
   refine wpAny_bind (wpAny_nextOf_list_end hh (h1.at fun o e => hsa.extBut _ _ D.i1z e) (ht1.at fun o e => hsa.extBut _ _ D.l1z e) hend fun hb e hsb he => ?_)
   obtain ⟨oe, hoe, hce⟩ := he
   have hzb : IsZip hb z TI TO .ellipsis := hsb _ _ D.i1z.symm hza
   have hez : e ≠ z := fun x => by subst x; rw [hzb] at hoe; cases hoe; simp at hce
   exact wpAny_setField_rec hzb (by simp) fun hc _ hsc => fin hc e (fun c o c1 _ c3 _ x => hsc.extBut _ _ c1 (hsb _ _ c3 (hsa.extBut _ _ c1 x))) ⟨oe, hsc.extBut _ _ hez hoe, hce⟩
 · refine wpAny_bind (wpAny_field hz rfl (x := .bool false) rfl ?_)
   show wpAny _ _ (field (.ref z) 3 >>= _) _ _ _
   refine wpAny_bind (wpAny_field hz rfl (x := .ref TI) rfl (wpAny_bind (wpAny_seqItems hTI rfl ?_)))
   show wpAny _ _ (Builtin.SmallTypes.ownedTupleIsFree (.ref z) >>= _) _ _ _
   refine wpAny_bind (wpAny_mono (mU hz hTt) (fun b s1 hb => ?_) fun _ _ e => e.elim)
   obtain ⟨rfl, ha, rfl, hza, hsa⟩ := hb
   simp only [Bool.false_eq_true, if_false]
   refine wpAny_bind ?_
   rw [← Array.forIn_toList]
   simp only [List.forIn_cons, List.forIn_nil]
   refine wpAny_bind (wpAny_bind (wpAny_holding ?_))
   show wpAny _ _ (Builtin.SmallTypes.nextOf (.ref i1) >>= _) _ _ _
   refine wpAny_bind (wpAny_nextOf_list_end hh (h1.at fun o e => hsa.extBut _ _ D.i1z e) (ht1.at fun o e => hsa.extBut _ _ D.l1z e) hend fun hb e hsb he => ?_)
   exact fin hb e (fun c o c1 _ c3 _ x => hsb _ _ c3 (hsa.extBut _ _ c1 x)) he
structure gK (xs ys : Array Value) (lo : Addr) (h : Heap) (as : List Addr) : Prop where
 rise : as.Pairwise (· < ·)
 above : ∀ a ∈ as, lo ≤ a
 pairs : ∀ (j : Nat) (a : Addr), as[j]? = some a → ∃ x y, xs[j]? = some x ∧ ys[j]? = some y ∧ IsPair h a x y
theorem gK.there {xs ys : Array Value} {lo : Addr} {h : Heap} {as : List Addr} (g : gK xs ys lo h as) {a : Addr} (ha : a ∈ as) : a < h.objs.size := by
 obtain ⟨j, hj⟩ := List.mem_iff_getElem?.mp ha
 obtain ⟨_, _, _, _, e⟩ := g.pairs j a hj
 exact Heap.lt_size e
theorem eg.keepS {h h' : Heap} {z TI TO i1 i2 l t S : Addr} {k : Nat} (Z : eg h z TI TO i1 i2 l t S k) (nS : S ≠ z ∧ S ≠ TI ∧ S ≠ TO ∧ S ≠ i1 ∧ S ≠ i2) (hk : ∀ b o, b ≠ S → h.get? b = some o → h'.get? b = some o) : eg h' z TI TO i1 i2 l t S k := by
 obtain ⟨Zz, hTI, ⟨a, b, hTO⟩, h1, h2⟩ := Z
 refine ⟨?_, hk _ _ nS.2.1.symm hTI, ⟨a, b, hk _ _ nS.2.2.1.symm hTO⟩, h1.at fun o e => hk _ o nS.2.2.2.1.symm e, h2.at fun o e => hk _ o nS.2.2.2.2.symm e⟩
 rcases Zz with ⟨e, hz⟩ | ⟨T, f, oT, hz, hTt, nT⟩
 · exact .inl ⟨e, hk _ _ nS.1.symm hz⟩
 · exact .inr ⟨T, f, oT, hk _ _ nS.1.symm hz, hk _ _ nT.2.2.2.2 hTt, nT⟩
theorem eg.item {z TI TO i1 i2 l t S : Addr} {k : Nat} {xs ys : Array Value} {x y : Value} {Q : Option Value → Shared → Prop} (Z : eg s.heap z TI TO i1 i2 l t S k) (D : ZipApart z TI TO i1 i2 l t)
   (ht1 : s.heap.IsList l xs) (ht2 : s.heap.IsTuple t ys) (hx : xs[k]? = some x) (hy : ys[k]? = some y) (hS : S < s.heap.objs.size)
   (hQ : ∀ h', eg h' z TI TO i1 i2 l t S (k + 1) → IsPair h' s.heap.objs.size x y →
    (∀ c o, c ≠ z → c ≠ TO → c ≠ i1 → c ≠ i2 → s.heap.get? c = some o → h'.get? c = some o) → Q (some (.ref s.heap.objs.size)) { s with heap := h' }) :
   wpAny (model prog w) A (pyNext (.ref z)) Q E s := by
 obtain ⟨Zz, hTI, ⟨a, b, hTO⟩, h1, h2⟩ := Z
 rcases Zz with ⟨_, hz⟩ | ⟨T, f, oT, hz, hTt, nT⟩
 · exact nU D hz hTI hTO h1 h2 ht1 ht2 hx hy hS hQ
 · exact pV D hz hTt nT hTI ⟨a, b, hTO⟩ h1 h2 ht1 ht2 hx hy hQ
end
section
variable {prog : Program} {w : World} {A : Around} {s : Shared} {R : Result → Shared → Prop} {xs ys : Array Value}
theorem ql {z TI TO i1 i2 l t S lo : Addr} (hh : A.handled = none) (D : ZipApart z TI TO i1 i2 l t) (nS : S ≠ z ∧ S ≠ TI ∧ S ≠ TO ∧ S ≠ i1 ∧ S ≠ i2) (nl : l ≠ S) (nt : t ≠ S) (below : ∀ b ∈ [z, TI, TO, i1, i2, S], b < lo) (hn : xs.size ≤ sizeLine) (hlen : xs.size = ys.size) (res : Value) {h₁ : Heap}
    (hR : ∀ h' tk acc c as, (∀ b o, b ∉ [z, TI, TO, i1, i2, S] → h₁.get? b = some o → h'.get? b = some o) → h'.get? S = some { cls := .type "list", dict := none, data := .seq acc c, slots := #[] } → as.length = xs.size → gK xs ys lo h' as →
      acc.toList = as.map Value.ref → R (.ok (.ret res)) { s with heap := h', toks := tk }) :
    ∀ (k i : Nat) (h : Heap) (tk c : Nat) (acc : Array Value) (as : List Addr), xs.size - i = k → i ≤ xs.size → eg h z TI TO i1 i2 l t S i → h.IsList l xs → h.IsTuple t ys → (∀ b o, b ∉ [z, TI, TO, i1, i2, S] → h₁.get? b = some o → h.get? b = some o) →
      h.get? S = some { cls := .type "list", dict := none, data := .seq acc c, slots := #[] } → acc.toList = as.map Value.ref → as.length = i → gK xs ys lo h as → lo ≤ h.objs.size →
      codeAny (model prog w) A (.builtin "list.extend.loop" ⟨[.ref S, .ref z, res], []⟩) R { s with heap := h, toks := tk } := by
  have inb : ∀ b, b ∉ [z, TI, TO, i1, i2, S] → b ≠ z ∧ b ≠ TO ∧ b ≠ i1 ∧ b ≠ i2 ∧ b ≠ S := fun b hb => by
    simp only [List.mem_cons, List.not_mem_nil, or_false, not_or] at hb
    exact ⟨hb.1, hb.2.2.1, hb.2.2.2.1, hb.2.2.2.2.1, hb.2.2.2.2.2⟩
  have above : ∀ b, lo ≤ b → b ≠ z ∧ b ≠ TO ∧ b ≠ i1 ∧ b ≠ i2 ∧ b ≠ S := fun b hb => by
    have f : ∀ c ∈ [z, TI, TO, i1, i2, S], b ≠ c := fun c hc => Nat.ne_of_gt (Nat.lt_of_lt_of_le (below c hc) hb)
    exact ⟨f z (by simp), f TO (by simp), f i1 (by simp), f i2 (by simp), f S (by simp)⟩
  intro k
  induction k with
  | zero =>
    intro i h tk c acc as hk hi hst hl ht hkeep hS hacc hal hG hIs
    have hin : i = xs.size := by omega
    refine codeAny_builtin PySem.F.entry_extend_loop ?_
    rw [Around.under_plainId PySem.F.plain_extend_loop _]
    show wpAny _ A.in1 (pyNext (.ref z) >>= _) _ _ _
    refine wpAny_bind (sJ (s := { s with heap := h, toks := tk }) (A := A.in1) hh D hst hl (Array.getElem?_eq_none (by omega)) fun h' he => ?_)
    refine wpAny_pure (hR h' tk acc c as (fun b o h1 e => ?_) (he S _ nS.1 nS.2.2.1 nS.2.2.2.1 nS.2.2.2.2 hS) (by omega) ⟨hG.rise, hG.above, fun j a hj => ?_⟩ hacc)
    · obtain ⟨n1, n2, n3, n4, n5⟩ := inb b h1
      exact he b o n1 n2 n3 n4 (hkeep b o h1 e)
    · obtain ⟨x, y, e1, e2, e3⟩ := hG.pairs j a hj
      obtain ⟨n1, n2, n3, n4, n5⟩ := above a (hG.above a (List.mem_of_getElem? hj))
      exact ⟨x, y, e1, e2, he a _ n1 n2 n3 n4 e3⟩
  | succ k ih =>
    intro i h tk c acc as hk hi hst hl ht hkeep hS hacc hal hG hIs
    have hlt : i < xs.size := by omega
    obtain ⟨x, hx⟩ : ∃ p, xs[i]? = some p := ⟨xs[i], Array.getElem?_eq_getElem hlt⟩
    obtain ⟨y, hy⟩ : ∃ p, ys[i]? = some p := ⟨ys[i], Array.getElem?_eq_getElem (by omega)⟩
    have hsz : acc.size = i := by rw [← Array.length_toList, hacc, List.length_map, hal]
    refine codeAny_builtin PySem.F.entry_extend_loop ?_
    rw [Around.under_plainId PySem.F.plain_extend_loop _]
    show wpAny _ A.in1 (pyNext (.ref z) >>= _) _ _ _
    refine wpAny_bind (eg.item (s := { s with heap := h, toks := tk }) (S := S) hst D hl ht hx hy (Heap.lt_size hS) fun h' hst' hT hkp => ?_)
    dsimp only at hT hkp ⊢
    have hS' := hkp S _ nS.1 nS.2.2.1 nS.2.2.2.1 nS.2.2.2.2 hS
    have up : ∀ b o, b ≠ S → h'.get? b = some o → (h'.update S (Obj.mapSeq (·.push (Value.ref h.objs.size)))).get? b = some o := fun b o hb e => (Heap.get?_update_other _ _ (Ne.symm hb)).trans e
    obtain ⟨m1, m2, m3, m4, m5⟩ := above h.objs.size hIs
    have kl : ∀ o, h.get? l = some o → (h'.update S (Obj.mapSeq (·.push (Value.ref h.objs.size)))).get? l = some o := fun o e => up l o nl (hkp l o D.l1z D.l1TO D.l1i1 D.l1i2 e)
    have kt : ∀ o, h.get? t = some o → (h'.update S (Obj.mapSeq (·.push (Value.ref h.objs.size)))).get? t = some o := fun o e => up t o nt (hkp t o D.l2z D.l2TO D.l2i1 D.l2i2 e)
    show wpAny _ A.in1 (updateSeq S (·.push (Value.ref h.objs.size)) >>= _) _ _ _
    refine wpAny_bind ?_
    refine wpAny_updateSeq hS' rfl (wpAny_pure ⟨plainId_quiet PySem.F.plain_extend_loop _, ih (i + 1) _ tk _ (acc.push (Value.ref h.objs.size)) (as ++ [h.objs.size]) (by omega) hlt (hst'.keepS nS up) (hl.at kl) (ht.at kt)
      (fun b o h1 e => ?_) (Heap.get?_update_self _ hS' rfl) (by rw [Array.toList_push, hacc, List.map_append]; rfl) (by rw [List.length_append, hal]; rfl) ⟨?_, ?_, ?_⟩ ?_⟩) (by rw [hsz]; omega) (by show (acc.push (Value.ref h.objs.size)).size ≤ sizeLine + 1; rw [Array.size_push, hsz]; omega)
    · obtain ⟨n1, n2, n3, n4, n5⟩ := inb b h1
      exact up b o n5 (hkp b o n1 n2 n3 n4 (hkeep b o h1 e))
    · refine List.pairwise_append.mpr ⟨hG.rise, List.pairwise_singleton _ _, fun a ha b hb => ?_⟩
      rw [List.mem_singleton.mp hb]
      exact hG.there ha
    · intro a ha
      rcases List.mem_append.mp ha with ha | ha
      · exact hG.above a ha
      · rw [List.mem_singleton.mp ha]; exact hIs
    · intro j b hj
      rcases Nat.lt_trichotomy j as.length with h1 | h1 | h1
      · rw [List.getElem?_append_left h1] at hj
        obtain ⟨x', y', e1, e2, e3⟩ := hG.pairs j b hj
        obtain ⟨n1, n2, n3, n4, n5⟩ := above b (hG.above b (List.mem_of_getElem? hj))
        exact ⟨x', y', e1, e2, up b _ n5 (hkp b _ n1 n2 n3 n4 e3)⟩
      · subst h1
        have hb : h.objs.size = b := by simpa using hj
        subst hb
        exact ⟨x, y, by rw [hal]; exact hx, by rw [hal]; exact hy, up _ _ m5 hT⟩
      · have hnone : (as ++ [h.objs.size])[j]? = none := List.getElem?_eq_none (by rw [List.length_append, List.length_singleton]; omega)
        rw [hnone] at hj; cases hj
    · have e : (h'.update S (Obj.mapSeq (·.push (Value.ref h.objs.size)))).get? h.objs.size = _ := up _ _ m5 hT
      exact Nat.le_of_lt (Nat.lt_of_le_of_lt hIs (Heap.lt_size e))
end
end HT
namespace HT
open PySem PyProof.Rows
theorem qq : typeLookup (.type "zip") "__len__" = pure none := by rw [typeLookup_type, builtinLookup_eq_fast]; kernel_rfl
theorem oW : typeLookup (.type "zip") "__length_hint__" = pure none := by rw [typeLookup_type, builtinLookup_eq_fast]; kernel_rfl
section
variable {prog : Program} {w : World} {A : Around} {s : Shared} {R : Result → Shared → Prop} {xs ys : Array Value} {z TI TO i1 i2 l t S : Addr}
theorem mm (hh : A.handled = none) (D : ZipApart z TI TO i1 i2 l t) (nS : S ≠ z ∧ S ≠ TI ∧ S ≠ TO ∧ S ≠ i1 ∧ S ≠ i2) (nl : l ≠ S) (nt : t ≠ S) (hn : xs.size ≤ sizeLine) (hlen : xs.size = ys.size) (res : Value) (c₀ : Nat)
   (Z : eg s.heap z TI TO i1 i2 l t S 0) (hz0 : s.heap.get? z = some (gi .none (.bool false) TI TO)) (hl : s.heap.IsList l xs) (ht : s.heap.IsTuple t ys) (hS : s.heap.get? S = some { cls := .type "list", data := .seq #[] c₀ })
   (hR : ∀ h' tk acc c as, (∀ b o, b ∉ [z, TI, TO, i1, i2, S] → s.heap.get? b = some o → h'.get? b = some o) → h'.get? S = some { cls := .type "list", dict := none, data := .seq acc c, slots := #[] } → as.length = xs.size → gK xs ys s.heap.objs.size h' as →
     acc.toList = as.map Value.ref → R (.ok (.ret res)) { s with heap := h', toks := tk }) :
   wpAny (model prog w) A.in1 (Builtin.List.listExtendWith (.ref S) (.ref z) res)
     (fun fin s' => match fin with | .done f => R (.ok f) s' | .again c' => c'.quiet = true ∧ codeAny (model prog w) A c' R s') (fun e s' => R (.error e) s') s := by
 have hT : s.TypeIs (.ref z) "zip" := ⟨_, hz0, rfl⟩
 have below : ∀ b ∈ [z, TI, TO, i1, i2, S], b < s.heap.objs.size := fun b hb => by
   obtain ⟨_, hTI, ⟨x, y, hTO⟩, ⟨o1, e1, _⟩, ⟨o2, e2, _⟩⟩ := Z
   simp only [List.mem_cons, List.not_mem_nil, or_false] at hb
   rcases hb with rfl | rfl | rfl | rfl | rfl | rfl
   · exact Heap.lt_size hz0
   · exact Heap.lt_size hTI
   · exact Heap.lt_size hTO
   · exact Heap.lt_size e1
   · exact Heap.lt_size e2
   · exact Heap.lt_size hS
 have key : ∀ (h : Heap) (c₁ tk : Nat), h.objs.size = s.heap.objs.size → (∀ b o, b ≠ S → s.heap.get? b = some o → h.get? b = some o) →
     h.get? S = some { cls := .type "list", data := .seq #[] c₁ } → codeAny (model prog w) A (.builtin "list.extend.loop" ⟨[.ref S, .ref z, res], []⟩) R { s with heap := h, toks := tk } := by
   intro h c₁ tk hz hk hS₁
   refine ql (s := s) (h₁ := s.heap) hh D nS nl nt below hn hlen res (fun h' tk' acc c as hk' hS' hl hG hacc => hR h' tk' acc c as hk' hS' hl hG hacc)
     xs.size 0 h tk c₁ #[] [] (Nat.sub_zero _) (Nat.zero_le _) (Z.keepS nS hk) (hl.at fun o e => hk l o nl e) (ht.at fun o e => hk t o nt e) (fun b o hb e => hk b o (fun q => hb (by rw [q]; simp)) e) hS₁ rfl rfl
     ⟨List.Pairwise.nil, (fun _ ha => nomatch ha), (fun j a hj => by simp at hj)⟩ (Nat.le_of_eq hz.symm)
 unfold Builtin.List.listExtendWith
 refine wpAny_bind (wpAny_typeOf (T := "zip") hT ?_)
 have h1 : Builtin.List.listSameRef (.ref S) (.ref z) = false := by simp [Builtin.List.listSameRef, nS.1]
 have h2 : (Value.type "zip" == Value.type "list") = false := by decide
 have h3 : (Value.type "zip" == Value.type "tuple") = false := by decide
 simp only [h1, h2, h3, Bool.or_false, Bool.false_eq_true, if_false]
 refine wpAny_bind (wpAny_pyIter_zip hz0 ?_)
 refine wpAny_bind (wpAny_holding ?_)
 unfold Builtin.List.listLengthHint
 refine wpAny_bind (wpAny_specialOf hT qq ?_)
 show wpAny _ A.in1 (specialOf (Value.ref z) (Str.ofString "__length_hint__") >>= _) _ _ _
 refine wpAny_bind (wpAny_specialOf hT oW ?_)
 refine wpAny_pure ?_
 refine wpAny_ite_split (fun _ => ?_) (fun _ => wpAny_pure ⟨plainId_quiet PySem.F.plain_extend_loop _, key _ c₀ _ rfl (fun b o _ e => e) hS⟩)
 refine wpAny_bind (wpAny_rule ?_)
 refine wpAny_bind ?_
 show wpAny _ _ (updateSeq S (·.push .none) >>= fun _ => updateSeq S (·.pop)) _ _ _
 refine wpAny_bind (wpAny_updateSeq hS rfl ?_)
 have hS₂ := Heap.get?_update_self (Obj.mapSeq (·.push Value.none)) hS rfl
 refine wpAny_updateSeq (hz := by seq_fits) hS₂ rfl ?_
 have hS₃ := Heap.get?_update_self (Obj.mapSeq (·.pop)) hS₂ rfl
 refine wpAny_pure ⟨plainId_quiet PySem.F.plain_extend_loop _, key _ _ _ ?_ (fun b o hb e => ?_) hS₃⟩
 · rw [Heap.size_update, Heap.size_update]
 · exact (Heap.get?_update_other _ _ (Ne.symm hb)).trans ((Heap.get?_update_other _ _ (Ne.symm hb)).trans e)
theorem qD (hh : A.handled = none) (D : ZipApart z TI TO i1 i2 l t) (nS : S ≠ z ∧ S ≠ TI ∧ S ≠ TO ∧ S ≠ i1 ∧ S ≠ i2) (nl : l ≠ S) (nt : t ≠ S) (hn : xs.size ≤ sizeLine) (hlen : xs.size = ys.size)
  (Z : eg s.heap z TI TO i1 i2 l t S 0) (hz0 : s.heap.get? z = some (gi .none (.bool false) TI TO)) (hl : s.heap.IsList l xs) (ht : s.heap.IsTuple t ys) (hS : s.heap.get? S = some { cls := .type "list", data := .seq #[] })
  (hR : ∀ h' tk acc c as, (∀ b o, b ∉ [z, TI, TO, i1, i2, S] → s.heap.get? b = some o → h'.get? b = some o) → h'.get? S = some { cls := .type "list", dict := none, data := .seq acc c, slots := #[] } → as.length = xs.size → gK xs ys s.heap.objs.size h' as →
   acc.toList = as.map Value.ref → R (.ok (.ret .none)) { s with heap := h', toks := tk }) :
  wpAny (model prog w) A.in1 (Builtin.«list.__init__» ⟨[.ref S, .ref z], []⟩)
   (fun fin s' => match fin with | .done f => R (.ok f) s' | .again c' => c'.quiet = true ∧ codeAny (model prog w) A c' R s') (fun e s' => R (.error e) s') s := by
 show wpAny _ _ (do let old ← Builtin.List.listItems (.ref S); Builtin.List.listUpdate (.ref S) (fun _ => #[]); letGo old.toList.reverse; Builtin.List.listExtendWith (.ref S) (.ref z) .none) _ _ s
 refine wpAny_bind ?_
 unfold Builtin.List.listItems
 refine wpAny_bind (wpAny_seqItems hS rfl (wpAny_pure ?_))
 show wpAny _ _ (updateSeq S (fun _ => #[]) >>= fun _ => letGo (#[] : Array Value).toList.reverse >>= fun _ => Builtin.List.listExtendWith (.ref S) (.ref z) .none) _ _ s
 refine wpAny_bind (wpAny_updateSeq hS rfl ?_)
 have hS₂ := Heap.get?_update_self (Obj.mapSeq (fun _ => (#[] : Array Value))) hS rfl
 have oth : ∀ b o, b ≠ S → s.heap.get? b = some o → (s.heap.update S (Obj.mapSeq (fun _ => (#[] : Array Value)))).get? b = some o :=
  fun b o hb e => (Heap.get?_update_other _ _ (Ne.symm hb)).trans e
 refine wpAny_bind (wpAny_letGo ?_)
 refine mm (s := { s with heap := s.heap.update S (Obj.mapSeq (fun _ => (#[] : Array Value))) }) hh D nS nl nt hn hlen .none _ (Z.keepS nS oth) (oth _ _ nS.1.symm hz0) (hl.at fun o e => oth l o nl e) (ht.at fun o e => oth t o nt e) hS₂ (fun h' tk acc c as hk hS' hl hG hacc => ?_)
 refine hR h' tk acc c as (fun b o hb e => hk b o hb (oth b o (fun q => hb (by rw [q]; simp)) e)) hS' hl ?_ hacc
 have : (s.heap.update S (Obj.mapSeq (fun _ => (#[] : Array Value)))).objs.size = s.heap.objs.size := Heap.size_update ..
 rw [← this]; exact hG
end
section
variable {prog : Program} {w : World} {A : Around} {E : Value → Shared → Prop} {s : Shared} {xs ys : Array Value} {z TI TO i1 i2 l t : Addr}
theorem pW {Q : Value → Shared → Prop} (hh : A.handled = none) (D : ZipApart z TI TO i1 i2 l t) (hn : xs.size ≤ sizeLine) (hlen : xs.size = ys.size)
   (hz0 : s.heap.get? z = some (gi .none (.bool false) TI TO)) (hTI : IsPair s.heap TI (.ref i1) (.ref i2)) (hTO : ∃ a b, IsPair s.heap TO a b) (j1 : s.heap.IsListIter i1 l 0) (j2 : s.heap.IsTupleIter i2 t 0) (hl : s.heap.IsList l xs) (ht : s.heap.IsTuple t ys)
   (hQ : ∀ h' tk acc c as, (∀ b o, b ∉ [z, TI, TO, i1, i2] → s.heap.get? b = some o → h'.get? b = some o) → h'.get? s.heap.objs.size = some { cls := .type "list", dict := none, data := .seq acc c, slots := #[] } → as.length = xs.size → gK xs ys (s.heap.objs.size + 1) h' as →
     acc.toList = as.map Value.ref → Q (.ref s.heap.objs.size) { s with heap := h', toks := tk }) :
   wpAny (model prog w) A (call (.type "list") [.ref z]) Q E s := by
 refine callType_codes (Q₁ := fun obj s₁ => obj = .ref s.heap.objs.size ∧ s₁ = { s with heap := s.heap.push { cls := .type "list", data := .seq #[] } }) PySem.F.called_list (PySem.F.typeCall_list_1 _) PySem.F.entry_list_init
   (code_list_new _ ⟨rfl, rfl⟩) fun obj s₁ h₁ => ?_
 obtain ⟨rfl, rfl⟩ := h₁
 have hS : (s.heap.push { cls := .type "list", data := .seq #[] }).get? s.heap.objs.size = some { cls := .type "list", data := .seq #[] } := Heap.get?_push_size _ rfl
 have up : ∀ b o, s.heap.get? b = some o → (s.heap.push { cls := .type "list", data := .seq #[] }).get? b = some o := fun b o e => Heap.get?_push_of_some _ e
 obtain ⟨a, b, hTO⟩ := hTO
 have nn : ∀ b o, s.heap.get? b = some o → s.heap.objs.size ≠ b := fun b o e => Nat.ne_of_gt (Heap.lt_size e)
 have nS : s.heap.objs.size ≠ z ∧ s.heap.objs.size ≠ TI ∧ s.heap.objs.size ≠ TO ∧ s.heap.objs.size ≠ i1 ∧ s.heap.objs.size ≠ i2 := by
   obtain ⟨o1, e1, _⟩ := j1
   obtain ⟨o2, e2, _⟩ := j2
   exact ⟨nn _ _ hz0, nn _ _ hTI, nn _ _ hTO, nn _ _ e1, nn _ _ e2⟩
 have nl : l ≠ s.heap.objs.size := by obtain ⟨o, e, _⟩ := hl; exact (nn _ _ e).symm
 have nt : t ≠ s.heap.objs.size := by obtain ⟨o, e, _⟩ := ht; exact (nn _ _ e).symm
 refine ⟨⟨_, hS, rfl⟩, PySem.F.args_list_init_2 _ _, qD (s := { s with heap := s.heap.push { cls := .type "list", data := .seq #[] } }) (A := A.in1) hh D nS nl nt hn hlen
   ⟨.inl ⟨rfl, up _ _ hz0⟩, up _ _ hTI, ⟨a, b, up _ _ hTO⟩, j1.at fun o e => up _ o e, j2.at fun o e => up _ o e⟩ (up _ _ hz0) (hl.at fun o e => up _ o e) (ht.at fun o e => up _ o e) hS (fun h' tk acc c as hk hS' hl hG hacc => ?_)⟩
 refine ⟨rfl, hQ h' tk acc c as (fun b o hb e => hk b o (fun q => ?_) (up b o e)) hS' hl ?_ hacc⟩
 · simp only [List.mem_cons, List.not_mem_nil, or_false] at q hb
   rcases q with q | q | q | q | q | q
   · exact hb (.inl q)
   · exact hb (.inr (.inl q))
   · exact hb (.inr (.inr (.inl q)))
   · exact hb (.inr (.inr (.inr (.inl q))))
   · exact hb (.inr (.inr (.inr (.inr q))))
   · exact nn b o e q.symm
 · have : (s.heap.push { cls := .type "list", data := .seq #[] }).objs.size = s.heap.objs.size + 1 := Heap.size_push ..
   rw [← this]; exact hG
abbrev xo (l : Addr) : Obj := { cls := .type "list_iterator", data := .fields #[.ref l, .int 0 0] }
abbrev zm1 (h : Heap) (t1 : Addr) : Heap := h.push (xo t1)
abbrev zm2 (h : Heap) (t1 t2 : Addr) : Heap := (zm1 h t1).push (itO t2)
abbrev zm3 (h : Heap) (t1 t2 : Addr) : Heap := (zm2 h t1 t2).push { cls := .type "tuple", data := .seq #[.ref h.objs.size, .ref (zm1 h t1).objs.size] }
abbrev zm4 (h : Heap) (t1 t2 : Addr) : Heap := (zm3 h t1 t2).push { cls := .type "tuple", data := .seq #[.none, .none] }
abbrev zm5 (h : Heap) (t1 t2 : Addr) : Heap := (zm4 h t1 t2).push { cls := .type "zip", data := .fields #[.none, .bool false, .bool false, .ref (zm2 h t1 t2).objs.size, .ref (zm3 h t1 t2).objs.size] }
theorem sk (t1 t2 : Addr) (xs ys : Array Value) :
  Meets (Builtin.«zip.__new__» ⟨[.type "zip", .ref t1, .ref t2], []⟩) (fun _ R s => s.heap.IsList t1 xs ∧ s.heap.IsTuple t2 ys ∧ R (.ok (.ret (.ref (zm4 s.heap t1 t2).objs.size))) { s with heap := zm5 s.heap t1 t2 }) :=
 .of_wp fun prog w A R s h => by
  obtain ⟨hp, g, d, tk, os⟩ := s; obtain ⟨hl1, hl2, h⟩ := h
  have hsub := sub_zip
  have hL1 : Heap.IsList (Shared.heap ⟨hp, g, d, tk, os⟩) t1 xs := hl1
  have hL2 : Heap.IsTuple (Shared.heap ⟨hp.push (xo t1), g, d, tk, os⟩) t2 ys := hl2.at fun o e => Heap.get?_push_of_some _ e
  wp_walk using wpAny_pyIter_list hL1, wpAny_pyIter_tuple hL2
  exact ⟨_, rfl, h⟩
theorem qd {t1 t2 : Addr} {Q : Value → Shared → Prop} (hl1 : s.heap.IsList t1 xs) (hl2 : s.heap.IsTuple t2 ys)
  (h : ∀ h', h'.get? (s.heap.objs.size + 4) = some (gi .none (.bool false) (s.heap.objs.size + 2) (s.heap.objs.size + 3)) → IsPair h' (s.heap.objs.size + 2) (.ref s.heap.objs.size) (.ref (s.heap.objs.size + 1)) → (∃ a b, IsPair h' (s.heap.objs.size + 3) a b) →
   h'.IsListIter s.heap.objs.size t1 0 → h'.IsTupleIter (s.heap.objs.size + 1) t2 0 → h'.objs.size = s.heap.objs.size + 5 → (∀ c o, s.heap.get? c = some o → h'.get? c = some o) → Q (.ref (s.heap.objs.size + 4)) { s with heap := h' }) :
  wpAny (model prog w) A (call (.type "zip") [.ref t1, .ref t2]) Q E s := by
 refine callType_new F.called_zip (by decide) (F.typeCall_zip_2 _ _) (F.newCall_zip_2 _ _) (fun obj => F.args_object_init_3 obj _ _) F.entry_zip_new (sk t1 t2 xs ys) ⟨hl1, hl2, ?_⟩
 have z1 : (zm1 s.heap t1).objs.size = s.heap.objs.size + 1 := Heap.size_push ..
 have z2 : (zm2 s.heap t1 t2).objs.size = s.heap.objs.size + 2 := by rw [Heap.size_push, z1]
 have z3 : (zm3 s.heap t1 t2).objs.size = s.heap.objs.size + 3 := by rw [Heap.size_push, z2]
 have z4 : (zm4 s.heap t1 t2).objs.size = s.heap.objs.size + 4 := by rw [Heap.size_push, z3]
 have z5 : (zm5 s.heap t1 t2).objs.size = s.heap.objs.size + 5 := by rw [Heap.size_push, z4]
 have g5 : (zm5 s.heap t1 t2).get? (zm4 s.heap t1 t2).objs.size = some _ := Heap.get?_push_size _ rfl
 have g4 : (zm5 s.heap t1 t2).get? (zm3 s.heap t1 t2).objs.size = some _ := Heap.get?_push_of_some _ (Heap.get?_push_size _ rfl)
 have g3 : (zm5 s.heap t1 t2).get? (zm2 s.heap t1 t2).objs.size = some _ := Heap.get?_push_of_some _ (Heap.get?_push_of_some _ (Heap.get?_push_size _ rfl))
 have g2 : (zm5 s.heap t1 t2).get? (zm1 s.heap t1).objs.size = some _ := Heap.get?_push_of_some _ (Heap.get?_push_of_some _ (Heap.get?_push_of_some _ (Heap.get?_push_size _ rfl)))
 have g1 : (zm5 s.heap t1 t2).get? s.heap.objs.size = some _ := Heap.get?_push_of_some _ (Heap.get?_push_of_some _ (Heap.get?_push_of_some _ (Heap.get?_push_of_some _ (Heap.get?_push_size _ rfl))))
 show _ ∧ _
 rw [z2, z3, z4] at g5
 rw [z1, z2] at g3
 rw [z3] at g4
 rw [z1] at g2
 rw [z4]
 exact ⟨⟨_, g5, rfl⟩, h _ g5 g3 ⟨_, _, g4⟩ ⟨_, g1, rfl, rfl⟩ ⟨_, g2, rfl, rfl⟩ z5 fun c o x => Heap.get?_push_of_some _ (Heap.get?_push_of_some _ (Heap.get?_push_of_some _ (Heap.get?_push_of_some _ (Heap.get?_push_of_some _ x))))⟩
end
end HT
namespace L2
open PySem PySem.Spec PyProof.Rows
section
variable {X : Cx} {pins : List (Addr × Obj)} {σ : St} {H : Hp} {s : Shared} {h' : Heap}
theorem mv {tk : Nat} {us vs : List V} {xs ys : List Value} {lo : Addr} {as : List Addr} (I : Inv X pins σ H s) (k : ∀ b o, s.heap.get? b = some o → h'.get? b = some o) (hlo : s.heap.objs.size ≤ lo) (r1 : ax us xs) (r2 : ax vs ys) (G : HT.gK xs.toArray ys.toArray lo h' as) :
    ∀ n, n ≤ as.length → ∃ H', am H H' ∧ (∀ j a x y, j < n → as[j]? = some a → us[j]? = some x → vs[j]? = some y → H' a = some (.tup [x, y])) ∧ (∀ b, H b = none → b ∉ as.take n → H' b = none) ∧ Inv X pins σ H' { s with heap := h', toks := tk } := by
  intro n
  induction n with
  | zero => intro _; exact ⟨H, am.rfl', fun j a x y h => absurd h (by omega), fun b e _ => e, I.kept (t' := tk) k⟩
  | succ n ih =>
    intro hn
    obtain ⟨H1, S1, t1, f1, I1⟩ := ih (by omega)
    have hlt : n < as.length := hn
    have ea : as[n]? = some as[n] := List.getElem?_eq_getElem hlt
    obtain ⟨x, y, e1, e2, e3⟩ := G.pairs n _ ea
    have hxl : n < xs.length := by have := (Array.getElem?_eq_some_iff.mp e1).1; simpa using this
    have hyl : n < ys.length := by have := (Array.getElem?_eq_some_iff.mp e2).1; simpa using this
    obtain ⟨u, hu⟩ : ∃ u, us[n]? = some u := ⟨_, List.getElem?_eq_getElem (by rw [r1.length]; exact hxl)⟩
    obtain ⟨v, hv⟩ : ∃ v, vs[n]? = some v := ⟨_, List.getElem?_eq_getElem (by rw [r2.length]; exact hyl)⟩
    obtain ⟨x', gx, rx⟩ := r1.get hu
    obtain ⟨y', gy, ry⟩ := r2.get hv
    have ex : x' = x := by have : xs[n]? = some x := by simpa using e1
                           exact Option.some.inj (gx.symm.trans this)
    have ey : y' = y := by have : ys[n]? = some y := by simpa using e2
                           exact Option.some.inj (gy.symm.trans this)
    subst ex ey
    have ge : s.heap.objs.size ≤ as[n] := Nat.le_trans hlo (G.above _ (List.mem_of_getElem? ea))
    have nin : as[n] ∉ as.take n := fun hm => by
      obtain ⟨j, hj⟩ := List.mem_iff_getElem?.mp hm
      have hjn : j < n := by have := (List.getElem?_eq_some_iff.mp hj).1; rw [List.length_take] at this; omega
      rw [List.getElem?_take, if_pos hjn] at hj
      have := List.pairwise_iff_getElem.mp G.rise j n (by omega) hlt hjn
      rw [(List.getElem?_eq_some_iff.mp hj).2] at this
      exact Nat.lt_irrefl _ this
    have hfree : H1 as[n] = none := f1 _ (I.hok.fresh ge) nin
    have I2 : Inv X pins σ (upd H1 as[n] (.tup [u, v])) { s with heap := h', toks := tk } := Inv.track2 I I1 ge hfree ⟨by show 2 ≤ sizeLine; decide, [x', y'], .cons rx (.cons ry .nil), ⟨_, e3, rfl, _, rfl⟩⟩
    refine ⟨_, S1.trans (am.upd hfree), fun j a x y hj ha hx hy => ?_, fun b e hb => ?_, I2⟩
    · rcases Nat.lt_or_eq_of_le (Nat.le_of_lt_succ hj) with h | h
      · exact am.upd hfree _ _ (t1 j a x y h ha hx hy)
      · subst h
        rw [ea] at ha; cases ha
        rw [hu] at hx; cases hx
        rw [hv] at hy; cases hy
        exact af
    · have nb : b ≠ as[n] := fun q => hb (by rw [q]; exact List.mem_iff_getElem?.mpr ⟨n, by rw [List.getElem?_take, if_pos (Nat.lt_succ_self _)]; exact ea⟩)
      rw [ae nb]
      exact f1 b e fun q => hb (by rw [List.take_succ]; exact List.mem_append_left _ q)
def ls (K : W.Frag) : List V → Hp → VK → Prop := fun xs H Q => ∃ c d us vs, xs = [.ref c, .ref d] ∧ SqL K H c us ∧ SqT K H d vs ∧ us.length = vs.length ∧
 ∀ (l : Addr) (ps : List Addr) (H' : Hp), H l = none → am H H' → ps.length = us.length → (∀ (j : Nat) (p : Addr) (x y : V), ps[j]? = some p → us[j]? = some x → vs[j]? = some y → H' p = some (.tup [x, y])) → H' l = some (.lst (ps.map V.ref)) → Q (.ref l) H'
theorem rl {Q : VK} {c d : Addr} {us vs : List V} (hc : X.calm = true) (I : Inv X pins σ H s) (hx : SqL X.K H c us) (hy : SqT X.K H d vs) (hl : us.length = vs.length)
  (q : ∀ (l : Addr) (ps : List Addr) (H' : Hp), H l = none → am H H' → ps.length = us.length → (∀ (j : Nat) (p : Addr) (x y : V), ps[j]? = some p → us[j]? = some x → vs[j]? = some y → H' p = some (.tup [x, y])) → H' l = some (.lst (ps.map V.ref)) → Q (.ref l) H') :
  wpAny (model X.prog X.w) X.A (call (.type "zip") [.ref c, .ref d]) (fun u s2 => wpAny (model X.prog X.w) X.A (call (.type "list") [u]) (EP X pins σ Q) X.xe s2) X.xe s := by
 obtain ⟨its, r1, p1, hz1⟩ := I.list hx
 obtain ⟨its2, r2, p2, _⟩ := I.tuple hy
 have l1 := r1.length
 have l2 := r2.length
 have hL : s.heap.IsList c its.toArray := p1.isList
 have hT : s.heap.IsTuple d its2.toArray := p2
 have lt1 : c < s.heap.objs.size := by obtain ⟨o, e, _⟩ := hL; exact Heap.lt_size e
 have lt2 : d < s.heap.objs.size := by obtain ⟨o, e, _⟩ := hT; exact Heap.lt_size e
 refine HT.qd hL hT fun h1 y1 y2 y3 y4 y5 hsz hk => ?_
 refine HT.pW (s := { s with heap := h1 }) (I.ok.hd hc) (zipApart_new lt1 lt2) (by rw [List.size_toArray]; omega) (by rw [List.size_toArray, List.size_toArray]; omega) y1 y2 y3 y4 y5 (hL.at fun o e => hk _ o e) (hT.at fun o e => hk _ o e) fun h2 tk acc cc as hk2 hS hla hG hacc => ?_
 have hsz1 : ({ s with heap := h1 } : Shared).heap.objs.size = s.heap.objs.size + 5 := hsz
 rw [hsz1] at hS hG ⊢
 have kk : ∀ b o, s.heap.get? b = some o → h2.get? b = some o := fun b o e => hk2 b o (fun z => by
  have hb := Heap.lt_size e
  simp only [List.mem_cons, List.not_mem_nil, or_false] at z
  rcases z with rfl | rfl | rfl | rfl | rfl <;> exact absurd hb (Nat.not_lt.mpr (by first | exact Nat.le_refl _ | exact Nat.le_add_right _ _))) (hk b o e)
 obtain ⟨H', S', tr, fr, I'⟩ := mv (tk := tk) I kk (Nat.le_trans (Nat.le_add_right _ 5) (Nat.le_succ _)) r1 r2 hG as.length (Nat.le_refl _)
 have hSfree : H' (s.heap.objs.size + 5) = none := fr _ (I.hok.fresh (Nat.le_add_right _ _)) fun hm => by
  have := hG.above _ (List.mem_of_mem_take hm)
  exact absurd this (Nat.not_le.mpr (Nat.lt_succ_self _))
 have rr : ax (as.map V.ref) (as.map Value.ref) := by
  clear q tr fr hla hG hacc
  induction as with
  | nil => exact .nil
  | cons a r ih => exact .cons rfl ih
 have hla' : as.length = us.length := by rw [hla, List.size_toArray]; omega
 have I2 : Inv X pins σ (upd H' (s.heap.objs.size + 5) (.lst (as.map V.ref))) { s with heap := h2, toks := tk } := Inv.track2 I I' (Nat.le_add_right _ _) hSfree ⟨by rw [List.length_map, hla']; exact hz1, as.map Value.ref, cc, rr, by rw [hS, ← hacc]⟩
 exact ⟨.ref (s.heap.objs.size + 5), _, I2, rfl, q _ as _ (I.hok.fresh (Nat.le_add_right _ _)) (S'.trans (am.upd hSfree)) hla' (fun j p x y hj hx hy => am.upd hSfree _ _ (tr j p x y (List.getElem?_eq_some_iff.mp hj).1 hj hx hy)) af⟩
end
section
variable {X : Cx} {a b : Expr} {t : TA} {p1 p2 pos1 pos2 : Pos}
theorem pA (hm1 : X.mg "list" = none) (hm2 : X.mg "zip" = none) (hc : X.calm = true) (ha : QA X [a, b] t) (hg1 : Gl X "list" := by rfl) (hg2 : Gl X "zip" := by rfl) (hs : aH [a, b] = true := by rfl) :
  QE X (.Call (.Name "list" p1) [.Call (.Name "zip" p2) [a, b] [] pos2] [] pos1) (tCB (ls X.K) t) := ⟨fun pins s σ H Q I h => by
 have h' : (bj a && aH [b]) = true := hs
 refine wpAny_Call_Name_kw (dg I hg1 hm1 mH ?_ (by decide) (by decide))
 refine PyProof.Rows.callWith_type1 ?_ rfl rfl
 show wpAny _ _ (spliced ((false, eval (.Call (.Name "zip" p2) [a, b] [] pos2) X.env) :: backTo pos1 (starEach [] X.env))) _ _ s
 refine Calls.spliced_cons ?_
 refine wpAny_Call_Name_kw (dg I hg2 hm2 pv ?_ (by decide) (by decide))
 refine PyProof.Rows.callWith_type1 (thn (ha.out pos2 pins s σ H _ I h) fun us s1 ⟨vs, H1, I1, r1, q1⟩ => ?_)
  (aI (Bool.and_eq_true_iff.mp h').1 [b] X.env) (bc (Bool.and_eq_true_iff.mp h').2)
 obtain ⟨c, d, xs, ys, rfl, hx, hy, hl, q⟩ := q1
 obtain ⟨u, w', rfl, ru, rw'⟩ := jr r1
 cases ru
 cases rw'
 refine wpAny_mono (rl hc I1 hx hy hl q) (fun u s2 z => ?_) fun _ _ z => z
 exact Calls.spliced_nil z⟩
end
def sU (K : W.Frag) (a : Addr) (n : Nat) : It where
 go := fun i H => i < n ∧ ∃ xs, SqL K H a xs ∧ xs.length = n
 yld := fun i H x H' => H' = H ∧ ∀ xs, SqL K H a xs → xs[n - 1 - i]? = some x
 stop := fun i _ => n ≤ i
theorem qi {P : Program} {w : World} {K : W.Frag} {tg : Expr} (a it : Addr) (n : Nat) : fx P w K tg (sU K a n) [it] it (fun i h => i ≤ n ∧ h.IsRevIter it a ((n : Int) - 1 - i)) where
 mem := by simp
 obj := fun i h st b hb => by
  have e : b = it := by simpa using hb
  subst e
  obtain ⟨_, o, e, c, d⟩ := st
  exact ⟨o, e, fun v z => by rw [d] at z; cases z⟩
 keep := fun i h h' st k => ⟨st.1, st.2.at fun o e => k it (by simp) o e⟩
 item := by
  intro X hP hw hK hc i pins s σ H E I hf st hg
  subst hP hw hK
  obtain ⟨hi, xs, hq, hl⟩ := hg
  obtain ⟨its, rv, p, hz⟩ := I.list hq
  obtain ⟨x, hx⟩ : ∃ x, xs[n - 1 - i]? = some x := ⟨_, List.getElem?_eq_getElem (by omega)⟩
  obtain ⟨u, hu, ru⟩ := rv.get hx
  obtain ⟨f0, f1, f2, f3, f4, f5⟩ := hf it (by simp)
  have st2 := st.2
  rw [show (n : Int) - 1 - i = ((n - 1 - i : Nat) : Int) by omega] at st2
  refine wpAny_pyNext_rev_item st2 p.isList (x := u) (by simpa using hu) fun h' st' sb => ?_
  have I1 : Inv X pins σ H { s with heap := h' } := I.turned (t' := s.toks) (fun b o hb e => (sb.2 b hb).trans e) f0 f1 f3 f4 f5
  obtain ⟨o, e1, c, d⟩ := id st'
  refine ⟨u, rfl, gs (s := { s with heap := h' }) e1 c d (by decide) ⟨x, H, I1, ru, ⟨rfl, fun ys hy => by rw [I.list_inj hy hq]; exact hx⟩, ⟨hi, ?_⟩, fun b hb => (hf b hb).1⟩⟩
  rw [show (n : Int) - 1 - ((i + 1 : Nat) : Int) = ((n - 1 - i : Nat) : Int) - 1 by omega]; exact st'
 done := by
  intro X hP hw hK hc i pins s σ H E I hf st hg
  subst hP hw hK
  obtain ⟨f0, f1, f2, f3, f4, f5⟩ := hf it (by simp)
  have hg : n ≤ i := hg
  have hi := st.1
  have st2 := st.2
  rw [show (n : Int) - 1 - i = -1 by omega] at st2
  exact wpAny_pyNext_rev_end (I.ok.hd hc) st2 fun h' eb => ⟨rfl, I.turned (t' := s.toks) (fun b o hb e => eb b o hb e) f0 f1 f3 f4 f5⟩
 self := fun _ _ _ _ _ st h => wpAny_pyIter_revIter st.2 h
theorem cg.revL {K : W.Frag} {a : Addr} {xs : List V} (d : V) : cg (sU K a xs.length) xs.length (fun i => xs.reverse.getD i d) (fun H => SqL K H a xs) where
 go := fun i H hi h => ⟨hi, xs, h, rfl⟩
 yld := fun i H x H' hi h y => ⟨y.1, by rw [List.getD_eq_getElem?_getD, List.getElem?_reverse hi, y.2 xs h]; rfl⟩
 stop := fun H h => Nat.le_refl _
section
variable {X : Cx} {a : Expr} {t : TA} {p pos : Pos} {tg : Expr}
def uB (K : W.Frag) (t : TA) : TI := fun σ H R => t σ H fun vs H1 => ∃ c xs, vs = [.ref c] ∧ ((SqL K H1 c xs ∧ R (sU K c xs.length) H1) ∨ (SqT K H1 c xs ∧ R (wV K c xs) H1))
theorem vX (hm : X.mg "reversed" = none) (ha : QA X [a] t) (hg : Gl X "reversed" := by rfl) (hs : aH [a] = true := by rfl) : QI X tg (.Call (.Name "reversed" p) [a] [] pos) (uB X.K t) := ⟨fun pins s σ H R I h => by
 have h' : (bj a && aH []) = true := hs
 refine wpAny_Call_Name_kw (dg I hg hm il ?_ (by decide) (by decide))
 refine PyProof.Rows.callWith_type1 (thn (ha.out pos pins s σ H _ I h) fun us s1 ⟨vs, H1, I1, r1, q1⟩ => ?_)
   (aI (Bool.and_eq_true_iff.mp h').1 [] X.env) (bc (Bool.and_eq_true_iff.mp h').2)
 obtain ⟨c, xs, rfl, q1⟩ := q1
 obtain ⟨u, rfl, ru⟩ := fA r1
 cases ru
 rcases q1 with ⟨hq, q⟩ | ⟨hq, q⟩
 · obtain ⟨its, rv, p, hz⟩ := I1.list hq
   have hl := rv.length
   refine call_reversed_list p.isList ?_
   have st : (s1.heap.push (revObj c ((its.toArray.size : Int) - 1))).IsRevIter s1.heap.objs.size c ((xs.length : Int) - 1 - ((0 : Nat) : Int)) := by
    refine ⟨_, Heap.get?_push_size _ rfl, rfl, ?_⟩
    have e : (xs.length : Int) - 1 - ((0 : Nat) : Int) = (its.toArray.size : Int) - 1 := by rw [List.size_toArray]; omega
    rw [e]; rfl
   refine wpAny_pyIter_revIter (s := { s1 with heap := s1.heap.push (revObj c ((its.toArray.size : Int) - 1)) }) st ?_
   refine ⟨s1.heap.objs.size, [s1.heap.objs.size], _, _, H1, rfl, I1.kept (t' := s1.toks) fun b o e => Heap.get?_push_of_some _ e, qi c _ xs.length, ⟨Nat.zero_le _, st⟩, fun b hb => ?_, q⟩
   have e : b = s1.heap.objs.size := by simpa using hb
   subst e
   exact I1.fpOk (Nat.le_refl _) (I1.hok.fresh (Nat.le_refl _))
 · obtain ⟨its, rv, p, hz⟩ := I1.tuple hq
   have hl := rv.length
   refine HT.gF (show IsTup s1.heap c its.toArray from p) (by rw [List.size_toArray]; rw [sizeLine_eq] at hz; omega) ?_
   have st : HT.fB (s1.heap.push (HT.ly c ((its.toArray.size : Int) - 1))) s1.heap.objs.size c ((xs.length : Int) - 1 - ((0 : Nat) : Int)) := by
    show (s1.heap.push _).get? _ = _
    have e : (xs.length : Int) - 1 - ((0 : Nat) : Int) = (its.toArray.size : Int) - 1 := by rw [List.size_toArray]; omega
    rw [e]
    exact Heap.get?_push_size _ rfl
   refine HT.ma (s := { s1 with heap := s1.heap.push (HT.ly c ((its.toArray.size : Int) - 1)), toks := s1.toks + 1 + 1 }) st ?_
   refine ⟨s1.heap.objs.size, [s1.heap.objs.size], _, _, H1, rfl, I1.kept (t' := s1.toks + 1 + 1) fun b o e => Heap.get?_push_of_some _ e, rq c _ xs, ⟨Nat.zero_le _, st⟩, fun b hb => ?_, q⟩
   have e : b = s1.heap.objs.size := by simpa using hb
   subst e
   exact I1.fpOk (Nat.le_refl _) (I1.hok.fresh (Nat.le_refl _))⟩
end
end L2
namespace Rs
open PySem PySem.Spec PyProof.Rows L2
def et (s : Stmt) (j : Nat) : Stmt := match s with
 | .ClassDef _ _ _ b _ _ _ _ _ _ _ => b.getD j (.Pass ⟨0, 0, 0, 0⟩)
 | _ => .Pass ⟨0, 0, 0, 0⟩
def top (i : Nat) : Stmt := PySem.Challenge.pw_rootstamp_k43_papers_of_places.main.body.getD i (.Pass ⟨0, 0, 0, 0⟩)
abbrev sQ : Stmt := top 11
abbrev tD : Stmt := top 12
abbrev si : Stmt := top 13
abbrev rz : Stmt := top 15
abbrev rX : Stmt := top 14
abbrev s_1 : Stmt := et (top 33) 1
abbrev iG : Stmt := top 34
abbrev s_0 : Stmt := et (top 33) 0
abbrev iD : Stmt := top 35
abbrev iI : Stmt := top 41
abbrev iB : Stmt := top 42
abbrev sm : Stmt := top 43
abbrev qU : Stmt := top 37
abbrev rc : Stmt := top 39
abbrev tR : Stmt := top 40
abbrev s_2 : Stmt := et (top 25) 0
abbrev s_3 : Stmt := et (top 25) 1
abbrev sO : Stmt := top 19
abbrev rH : Stmt := top 20
abbrev s_6 : Stmt := et (top 25) 2
abbrev s_4 : Stmt := et (top 25) 3
abbrev tu : Stmt := top 17
abbrev sr : Stmt := top 18
abbrev s_8 : Stmt := et (top 25) 11
abbrev s_7 : Stmt := et (top 25) 10
abbrev s_5 : Stmt := et (top 25) 7
abbrev s_9 : Stmt := et (top 25) 12
abbrev tz : Stmt := top 38
abbrev tH : Stmt := top 46
abbrev tG : Stmt := top 47
abbrev tP : Stmt := top 44
abbrev rB : Stmt := top 45
abbrev rj : Stmt := top 23
abbrev sX : Stmt := top 24
abbrev tK : Stmt := top 21
abbrev rn : Stmt := top 28
abbrev tM : Stmt := top 27
abbrev sh : Stmt := top 29
abbrev sD : Stmt := top 30
abbrev qT : Stmt := top 31
abbrev sV : Stmt := top 48
abbrev rT : Stmt := top 49
def sAt (i : Nat) (l : List Stmt) : Stmt := l.getD i (.Pass ⟨0, 0, 0, 0⟩)
def xG : Stmt → Expr | .Return (some e) _ => e | .Assign _ e _ => e | .Expr e _ => e | _ => .Constant .none 0 ⟨0, 0, 0, 0⟩
def hJ : Expr → Expr | .Lambda _ b _ _ => b | e => e
def mi : Expr → Scope | .Lambda _ _ sc _ => sc | _ => { kind := .function, names := [], isGenerator := false, isCoroutine := false }
abbrev sK : Expr := (xG (sAt 0 (aK iG)))
def eC : cD := ⟨(("writing" : Str) ++ ".<locals>.") ++ "<lambda>", .expr (hJ sK), mi sK, ["term"], []⟩
abbrev so : Expr := (xG (sAt 1 (aK iD)))
def eS : cD := ⟨(("counting" : Str) ++ ".<locals>.") ++ "<lambda>", .expr (hJ so), mi so, ["term"], ["numbers"]⟩
abbrev rO : Stmt := (sAt 1 (aK iI))
def eU : cD := ⟨(("_law_sure" : Str) ++ ".<locals>.") ++ "_law_stamp", .stmts (aK rO), ak rO, ["_law_term"], ["_law_step", "_law_known"]⟩
abbrev rM : Stmt := (sAt 0 (aK iB))
def eV : cD := ⟨(("_law_weak" : Str) ++ ".<locals>.") ++ "_law_stamp", .stmts (aK rM), ak rM, ["_law_term"], ["_law_many"]⟩
set_option genInjectivity false in
set_option genSizeOf false in
abbrev Rd (sp : Sp) (t : TS) (N : List Str) : Prop := ∀ (vs : List V) (H : Hp) (Q : VK) (E : XK), sp vs H Q E → t { nx := fun _ H' => Q .non H', rt := Q } (L2.bY N vs) H
abbrev Ln (sp : Sp) (n : Nat) : Prop := ∀ vs H Q E, sp vs H Q E → vs.length = n
structure Adr where
 a_35 : Addr
 d_35 : FuncData
 a_33 : Addr
 d_33 : FuncData
 a_34 : Addr
 d_34 : FuncData
 a_38 : Addr
 d_38 : FuncData
 a_45 : Addr
 d_45 : FuncData
 a_1 : Addr
 d_1 : FuncData
 a_43 : Addr
 d_43 : FuncData
 a_0 : Addr
 d_0 : FuncData
 a_26 : Addr
 d_26 : FuncData
 a_17 : Addr
 d_17 : FuncData
 a_21 : Addr
 d_21 : FuncData
 a_16 : Addr
 d_16 : FuncData
 a_10 : Addr
 d_10 : FuncData
 a_19 : Addr
 d_19 : FuncData
 a_15 : Addr
 d_15 : FuncData
 a_2 : Addr
 d_2 : FuncData
 a_3 : Addr
 d_3 : FuncData
 a_29 : Addr
 d_29 : FuncData
 a_31 : Addr
 d_31 : FuncData
 a_6 : Addr
 d_6 : FuncData
 a_4 : Addr
 d_4 : FuncData
 a_28 : Addr
 d_28 : FuncData
 a_42 : Addr
 d_42 : FuncData
 a_8 : Addr
 d_8 : FuncData
 a_7 : Addr
 d_7 : FuncData
 a_5 : Addr
 d_5 : FuncData
 a_9 : Addr
 d_9 : FuncData
 a_23 : Addr
 d_23 : FuncData
 a_14 : Addr
 d_14 : FuncData
 a_13 : Addr
 d_13 : FuncData
 a_20 : Addr
 d_20 : FuncData
 a_11 : Addr
 d_11 : FuncData
 a_30 : Addr
 d_30 : FuncData
 a_25 : Addr
 d_25 : FuncData
 a_24 : Addr
 d_24 : FuncData
 a_32 : Addr
 d_32 : FuncData
 a_36 : Addr
 d_36 : FuncData
 a_41 : Addr
 d_41 : FuncData
 a_40 : Addr
 d_40 : FuncData
 a_39 : Addr
 d_39 : FuncData
 a_12 : Addr
 d_12 : FuncData
 a_37 : Addr
 d_37 : FuncData
 k_43 : Addr
 t_43 : Addr
 k_26 : Addr
 t_26 : Addr
 k_17 : Addr
 t_17 : Addr
 k_21 : Addr
 t_21 : Addr
 c_Numbers : Addr
 c_Row : Addr
set_option genInjectivity false in
set_option genSizeOf false in
structure Txt (K : W.Frag) (mg : Str → Option Value) (A : Adr) : Prop where
 f_35 : Fm K mg "is_whole" "is_whole" sQ A.a_35 A.d_35 ["thing"]
 f_33 : Fm K mg "is_stamp" "is_stamp" tD A.a_33 A.d_33 ["thing"]
 f_34 : Fm K mg "is_term" "is_term" si A.a_34 A.d_34 ["thing"]
 f_38 : Fm K mg "part_form" "part_form" rz A.a_38 A.d_38 ["part"]
 f_45 : Fm K mg "written" "written" rX A.a_45 A.d_45 ["term"]
 f_1 : Fun K "number_of" "Numbers.number_of" s_1 A.a_1 A.d_1
 b_1 : bu K A.d_1 ["self", "term"] []
 f_43 : Fm K mg "writing" "writing" iG A.a_43 A.d_43 []
 f_0 : Fun K "__init__" "Numbers.__init__" s_0 A.a_0 A.d_0
 b_0 : bu K A.d_0 ["self"] []
 f_26 : Fm K mg "counting" "counting" iD A.a_26 A.d_26 []
 f_17 : Fm K mg "_law_sure" "_law_sure" iI A.a_17 A.d_17 ["_law_step"]
 f_21 : Fm K mg "_law_weak" "_law_weak" iB A.a_21 A.d_21 ["_law_many"]
 f_16 : Fm K mg "_law_stamper" "_law_stamper" sm A.a_16 A.d_16 ["_law_cell"]
 f_10 : Fm K mg "_law_cell_at" "_law_cell_at" qU A.a_10 A.d_10 ["_law_script", "_law_k"]
 f_19 : Fm K mg "_law_text_by" "_law_text_by" rc A.a_19 A.d_19 ["_law_cell"]
 f_15 : Fm K mg "_law_stamp_by" "_law_stamp_by" tR A.a_15 A.d_15 ["_law_cell"]
 f_2 : Fun K "__init__" "Row.__init__" s_2 A.a_2 A.d_2
 b_2 : bu K A.d_2 ["self", "stamper"] []
 f_3 : Fun K "add" "Row.add" s_3 A.a_3 A.d_3
 b_3 : bu K A.d_3 ["self", "entry"] []
 f_29 : Fm K mg "is_count" "is_count" sO A.a_29 A.d_29 ["thing"]
 f_31 : Fm K mg "is_place" "is_place" rH A.a_31 A.d_31 ["count", "place"]
 f_6 : Fun K "size" "Row.size" s_6 A.a_6 A.d_6
 b_6 : bu K A.d_6 ["self"] []
 f_4 : Fun K "has_place" "Row.has_place" s_4 A.a_4 A.d_4
 b_4 : bu K A.d_4 ["self", "count", "place"] []
 f_28 : Fm K mg "half" "half" tu A.a_28 A.d_28 ["many"]
 f_42 : Fm K mg "ways" "ways" sr A.a_42 A.d_42 ["place", "many"]
 f_8 : Fun K "top_term" "Row.top_term" s_8 A.a_8 A.d_8
 b_8 : bu K A.d_8 ["self", "first", "many"] []
 f_7 : Fun K "top_of" "Row.top_of" s_7 A.a_7 A.d_7
 b_7 : bu K A.d_7 ["self", "first", "many"] []
 f_5 : Fun K "place_paper" "Row.place_paper" s_5 A.a_5 A.d_5
 b_5 : bu K A.d_5 ["self", "count", "place"] []
 f_9 : Fun K "twin" "Row.twin" s_9 A.a_9 A.d_9
 b_9 : bu K A.d_9 ["self"] []
 f_23 : Fm K mg "_law_whole" "_law_whole" tz A.a_23 A.d_23 ["_law_found"]
 f_14 : Fm K mg "_law_same" "_law_same" tH A.a_14 A.d_14 ["_law_found", "_law_due_here"]
 f_13 : Fm K mg "_law_is_paper" "_law_is_paper" tG A.a_13 A.d_13 ["_law_found", "_law_due_here"]
 f_20 : Fm K mg "_law_top" "_law_top" tP A.a_20 A.d_20 ["_law_stamper_here", "_law_entries"]
 f_11 : Fm K mg "_law_due" "_law_due" rB A.a_11 A.d_11 ["_law_stamper_here", "_law_entries", "_law_place"]
 f_30 : Fm K mg "is_head" "is_head" rj A.a_30 A.d_30 ["thing"]
 f_25 : Fm K mg "check_head" "check_head" sX A.a_25 A.d_25 ["thing"]
 f_24 : Fm K mg "are_marks" "are_marks" tK A.a_24 A.d_24 ["many", "thing"]
 f_32 : Fm K mg "is_place_paper" "is_place_paper" rn A.a_32 A.d_32 ["turns", "thing"]
 f_36 : Fm K mg "joint" "joint" tM A.a_36 A.d_36 ["turn", "own", "aside"]
 f_41 : Fm K mg "place_terms" "place_terms" sh A.a_41 A.d_41 ["stamper", "count", "place", "paper"]
 f_40 : Fm K mg "place_mark" "place_mark" sD A.a_40 A.d_40 ["stamper", "count", "place", "paper"]
 f_39 : Fm K mg "place_answer" "place_answer" qT A.a_39 A.d_39 ["stamper", "head", "place", "paper"]
 f_12 : Fm K mg "_law_good" "_law_good" sV A.a_12 A.d_12 ["_law_stamper_here", "_law_row", "_law_entries", "_law_place"]
 f_37 : Fm K mg "law" "law" rT A.a_37 A.d_37 ["_law_script"]
 z_all : mg "all" = none
 z_bool : mg "bool" = none
 z_int : mg "int" = none
 z_isinstance : mg "isinstance" = none
 z_len : mg "len" = none
 z_list : mg "list" = none
 z_range : mg "range" = none
 z_reversed : mg "reversed" = none
 z_str : mg "str" = none
 z_tuple : mg "tuple" = none
 z_zip : mg "zip" = none
 c_MOST_PARTS : ∃ t, mg "MOST_PARTS" = some (.int 8 t)
 kc_43 : A.d_43.code = .ref A.k_43
 kc_26 : A.d_26.code = .ref A.k_26
 kc_17 : A.d_17.code = .ref A.k_17
 kc_21 : A.d_21.code = .ref A.k_21
 mc_Numbers : mg "Numbers" = some (.ref A.c_Numbers)
 cl_Numbers : Cls K A.c_Numbers
 na_Numbers_given : cY K A.c_Numbers "given"
 mc_Row : mg "Row" = some (.ref A.c_Row)
 cl_Row : Cls K A.c_Row
 na_Row_stamper : cY K A.c_Row "stamper"
 na_Row_entries : cY K A.c_Row "entries"
 na_Row_tops : cY K A.c_Row "tops"
 me_Row_size : ft K A.c_Row "size" A.a_6
 me_Row_top_of : ft K A.c_Row "top_of" A.a_7
 me_Row_top_term : ft K A.c_Row "top_term" A.a_8
 me_Row_has_place : ft K A.c_Row "has_place" A.a_4
 me_Row_place_paper : ft K A.c_Row "place_paper" A.a_5
 me_Row_add : ft K A.c_Row "add" A.a_3
 me_Row_twin : ft K A.c_Row "twin" A.a_9
 me_Numbers_number_of : ft K A.c_Numbers "number_of" A.a_1
 mk_Numbers : Mk K A.c_Numbers A.a_0
 mk_Row : Mk K A.c_Row A.a_2
def uq (A : Adr) (H : Hp) : Prop := H A.t_43 = some (.tbl #[]) ∧ H A.t_26 = some (.tbl #[]) ∧ H A.t_17 = some (.tbl #[]) ∧ H A.t_21 = some (.tbl #[]) ∧ ([A.t_43, A.t_26, A.t_17, A.t_21] : List Addr).Nodup
theorem yX : dB ["term"] ["term"] [] eC.scope := ⟨rfl, rfl, rfl, by decide +kernel, rfl, rfl, by decide +kernel, by decide +kernel, by decide +kernel, by decide +kernel, by decide +kernel⟩
theorem AR : dB ["term", "numbers"] ["term"] ["numbers"] eS.scope := ⟨rfl, rfl, rfl, by decide +kernel, rfl, rfl, by decide +kernel, by decide +kernel, by decide +kernel, by decide +kernel, by decide +kernel⟩
theorem yB : dB ["_law_term", "_law_step", "_law_known"] ["_law_term"] ["_law_step", "_law_known"] eU.scope := ⟨rfl, rfl, rfl, by decide +kernel, rfl, rfl, by decide +kernel, by decide +kernel, by decide +kernel, by decide +kernel, by decide +kernel⟩
theorem iP : dB ["_law_term", "_law_total", "_law_part", "_law_many"] ["_law_term"] ["_law_many"] eV.scope := ⟨rfl, rfl, rfl, by decide +kernel, rfl, rfl, by decide +kernel, by decide +kernel, by decide +kernel, by decide +kernel, by decide +kernel⟩
theorem yt : aw ["thing"] ["thing"] (ak sQ) := scF
theorem Ap : aw ["thing"] ["thing"] (ak tD) := scF
theorem yJ : aw ["thing"] ["thing"] (ak si) := scF
theorem ul : aw ["part", "signs"] ["part"] (ak rz) := scF
theorem Aw : aw ["term"] ["term"] (ak rX) := scF
theorem Bd : aw ["self", "term"] ["self", "term"] (ak s_1) := scF
theorem At : aw [] [] (ak iG) := scF
theorem BO : aw ["self"] ["self"] (ak s_0) := scF
theorem tZ : aw ["numbers"] [] (ak iD) := scF
theorem oq : aw ["_law_step", "_law_known", "_law_stamp"] ["_law_step"] (ak iI) := scF
theorem uu : aw ["_law_many", "_law_stamp"] ["_law_many"] (ak iB) := scF
theorem zY : aw ["_law_cell"] ["_law_cell"] (ak sm) := scF
theorem As : aw ["_law_script", "_law_k"] ["_law_script", "_law_k"] (ak qU) := scF
theorem ny : aw ["_law_cell", "_law_some"] ["_law_cell"] (ak rc) := scF
theorem zN : aw ["_law_cell"] ["_law_cell"] (ak tR) := scF
theorem BD : aw ["self", "stamper"] ["self", "stamper"] (ak s_2) := scF
theorem Cg : aw ["self", "entry"] ["self", "entry"] (ak s_3) := scF
theorem zG : aw ["thing"] ["thing"] (ak sO) := scF
theorem zd : aw ["count", "place"] ["count", "place"] (ak rH) := scF
theorem Cc : aw ["self"] ["self"] (ak s_6) := scF
theorem Bi : aw ["self", "count", "place"] ["self", "count", "place"] (ak s_4) := scF
theorem Au : aw ["many"] ["many"] (ak tu) := scF
theorem fz : aw ["place", "many", "turns", "first", "rest", "ahead"] ["place", "many"] (ak sr) := scF
theorem vR : aw ["self", "first", "many", "ahead"] ["self", "first", "many"] (ak s_8) := scF
theorem vU : aw ["self", "first", "many", "part"] ["self", "first", "many"] (ak s_7) := scF
theorem gd : aw ["self", "count", "place", "marks", "first", "many", "turn", "ahead"] ["self", "count", "place"] (ak s_5) := scF
theorem wn : aw ["self", "other"] ["self"] (ak s_9) := scF
theorem zP : aw ["_law_found"] ["_law_found"] (ak tz) := scF
theorem zF : aw ["_law_found", "_law_due_here"] ["_law_found", "_law_due_here"] (ak tH) := scF
theorem ux : aw ["_law_found", "_law_due_here", "_law_one", "_law_other"] ["_law_found", "_law_due_here"] (ak tG) := scF
theorem eQ : aw ["_law_stamper_here", "_law_entries", "_law_peaks", "_law_entry", "_law_many", "_law_top_here"] ["_law_stamper_here", "_law_entries"] (ak tP) := scF
theorem fG : aw ["_law_stamper_here", "_law_entries", "_law_place", "_law_marks", "_law_low", "_law_high", "_law_cut"] ["_law_stamper_here", "_law_entries", "_law_place"] (ak rB) := scF
theorem ze : aw ["thing"] ["thing"] (ak rj) := scF
theorem zB : aw ["thing"] ["thing"] (ak sX) := scF
theorem zj : aw ["many", "thing"] ["many", "thing"] (ak tK) := scF
theorem zK : aw ["turns", "thing"] ["turns", "thing"] (ak rn) := scF
theorem Ad : aw ["turn", "own", "aside"] ["turn", "own", "aside"] (ak tM) := scF
theorem lj : aw ["stamper", "count", "place", "paper", "turns", "terms", "step"] ["stamper", "count", "place", "paper"] (ak sh) := scF
theorem zv : aw ["stamper", "count", "place", "paper"] ["stamper", "count", "place", "paper"] (ak sD) := scF
theorem uf : aw ["stamper", "head", "place", "paper", "came"] ["stamper", "head", "place", "paper"] (ak qT) := scF
theorem kN : aw ["_law_stamper_here", "_law_row", "_law_entries", "_law_place", "_law_count", "_law_found", "_law_mark"] ["_law_stamper_here", "_law_row", "_law_entries", "_law_place"] (ak sV) := scF
theorem dn : aw ["_law_script", "_law_stamper_here", "_law_entries", "_law_cut", "_law_row", "_law_entry", "_law_early", "_law_twin", "_law_others", "_law_other", "_law_k", "_law_count", "_law_place"] ["_law_script"] (ak rT) := scF
end Rs
namespace Rs
open PySem PySem.Spec PyProof.Rows L2
inductive Dat where
 | non
 | bl (b : Bool)
 | int (i : Int)
 | str (z : Str)
 | lst (ds : List Dat)
 | tup (ds : List Dat)
 | dic
mutual
inductive dh (H : Hp) : V → Dat → Prop
 | non : dh H .non .non
 | bl (b) : dh H (.bl b) (.bl b)
 | int (i) : dh H (.int i) (.int i)
 | str (z) : dh H (.str z) (.str z)
 | lst {a xs ds} : H a = some (.lst xs) → DatWs H xs ds → dh H (.ref a) (.lst ds)
 | tup {a xs ds} : H a = some (.tup xs) → DatWs H xs ds → dh H (.ref a) (.tup ds)
 | dic {a} : ((∃ kvs, H a = some (.dK kvs)) ∨ ∃ kvs, H a = some (.dT kvs)) → dh H (.ref a) .dic
inductive DatWs (H : Hp) : List V → List Dat → Prop
 | nil : DatWs H [] []
 | cons {x xs d ds} : dh H x d → DatWs H xs ds → DatWs H (x :: xs) (d :: ds)
end
mutual
def BP : Dat → PyData
 | .non => .none
 | .bl b => .bool b
 | .int i => .int i
 | .str z => .str z
 | .lst ds => .list (toPys ds)
 | .tup ds => .tuple (toPys ds)
 | .dic => .none
def toPys : List Dat → List PyData
 | [] => []
 | d :: r => BP d :: toPys r
end
def bU (z : Str) : Bool := z.cps.all (· < 128)
mutual
def okD : Dat → Bool
 | .str z => bU z && decide (z.length ≤ 100000)
 | .lst ds => okDs ds
 | .tup ds => okDs ds
 | .dic => false
 | .non => true
 | .bl _ => true
 | .int _ => true
def okDs : List Dat → Bool
 | [] => true
 | d :: r => okD d && okDs r
end
def qW : Dat → Bool
 | .int _ => true
 | _ => false
def fg : Dat → Bool
 | .int i => decide (0 ≤ i ∧ i < 10 ^ 60)
 | .str _ => true
 | _ => false
def gl (K : W.Frag) (A : Adr) : Sp := fun vs H Q _ => ∃ v d, vs = [v] ∧ dh H v d ∧ Q (.bl (qW d)) H
def fF (K : W.Frag) (A : Adr) : Sp := fun vs H Q _ => ∃ v d, vs = [v] ∧ dh H v d ∧ Q (.bl (fg d)) H
def jK : Key → Dat
 | .inl i => .int i
 | .inr z => .str z
def szK : Key → Nat
 | .inl _ => 62
 | .inr z => z.length + 62
def okP : Key → Bool
 | .inl i => decide (0 ≤ i ∧ i < 10 ^ 60)
 | .inr z => bU z && decide (z.length ≤ 100000)
def yy : Key → Bool
 | .inr _ => true
 | .inl _ => false
def okT (k : List Key) : Bool := decide (1 ≤ k.length ∧ k.length ≤ 8) && (k.head?.map yy).getD false && k.all okP
def szT (k : List Key) : Nat := (k.map szK).sum
def lW (k : List Key) : Key → Prop
 | .inl i => 0 ≤ i ∧ i < 10 ^ 60
 | .inr z => bU z = true ∧ z.length ≤ szT k
def dz : Key → Str
 | .inl i => toString i ++ ";"
 | .inr z => toString (z.length : Int) ++ ":" ++ z
def eN : List Key → Str
 | [] => Str.empty
 | x :: r => dz x ++ eN r
def nG (H H' : Hp) : Prop := ∀ b o, H b = some o → (∀ ps, o ≠ .tbl ps) → H' b = some o
def aZ (kvs : List (List Key × Key)) : List (List Key × V) := kvs.map fun p => (p.1, kV p.2)
def bF (kvs : List (List Key × Key)) (k : List Key) : Option Key := (kvs.find? fun p => decide (p.1 = k)).map (·.2)
def fS : Key → Prop
 | .inl i => 0 ≤ i ∧ i < 10 ^ 60
 | .inr z => bU z = true ∧ z.length ≤ 62
def eK (kvs : List (List Key × Key)) : Prop := ∀ p ∈ kvs, fS p.2
structure eO (A : Adr) (H : Hp) (x d : Addr) (kvs : List (List Key × V)) : Prop where
 ob : ∃ dx, H x = some (.ins A.c_Numbers dx [("given", .ref d)])
 di : H d = some (.dT kvs)
def jh (t : Int) : Key → Int
 | .inr z => 2 * t + z.length
 | .inl i => 2 * t + i
def oa (m : Int) (k : List Key) : Key := .inl (k.foldl jh k.length % m)
def aD (b : Addr) (H H' : Hp) : Prop := ∀ x o, x ≠ b → H x = some o → H' x = some o
inductive Stp (A : Adr) (H : Hp) (f b : Addr) (g : List Key → Option Key) (n : Nat) : Prop
 | wri (hc : cQ H f eC [] []) (hb : b = f) (hg : g = fun k => some (.inr (eN k)))
 | cnt (q x : Addr) (kvs : List (List Key × Key)) (hc : cQ H f eS [q] [.ref x]) (num : eO A H x b (aZ kvs)) (hl : kvs.length ≤ n) (hs : eK kvs) (hg : g = bF kvs)
 | sur (q0 q1 : Addr) (j : Int) (h0 : 0 ≤ j) (h1 : j < 1000) (kvs : List (List Key × Key)) (hc : cQ H f eU [q0, q1] [.int j, .ref b]) (hb : H b = some (.dT (aZ kvs))) (hl : kvs.length ≤ n) (hs : eK kvs) (hg : g = bF kvs)
 | wea (q : Addr) (m : Int) (h1 : 1 ≤ m) (h2 : m ≤ 9) (hc : cQ H f eV [q] [.int m]) (hb : b = f) (hg : g = fun k => some (oa m k))
def Sub (g g' : List Key → Option Key) : Prop := ∀ k v, g k = some v → g' k = some v
def Ext (g : List Key → Option Key) (h : List Key → Key) : Prop := ∀ k v, g k = some v → h k = v
def iT (K : W.Frag) (A : Adr) : Sp := fun vs H Q _ => ∃ (p : Addr) (k : List Key), vs = [.ref p] ∧ H p = some (.tup (k.map kV)) ∧ okT k = true ∧ ∀ H', am H H' → Q (.bl true) H'
def ld (K : W.Frag) (A : Adr) : Sp := fun vs H Q _ => ∃ x : Key, vs = [kV x] ∧ okP x = true ∧ Q (.str (dz x)) H
def jb (K : W.Frag) (A : Adr) : Sp := fun vs H Q _ => ∃ (p : Addr) (k : List Key), vs = [.ref p] ∧ H p = some (.tup (k.map kV)) ∧ okT k = true ∧ ∀ H', am H H' → Q (.str (eN k)) H'
def oN (K : W.Frag) (A : Adr) : Sp := jb K A
def gm (kvs : List (List Key × V)) (kk : List Key) (d : V) : V := (bE kvs kk).getD d
def gc (H : Hp) (b : Addr) (kvs : List (List Key × V)) (kk : List Key) (d : V) : Hp := if (bE kvs kk).isSome = true then H else upd H b (.dT (bx kvs kk d))
def om (K : W.Frag) (A : Adr) : Sp := fun vs H Q _ => ∃ x dx, vs = [.ref x] ∧ H x = some (.ins A.c_Numbers dx []) ∧ ∀ d, H d = none → Q .non (upd (upd H d (.dT [])) x (.ins A.c_Numbers dx [("given", .ref d)]))
def oS (K : W.Frag) (A : Adr) : Sp := fun vs H Q _ => ∃ (x d p : Addr) (kvs : List (List Key × V)) (k : List Key), vs = [.ref x, .ref p] ∧ eO A H x d kvs ∧ kvs.length ≤ 50000 ∧ H p = some (.tup (k.map kV)) ∧ okT k = true ∧ ∀ H', am H H' → Q (gm kvs k (.int kvs.length)) (gc H' d kvs k (.int kvs.length))
def oO (K : W.Frag) (A : Adr) : Sp := fun vs H Q _ => ∃ (x d p : Addr) (kvs : List (List Key × V)) (k : List Key), vs = [.ref p, .ref x] ∧ eO A H x d kvs ∧ kvs.length ≤ 50000 ∧ H p = some (.tup (k.map kV)) ∧ okT k = true ∧ ∀ H', am H H' → Q (gm kvs k (.int kvs.length)) (gc H' d kvs k (.int kvs.length))
def br (P : Addr) (H H' : Hp) : Prop := ∀ b o, H b = some o → b ≠ P → H' b = some o
def ow (K : W.Frag) (A : Adr) : Sp := fun vs H Q _ => ∃ (p b : Addr) (j : Int) (k : List Key) (kvs : List (List Key × V)), vs = [.ref p, .int j, .ref b] ∧ 0 ≤ j ∧ j < 1000 ∧ H p = some (.tup (k.map kV)) ∧ H b = some (.dT kvs) ∧ kvs.length ≤ 50000 ∧ Q (gm kvs k (.int (j * (kvs.length : Int) + 5))) (gc H b kvs k (.int (j * (kvs.length : Int) + 5)))
def oM (K : W.Frag) (A : Adr) : Sp := fun vs H Q _ => ∃ (p : Addr) (m : Int) (k : List Key), vs = [.ref p, .int m] ∧ 1 ≤ m ∧ m ≤ 9 ∧ H p = some (.tup (k.map kV)) ∧ okT k = true ∧ Q (kV (oa m k)) H
def MkQ (A : Adr) (P : Addr) (H : Hp) (Q : VK) : Prop := ∀ (f b : Addr) (g : List Key → Option Key) (H' : Hp), br P H H' → Stp A H' f b g 0 → H b = none → Q (.ref f) H'
def kS (K : W.Frag) (A : Adr) : Sp := fun vs H Q _ => vs = [] ∧ H A.t_43 = some (.tbl #[]) ∧ MkQ A A.t_43 H Q
def kT (K : W.Frag) (A : Adr) : Sp := fun vs H Q _ => vs = [] ∧ H A.t_26 = some (.tbl #[]) ∧ MkQ A A.t_26 H Q
def kZ (K : W.Frag) (A : Adr) : Sp := fun vs H Q _ => ∃ j : Int, vs = [.int j] ∧ 0 ≤ j ∧ j < 1000 ∧ H A.t_17 = some (.tbl #[]) ∧ MkQ A A.t_17 H Q
def kJ (K : W.Frag) (A : Adr) : Sp := fun vs H Q _ => ∃ m : Int, vs = [.int m] ∧ 1 ≤ m ∧ m ≤ 9 ∧ H A.t_21 = some (.tbl #[]) ∧ MkQ A A.t_21 H Q
def kP (K : W.Frag) (A : Adr) : Sp := fun vs H Q _ => ∃ c : Int, vs = [.int c] ∧ uq A H ∧ ∀ (f b : Addr) (g : List Key → Option Key) (H' : Hp), nG H H' → Stp A H' f b g 0 → H b = none → Q (.ref f) H'
def enK (e : Key) : Prop := okP e = true ∧ szK e ≤ 70
def ai (n : Nat) : Nat := 2 ^ Nat.log2 (n - 1)
def fb (h : List Key → Key) : Nat → List Key → List Key
  | 0, _ => [.inr "void"]
  | n + 1, es => match es with
    | [] => [.inr "void"]
    | [e] => [.inr "entry", e]
    | es => [.inr "joint", h (fb h n (es.take (ai es.length))), h (fb h n (es.drop (ai es.length)))]
def cS (h : List Key → Key) (es : List Key) : List Key := fb h es.length es
def szB (m : Nat) : Nat := 400 * (m - 1) + 200
def ej (g : List Key → Option Key) (es : List Key) (kvs : List (List Key × Key)) : Prop := ∀ k v, bF kvs k = some v → ∃ a m : Nat, k = [.inl (a : Int), .inl (m : Int)] ∧ a + m ≤ es.length ∧ okP v = true ∧ szK v ≤ szB m ∧ ∀ h, Ext g h → v = h (cS h ((es.drop a).take m))
structure dq (A : Adr) (H : Hp) (x f L D : Addr) (es : List Key) (kvs : List (List Key × Key)) : Prop where
 ob : ∃ dx, H x = some (.ins A.c_Row dx [("stamper", .ref f), ("entries", .ref L), ("tops", .ref D)])
 hl : H L = some (.lst (es.map kV))
 hd : H D = some (.dT (aZ kvs))
 en : ∀ e ∈ es, enK e
 le : es.length ≤ 60
def aY (b D : Addr) (H H' : Hp) : Prop := ∀ x o, x ≠ b → x ≠ D → H x = some o → H' x = some o
def gT (K : W.Frag) (A : Adr) : Sp := fun vs H Q _ => ∃ m : Nat, vs = [.int (m : Int)] ∧ 2 ≤ m ∧ m ≤ 1000 ∧ Q (.int ((ai m : Nat) : Int)) H
def ji (K : W.Frag) (A : Adr) : Sp := fun vs H Q _ => ∃ i : Int, vs = [.int i] ∧ 0 ≤ i ∧ i ≤ 1000 ∧ Q (.bl true) H
def jp (K : W.Frag) (A : Adr) : Sp := fun vs H Q _ => ∃ c p : Int, vs = [.int c, .int p] ∧ 0 ≤ p ∧ p < c ∧ c ≤ 1000 ∧ Q (.bl true) H
def nI (h : List Key → Key) (es : List Key) : List Key := [.inr "row", .inl (es.length : Int), h (cS h es)]
def iJ (K : W.Frag) (A : Adr) : Sp := fun vs H Q _ => ∃ x dx f, vs = [.ref x, .ref f] ∧ H x = some (.ins A.c_Row dx []) ∧ ∀ (L D : Addr) (H' : Hp), (∀ z o, z ≠ x → H z = some o → H' z = some o) → H L = none → H D = none → L ≠ D → H' x = some (.ins A.c_Row dx [("stamper", .ref f), ("entries", .ref L), ("tops", .ref D)]) → H' L = some (.lst []) → H' D = some (.dT []) → Q .non H'
def gh (K : W.Frag) (A : Adr) : Sp := fun vs H Q _ => ∃ (x f L D : Addr) (es : List Key) (kvs : List (List Key × Key)) (e : Key), vs = [.ref x, kV e] ∧ dq A H x f L D es kvs ∧ enK e ∧ es.length < 60 ∧ Q (.int (es.length : Int)) (upd H L (.lst ((es ++ [e]).map kV)))
def nw (K : W.Frag) (A : Adr) : Sp := fun vs H Q _ => ∃ (x f L D : Addr) (es : List Key) (kvs : List (List Key × Key)), vs = [.ref x] ∧ dq A H x f L D es kvs ∧ Q (.int (es.length : Int)) H
def nV (K : W.Frag) (A : Adr) : Sp := fun vs H Q _ => ∃ (x f L D : Addr) (es : List Key) (kvs : List (List Key × Key)) (c p : Int), vs = [.ref x, .int c, .int p] ∧ dq A H x f L D es kvs ∧ 0 ≤ p ∧ p < c ∧ c ≤ es.length ∧ Q (.bl true) H
structure bZ (A : Adr) (H : Hp) (x f L D b : Addr) (es : List Key) (kvs : List (List Key × Key)) (g : List Key → Option Key) (n : Nat) : Prop where
 r : dq A H x f L D es kvs
 s : Stp A H f b g n
 c : ej g es kvs
 db : D ≠ b
 kl : kvs.length ≤ n
def fJ (K : W.Frag) (A : Adr) (j : Nat) : Sp := fun vs H Q _ => ∃ (x f L D b : Addr) (es : List Key) (kvs : List (List Key × Key)) (g : List Key → Option Key) (n a m : Nat), vs = [.ref x, .int (a : Int), .int (m : Int)] ∧ bZ A H x f L D b es kvs g n ∧ a + m ≤ es.length ∧ m < j ∧ n + 2 * m + 1 ≤ 40000 ∧
 ∀ (v : Key) (kvs' : List (List Key × Key)) (g' : List Key → Option Key) (H' : Hp), aY b D H H' → bZ A H' x f L D b es kvs' g' (n + (2 * (m - 1) + 1)) → Sub g g' → okP v = true → szK v ≤ szB m → (∀ h, Ext g' h → v = h (cS h ((es.drop a).take m))) → Q (kV v) H'
def nv (K : W.Frag) (A : Adr) (j : Nat) : Sp := fun vs H Q _ => ∃ (x f L D b : Addr) (es : List Key) (kvs : List (List Key × Key)) (g : List Key → Option Key) (n a m : Nat), vs = [.ref x, .int (a : Int), .int (m : Int)] ∧ bZ A H x f L D b es kvs g n ∧ a + m ≤ es.length ∧ m ≤ j ∧ n + 2 * m + 1 ≤ 40000 ∧
 ∀ (p : Addr) (k : List Key) (kvs' : List (List Key × Key)) (g' : List Key → Option Key) (H' : Hp), aY b D H H' → bZ A H' x f L D b es kvs' g' (n + 2 * (m - 1)) → Sub g g' → H' p = some (.tup (k.map kV)) → okT k = true → szT k + 62 ≤ szB m → (∀ h, Ext g' h → k = cS h ((es.drop a).take m)) → Q (.ref p) H'
def lF (K : W.Frag) (A : Adr) : Sp := fun vs H Q _ => ∃ (x f L D : Addr) (es : List Key) (kvs : List (List Key × Key)), vs = [.ref x] ∧ dq A H x f L D es kvs ∧ ∀ (x' L' D' : Addr) (H' : Hp), am H H' → H x' = none → H L' = none → H D' = none → dq A H' x' f L' D' es [] → Q (.ref x') H'
def bN (ns : List Int) (k : Int) : Int := ns.getD k.toNat 0
def cI (K : W.Frag) (A : Adr) : Sp := fun vs H Q _ => ∃ (a : Addr) (ns : List Int) (k : Int), vs = [.ref a, .int k] ∧ SqL K H a (ns.map V.int) ∧ 0 ≤ k ∧ Q (.int (bN ns k)) H
def qF : Key → Bool
 | .inl _ => true
 | .inr _ => false
def lg (K : W.Frag) (A : Adr) : Sp := fun vs H Q _ => ∃ x : Key, vs = [kV x] ∧ Q (.bl (qF x)) H
def kM (K : W.Frag) (A : Adr) : Sp := fun vs H Q _ => ∃ c : Int, vs = [.int c] ∧ ∀ (z : Str) (H' : Hp), am H H' → z.length ≤ 4 → bU z = true → Q (.str z) H'
def kR (K : W.Frag) (A : Adr) : Sp := fun vs H Q _ => ∃ c : Int, vs = [.int c] ∧ ∀ (e : Key) (H' : Hp), am H H' → enK e → Q (kV e) H'
def ig (K : W.Frag) (A : Adr) : Sp := fun vs H Q _ => ∃ (f b E : Addr) (es : List Key) (g : List Key → Option Key) (n : Nat), vs = [.ref f, .ref E] ∧ H E = some (.lst (es.map kV)) ∧ (∀ e ∈ es, enK e) ∧ es.length ≤ 60 ∧ 1 ≤ es.length ∧ Stp A H f b g n ∧ n + 200 ≤ 40000 ∧
 ∀ (v : Key) (g' : List Key → Option Key) (H' : Hp), aD b H H' → Stp A H' f b g' (n + (2 * es.length + 1)) → Sub g g' → okP v = true → szK v ≤ szB es.length → (∀ h, Ext g' h → v = h (cS h es)) → Q (kV v) H'
structure Cur (g : List Key → Option Key) (c : List Key) (v : Key) : Prop where
 ok : okP v = true
 sz : szK v ≤ szB c.length
 eq : ∀ h, Ext g h → v = h (cS h c)
abbrev Mks (g : List Key → Option Key) : List (List Key) → List Key → Prop := Paired (Cur g)
def bw : Nat → Nat → Nat → List Int
 | 0, _, _ => []
 | n + 1, r, p => if r ≤ 1 then [] else if p < ai r then 0 :: bw n (ai r) p else 1 :: bw n (r - ai r) (p - ai r)
def cR : Nat → List Key → Nat → List (List Key)
 | 0, _, _ => []
 | n + 1, es, p => if es.length ≤ 1 then [] else if p < ai es.length then es.drop (ai es.length) :: cR n (es.take (ai es.length)) p else es.take (ai es.length) :: cR n (es.drop (ai es.length)) (p - ai es.length)
def iW (K : W.Frag) (A : Adr) : Sp := fun vs H Q _ => ∃ c p : Nat, vs = [.int (p : Int), .int (c : Int)] ∧ p < c ∧ c ≤ 1000 ∧ ∀ (L : Addr) (H' : Hp), H L = none → am H H' → H' L = some (.lst ((bw c c p).map V.int)) → Q (.ref L) H'
structure dQ (H : Hp) (P T : Addr) (e : Key) (ks : List Key) : Prop where
 hP : H P = some (.tup [kV e, .ref T])
 hT : H T = some (.tup (ks.map kV))
def gQ (K : W.Frag) (A : Adr) : Sp := fun vs H Q _ => ∃ (x f L D b : Addr) (es : List Key) (kvs : List (List Key × Key)) (g : List Key → Option Key) (n c p : Nat), vs = [.ref x, .int (c : Int), .int (p : Int)] ∧ bZ A H x f L D b es kvs g n ∧ c ≤ es.length ∧ p < c ∧ n + 200 ≤ 30000 ∧
 ∀ (P T : Addr) (e : Key) (ks : List Key) (kvs' : List (List Key × Key)) (g' : List Key → Option Key) (H' : Hp), aY b D H H' → bZ A H' x f L D b es kvs' g' (n + 200) → Sub g g' → dQ H' P T e ks → es[p]? = some e → Mks g' (cR c (es.take c) p) ks → Q (.ref P) H'
def kU (K : W.Frag) (A : Adr) : Sp := fun vs H Q _ => ∃ (p : Addr) (c : Nat) (v : Key), vs = [.ref p] ∧ H p = some (.tup [.int (c : Int), kV v]) ∧ c ≤ 1000 ∧ okP v = true ∧ Q (.bl true) H
def kC (K : W.Frag) (A : Adr) : Sp := fun vs H Q _ => ∃ (p : Addr) (c : Nat) (v : Key), vs = [.ref p] ∧ H p = some (.tup [.int (c : Int), kV v]) ∧ c ≤ 1000 ∧ okP v = true ∧ Q .non H
def kF (K : W.Frag) (A : Adr) : Sp := fun vs H Q _ => ∃ (p : Addr) (ks : List Key), vs = [.int (ks.length : Int), .ref p] ∧ H p = some (.tup (ks.map kV)) ∧ (∀ k ∈ ks, okP k = true) ∧ ks.length ≤ 500 ∧ ∀ H', am H H' → Q (.bl true) H'
def jtT (t : Int) (o a : Key) : List Key := if t = 0 then [.inr "joint", o, a] else [.inr "joint", a, o]
def ln (K : W.Frag) (A : Adr) : Sp := fun vs H Q _ => ∃ (t : Int) (o a : Key), vs = [.int t, kV o, kV a] ∧ ∀ p, H p = none → Q (.ref p) (upd H p (.tup ((jtT t o a).map kV)))
def kW (K : W.Frag) (A : Adr) : Sp := fun vs H Q _ => ∃ (L P T : Addr) (ts : List Int) (e : Key) (ks : List Key), vs = [.ref L, .ref P] ∧ H L = some (.lst (ts.map V.int)) ∧ dQ H P T e ks ∧ okP e = true ∧ (∀ k ∈ ks, okP k = true) ∧ ks.length = ts.length ∧ ks.length ≤ 500 ∧ ∀ H', am H H' → Q (.bl true) H'
structure lT (A : Adr) (H : Hp) (f b P T : Addr) (es ks : List Key) (p : Nat) (e : Key) (g : List Key → Option Key) (n : Nat) : Prop where
 s : Stp A H f b g n
 hn : n + 200 ≤ 40000
 l60 : es.length ≤ 60
 lt : p < es.length
 ge : es[p]? = some e
 en : enK e
 w : dQ H P T e ks
 ms : Mks g (cR es.length es p) ks
def kH (K : W.Frag) (A : Adr) : Sp := fun vs H Q _ => ∃ (f b P T : Addr) (es ks : List Key) (p : Nat) (e : Key) (g : List Key → Option Key) (n : Nat), vs = [.ref f, .int (es.length : Int), .int (p : Int), .ref P] ∧ lT A H f b P T es ks p e g n ∧
 ∀ (L pr : Addr) (qs : List V) (top : Key) (g' : List Key → Option Key) (H' : Hp), aD b H H' → Stp A H' f b g' (n + 130) → Sub g g' → H' L = some (.lst (qs ++ [.ref pr])) → H' pr = some (.tup [.str "row", .int (es.length : Int), kV top]) → Cur g' es top → Q (.ref L) H'
def lf (K : W.Frag) (A : Adr) : Sp := fun vs H Q _ => ∃ (f b P T : Addr) (es ks : List Key) (p : Nat) (e : Key) (g : List Key → Option Key) (n : Nat), vs = [.ref f, .int (es.length : Int), .int (p : Int), .ref P] ∧ lT A H f b P T es ks p e g n ∧
 ∀ (w : Key) (g' : List Key → Option Key) (H' : Hp), aD b H H' → Stp A H' f b g' (n + 131) → Sub g g' → (∀ h, Ext g' h → w = h (nI h es)) → Q (kV w) H'
def lc (K : W.Frag) (A : Adr) : Sp := fun vs H Q _ => ∃ (f b hd P T : Addr) (es ks : List Key) (p : Nat) (e mk : Key) (g : List Key → Option Key) (n : Nat), vs = [.ref f, .ref hd, .int (p : Int), .ref P] ∧ lT A H f b P T es ks p e g n ∧
 H hd = some (.tup [.int (es.length : Int), kV mk]) ∧ okP mk = true ∧ (∀ h, Ext g h → mk = h (nI h es)) ∧
 ∀ (g' : List Key → Option Key) (H' : Hp), aD b H H' → Stp A H' f b g' (n + 131) → Sub g g' → Q (kV e) H'
def gX (K : W.Frag) (A : Adr) : Sp := fun vs H Q _ => ∃ x : Key, vs = [kV x, kV x] ∧ Q (.bl true) H
def la (K : W.Frag) (A : Adr) : Sp := fun vs H Q _ => ∃ (P T P' T' : Addr) (e : Key) (ks : List Key), vs = [.ref P, .ref P'] ∧ dQ H P T e ks ∧ dQ H P' T' e ks ∧ ∀ H', am H H' → Q (.bl true) H'
def lm (K : W.Frag) (A : Adr) : Sp := fun vs H Q _ => ∃ (f b E : Addr) (es : List Key) (p : Nat) (g : List Key → Option Key) (n : Nat), vs = [.ref f, .ref E, .int (p : Int)] ∧ H E = some (.lst (es.map kV)) ∧ (∀ x ∈ es, enK x) ∧ es.length ≤ 60 ∧ p < es.length ∧ Stp A H f b g n ∧ n + 400 ≤ 40000 ∧
 ∀ (P T : Addr) (e : Key) (ks : List Key) (g' : List Key → Option Key) (H' : Hp), aD b H H' → Stp A H' f b g' (n + 200) → Sub g g' → dQ H' P T e ks → es[p]? = some e → Mks g' (cR es.length es p) ks → Q (.ref P) H'
def dM (K : W.Frag) (A : Adr) : Sp := fun vs H Q _ => ∃ (x f L D b E : Addr) (es : List Key) (kvs : List (List Key × Key)) (g : List Key → Option Key) (n c p : Nat), vs = [.ref f, .ref x, .ref E, .int (p : Int)] ∧ bZ A H x f L D b es kvs g n ∧ H E = some (.lst ((es.take c).map kV)) ∧ c ≤ es.length ∧ p < c ∧ n + 1000 ≤ 30000 ∧
 ∀ (kvs' : List (List Key × Key)) (g' : List Key → Option Key) (H' : Hp), aY b D H H' → bZ A H' x f L D b es kvs' g' (n + 1000) → Sub g g' → Q (.bl true) H'
def kO (K : W.Frag) (A : Adr) : Sp := fun vs H Q _ => ∃ (a : Addr) (ns : List Int), vs = [.ref a] ∧ SqL K H a (ns.map V.int) ∧ ns.length ≤ 63 ∧ uq A H ∧ ∀ H', Q (.bl true) H'
end Rs
namespace Rs
open PySem PySem.Spec PyProof.Rows L2
def er (K : W.Frag) (A : Adr) : L2.gk := [(eC, oN K A), (eS, oO K A), (eU, ow K A), (eV, oM K A)]
def vM (K : W.Frag) (A : Adr) : TE := av (jb K A) (fun _ => E0) (ac (ab 0) (ag))
def wJ (K : W.Frag) (A : Adr) : TE := bo A.c_Numbers "number_of" (oS K A) (fun _ => E0) (ab 1) (ac (ab 0) (ag))
def xm (K : W.Frag) (A : Adr) : TS := aE (tBM K "dict" mT (ab 2) (ac (ab 0) (ac (tOp (bn K) (tOp (eD) (ab 1) (tCB (bp K) (ac (ab 2) (ag)))) (tC (.int 5))) (ag))))
def xA (K : W.Frag) (A : Adr) : TS := ar (az (tCB (bp K) (ac (ab 0) (ag))) (au 1)) (ar (dG (eu K (ab 0)) (au 2) (aX (cb K (tCB (dr) (ac (ab 2) (ac (tC (.ty "str")) (ag))))) (az (tOp (bn K) (tOp (eD) (tC (.int 2)) (ab 1)) (tCB (bp K) (ac (ab 2) (ag)))) (au 1)) (az (tOp (bn K) (tOp (eD) (tC (.int 2)) (ab 1)) (ab 2)) (au 1)))) (aE (tOp (bG) (ab 1) (ab 3))))
def Bg (K : W.Frag) (A : Adr) : TS := aE (cK (tCB (dr) (ac (ab 0) (ac (tC (.ty "int")) (ag)))) (li (tCB (dr) (ac (ab 0) (ac (tC (.ty "bool")) (ag))))))
def Bm (K : W.Frag) (A : Adr) : TS := ar (aX (cb K (av (gl K A) (fun _ => E0) (ac (ab 0) (ag)))) (aE (eG (mLe) (mLt) (tC (.int 0)) (ab 0) (tOp (nR) (tC (.int 10)) (tC (.int 60))))) (aQ)) (aE (tCB (dr) (ac (ab 0) (ac (tC (.ty "str")) (ag)))))
def Bq (K : W.Frag) (A : Adr) : TS := ar (aX (cz (cb K (tCB (dr) (ac (ab 0) (ac (tC (.ty "tuple")) (ag)))))) (aE (tC (.bl false))) (aQ)) (ar (aX (cz (be (eG (mLe) (mLe) (tC (.int 1)) (tCB (bp K) (ac (ab 0) (ag))) (tC (.int 8))))) (aE (tC (.bl false))) (aQ)) (aE (cK (tCB (dr) (ac (tOp (aW K) (ab 0) (tC (.int 0))) (ac (tC (.ty "str")) (ag)))) (tCB (sF) (ac (eB [] (eu K (ab 0)) (fun _ H Q => Q true H) (av (fF K A) (fun _ => E0) (ac (ab 0) (ag)))) (ag))))))
def Bp (K : W.Frag) (A : Adr) : TS := ar (aX (cb K (av (gl K A) (fun _ => E0) (ac (ab 0) (ag)))) (aE (mJ ((nB (ab 0)) :: (tC (.str ";")) :: []) Str.empty)) (aQ)) (ar (az (tCB (bp K) (ac (ab 0) (ag))) (au 1)) (aE (mJ ((nB (ab 1)) :: (tC (.str ":")) :: (nB (ab 0)) :: []) Str.empty)))
def BL (K : W.Frag) (A : Adr) : TS := ar (aX (cz (cb K (av (iT K A) (fun _ => E0) (ac (ab 0) (ag))))) (dw) (aQ)) (aE (tBM K "str" kI (tC (.str "")) (ac (eB [] (eu K (ab 0)) (fun _ H Q => Q true H) (av (ld K A) (fun _ => E0) (ac (ab 0) (ag)))) (ag))))
def T_1 (K : W.Frag) (A : Adr) : TS := ar (aX (cz (cb K (av (iT K A) (fun _ => E0) (ac (ab 1) (ag))))) (dw) (aQ)) (ar (aX (be (tOp (jH K) (ab 1) (dv K (ab 0) "given"))) (az (tCB (bp K) (ac (dv K (ab 0) "given") (ag))) (oJ (dv K (ab 0) "given") (ab 1) kY)) (aQ)) (aE (tOp (aW K) (dv K (ab 0) "given") (ab 1))))
def wt (K : W.Frag) (A : Adr) : TSM := lO (jC A.t_43 ⟨184, 11, 184, 37⟩ eC [])
def T_0 (K : W.Frag) (A : Adr) : TS := ir K (ab 0) (iU) "given"
def wa (K : W.Frag) (A : Adr) (q0 : Addr) : TSM := lv (jj (az (fW A.c_Numbers (om K A) (fun _ => E0) (ag)) (au 0))) (lO (jC A.t_26 ⟨187, 11, 187, 47⟩ eS [q0]))
def xI (K : W.Frag) (A : Adr) (q0 q1 : Addr) : TSM := lv (jj (az (iU) (au 1))) (lv (jj (az (jC A.t_17 ⟨208, 4, 209, 80⟩ eU [q0, q1]) (au 2))) (lO (ab 2)))
def wl (K : W.Frag) (A : Adr) (q0 : Addr) : TSM := lv (jj (az (jC A.t_21 ⟨213, 4, 220, 37⟩ eV [q0]) (au 1))) (lO (ab 1))
def BW (K : W.Frag) (A : Adr) : TS := ar (aX (be (tOp (da K) (tOp (bG) (ab 0) (tC (.int 5))) (tC (.int 0)))) (aE (av (kS K A) (fun _ => E0) ag)) (aQ)) (ar (aX (be (tOp (da K) (tOp (bG) (ab 0) (tC (.int 5))) (tC (.int 1)))) (aE (av (kT K A) (fun _ => E0) ag)) (aQ)) (ar (aX (be (tOp (da K) (tOp (bG) (ab 0) (tC (.int 5))) (tC (.int 2)))) (aE (av (kZ K A) (fun _ => E0) (ac (tOp (bn K) (tC (.int 1)) (tOp (bG) (tOp (cZ) (ab 0) (tC (.int 5))) (tC (.int 9)))) (ag)))) (aQ)) (aE (av (kJ K A) (fun _ => E0) (ac (tOp (bn K) (tC (.int 1)) (tOp (bG) (tOp (cZ) (ab 0) (tC (.int 5))) (tC (.int 9)))) (ag))))))
def Cf (K : W.Frag) (A : Adr) : TS := ar (aX (be (tOp (mLt) (ab 1) (tCB (bp K) (ac (ab 0) (ag))))) (aE (tOp (aW K) (ab 0) (ab 1))) (aQ)) (aE (tC (.int 0)))
def wQ (K : W.Frag) (A : Adr) : TS := aE (tBM K "str" kI (tC (.str "")) (ac (eB [0, 1] (lh (ac (tOp (bG) (ab 0) (tC (.int 5))) (ag))) (fun _ H Q => Q true H) (tOp (aW K) (ab 2) (tOp (bG) (tOp (bn K) (tOp (cZ) (ab 1) (tC (.int 5))) (tOp (eD) (ab 0) (tOp (bG) (tOp (cZ) (ab 1) (tC (.int 470))) (tC (.int 7))))) (tC (.int 94))))) (ag)))
def BQ (K : W.Frag) (A : Adr) : TS := ar (az (tC (.str " !\"#$&'()*+,-./0123456789:;<=>?@ABCDEFGHIJKLMNOPQRSTUVWXYZ[\\]^_`")) (au 1)) (ar (az (tOp (bn K) (ab 1) (tC (.str "abcdefghijklmnopqrstuvwxyz{|}~"))) (au 1)) (aE (tBM K "str" kI (tC (.str "")) (ac (eB [0, 1] (lh (ac (tOp (bG) (ab 0) (tC (.int 5))) (ag))) (fun _ H Q => Q true H) (tOp (aW K) (ab 2) (tOp (bG) (tOp (bn K) (tOp (cZ) (ab 1) (tC (.int 5))) (tOp (eD) (ab 0) (tOp (bG) (tOp (cZ) (ab 1) (tC (.int 470))) (tC (.int 7))))) (tC (.int 94))))) (ag)))))
def AW (K : W.Frag) (A : Adr) : TS := ar (aX (be (tOp (da K) (tOp (bG) (ab 0) (tC (.int 4))) (tC (.int 0)))) (aE (av (kM K A) (fun _ => E0) (ac (tOp (cZ) (ab 0) (tC (.int 4))) (ag)))) (aQ)) (ar (aX (be (tOp (da K) (tOp (bG) (ab 0) (tC (.int 4))) (tC (.int 1)))) (aE (tOp (bG) (tOp (cZ) (ab 0) (tC (.int 4))) (tOp (nR) (tC (.int 10)) (tC (.int 60))))) (aQ)) (aE (tOp (bG) (tOp (cZ) (ab 0) (tC (.int 4))) (tC (.int 7)))))
def T_2 (K : W.Frag) (A : Adr) : TS := ar (ir K (ab 0) (ab 1) "stamper") (ar (ir K (ab 0) (gz (ag)) "entries") (ir K (ab 0) (iU) "tops"))
def T_3 (K : W.Frag) (A : Adr) : TS := ar (aX (cz (cb K (av (fF K A) (fun _ => E0) (ac (ab 1) (ag))))) (dw) (aQ)) (ar (bW (tBM K "list" cE (dv K (ab 0) "entries") (ac (ab 1) (ag)))) (aE (tOp (dF) (tCB (bp K) (ac (dv K (ab 0) "entries") (ag))) (tC (.int 1)))))
def Bj (K : W.Frag) (A : Adr) : TS := aE (cK (av (gl K A) (fun _ => E0) (ac (ab 0) (ag))) (eG (mLe) (mLt) (tC (.int 0)) (ab 0) (tOp (oU) (tC (.int 1)) (tC (.int 60)))))
def BG (K : W.Frag) (A : Adr) : TS := aE (cK (av (ji K A) (fun _ => E0) (ac (ab 0) (ag))) (cK (av (gl K A) (fun _ => E0) (ac (ab 1) (ag))) (eG (mLe) (mLt) (tC (.int 0)) (ab 1) (ab 0))))
def T_6 (K : W.Frag) (A : Adr) : TS := aE (tCB (bp K) (ac (dv K (ab 0) "entries") (ag)))
def T_4 (K : W.Frag) (A : Adr) : TS := aE (cK (av (jp K A) (fun _ => E0) (ac (ab 1) (ac (ab 2) (ag)))) (tOp (mLe) (ab 1) (bo A.c_Row "size" (nw K A) (fun _ => E0) (ab 0) ag)))
def Ck (K : W.Frag) (A : Adr) : TS := aE (tOp (oU) (tC (.int 1)) (tOp (dF) (gt K "int" kK (tOp (dF) (ab 0) (tC (.int 1)))) (tC (.int 1))))
def BK (K : W.Frag) (A : Adr) : TS := ar (az (gz (ag)) (au 2)) (ar (az (tC (.int 0)) (au 3)) (ar (az (ab 1) (au 4)) (ar (fk (be (tOp (mGt) (ab 4) (tC (.int 1)))) (ar (az (av (gT K A) (fun _ => E0) (ac (ab 4) (ag))) (au 5)) (aX (be (tOp (mLt) (ab 0) (tOp (bn K) (ab 3) (ab 5)))) (ar (bW (tBM K "list" cE (ab 2) (ac (tC (.int 0)) (ag)))) (az (ab 5) (au 4))) (ar (bW (tBM K "list" cE (ab 2) (ac (tC (.int 1)) (ag)))) (ar (az (tOp (bn K) (ab 3) (ab 5)) (au 3)) (az (tOp (dF) (ab 4) (ab 5)) (au 4))))))) (aE (ab 2)))))
def T_8 (K : W.Frag) (A : Adr) (n : Nat) : TS := ar (aX (be (tOp (da K) (ab 2) (tC (.int 0)))) (aE (cO (ac (tC (.str "void")) (ag)))) (aQ)) (ar (aX (be (tOp (da K) (ab 2) (tC (.int 1)))) (aE (cO (ac (tC (.str "entry")) (ac (tOp (aW K) (dv K (ab 0) "entries") (ab 1)) (ag))))) (aQ)) (ar (az (av (gT K A) (fun _ => E0) (ac (ab 2) (ag))) (au 3)) (aE (cO (ac (tC (.str "joint")) (ac (bo A.c_Row "top_of" (fJ K A n) (fun _ => E0) (ab 0) (ac (ab 1) (ac (ab 3) (ag)))) (ac (bo A.c_Row "top_of" (fJ K A n) (fun _ => E0) (ab 0) (ac (tOp (bn K) (ab 1) (ab 3)) (ac (tOp (dF) (ab 2) (ab 3)) (ag)))) (ag))))))))
def T_7 (K : W.Frag) (A : Adr) (n : Nat) : TS := ar (az (cO (ac (ab 1) (ac (ab 2) (ag)))) (au 3)) (ar (aX (be (tOp (jH K) (ab 3) (dv K (ab 0) "tops"))) (az (qI (er K A) A.c_Row "stamper" (fun _ => E0) (ab 0) (ac (bo A.c_Row "top_term" (nv K A n) (fun _ => E0) (ab 0) (ac (ab 1) (ac (ab 2) (ag)))) (ag))) (oJ (dv K (ab 0) "tops") (ab 3) kY)) (aQ)) (aE (tOp (aW K) (dv K (ab 0) "tops") (ab 3))))
def T_5 (K : W.Frag) (A : Adr) : TS := ar (aX (cz (cb K (bo A.c_Row "has_place" (nV K A) (fun _ => E0) (ab 0) (ac (ab 1) (ac (ab 2) (ag)))))) (dw) (aQ)) (ar (az (gz (ag)) (au 3)) (ar (az (tC (.int 0)) (au 4)) (ar (az (ab 1) (au 5)) (ar (dG (eu K (av (iW K A) (fun _ => E0) (ac (ab 2) (ac (ab 1) (ag))))) (au 6) (ar (az (av (gT K A) (fun _ => E0) (ac (ab 5) (ag))) (au 7)) (aX (be (tOp (da K) (ab 6) (tC (.int 0)))) (ar (bW (tBM K "list" cE (ab 3) (ac (bo A.c_Row "top_of" (fJ K A 70) (fun _ => E0) (ab 0) (ac (tOp (bn K) (ab 4) (ab 7)) (ac (tOp (dF) (ab 5) (ab 7)) (ag)))) (ag)))) (az (ab 7) (au 5))) (ar (bW (tBM K "list" cE (ab 3) (ac (bo A.c_Row "top_of" (fJ K A 70) (fun _ => E0) (ab 0) (ac (ab 4) (ac (ab 7) (ag)))) (ag)))) (ar (az (tOp (bn K) (ab 4) (ab 7)) (au 4)) (az (tOp (dF) (ab 5) (ab 7)) (au 5))))))) (aE (cO (ac (tOp (aW K) (dv K (ab 0) "entries") (ab 2)) (ac (tCB (lN K) (ac (ab 3) (ag))) (ag)))))))))
def T_9 (K : W.Frag) (A : Adr) : TS := ar (az (fW A.c_Row (iJ K A) (fun _ => E0) (ac (dv K (ab 0) "stamper") (ag))) (au 1)) (ar (ir K (ab 1) (tCB (tY K) (ac (dv K (ab 0) "entries") (ag))) "entries") (aE (ab 1)))
def BT (K : W.Frag) (A : Adr) : TS := aE (cK (tCB (dr) (ac (ab 0) (ac (tC (.ty "int")) (ag)))) (li (tCB (dr) (ac (ab 0) (ac (tC (.ty "bool")) (ag))))))
def Bf (K : W.Frag) (A : Adr) : TS := aE (cK (tE (tCB (dr) (ac (ab 0) (ac (tC (.ty "str")) (ag)))) (av (lg K A) (fun _ => E0) (ac (ab 0) (ag)))) (tOp (da K) (ab 0) (ab 1)))
def Ba (K : W.Frag) (A : Adr) : TS := ar (aX (mOr (cz (cb K (tCB (dr) (ac (ab 0) (ac (tC (.ty "tuple")) (ag)))))) (mOr (be (tOp (gA K) (tCB (bp K) (ac (ab 0) (ag))) (tC (.int 2)))) (cz (cb K (tCB (dr) (ac (tOp (aW K) (ab 0) (tC (.int 1))) (ac (tC (.ty "tuple")) (ag)))))))) (aE (tC (.bl false))) (aQ)) (ar (aX (mOr (be (tOp (gA K) (tCB (bp K) (ac (tOp (aW K) (ab 0) (tC (.int 1))) (ag))) (tCB (bp K) (ac (tOp (aW K) (ab 1) (tC (.int 1))) (ag))))) (cz (cb K (av (gX K A) (fun _ => E0) (ac (tOp (aW K) (ab 0) (tC (.int 0))) (ac (tOp (aW K) (ab 1) (tC (.int 0))) (ag))))))) (aE (tC (.bl false))) (aQ)) (ar (dG (kE K (ac (tOp (aW K) (ab 0) (tC (.int 1))) (ac (tOp (aW K) (ab 1) (tC (.int 1))) (ag)))) (lX K 2 (eT (au 2) (eT (au 3) lx))) (aX (cz (cb K (av (gX K A) (fun _ => E0) (ac (ab 2) (ac (ab 3) (ag)))))) (aE (tC (.bl false))) (aQ))) (aE (tC (.bl true)))))
def BA (K : W.Frag) (A : Adr) : TS := ar (az (gz (ag)) (au 2)) (ar (dG (eu K (ab 1)) (au 3) (ar (az (tC (.int 1)) (au 4)) (ar (az (eW (er K A) (fun _ => E0) (ab 0) (ac (cO (ac (tC (.str "entry")) (ac (ab 3) (ag)))) (ag))) (au 5)) (ar (fk (rp (be (tOp (mGt) (tCB (bp K) (ac (ab 2) (ag))) (tC (.int 0)))) (be (tOp (da K) (tOp (aW K) (tOp (aW K) (ab 2) (tUn iy (tC (.int 1)))) (tC (.int 0))) (ab 4)))) (ar (az (eW (er K A) (fun _ => E0) (ab 0) (ac (cO (ac (tC (.str "joint")) (ac (tOp (aW K) (gt K "list" jD (ab 2)) (tC (.int 1))) (ac (ab 5) (ag))))) (ag))) (au 5)) (az (tOp (eD) (tC (.int 2)) (ab 4)) (au 4)))) (bW (tBM K "list" cE (ab 2) (ac (cO (ac (ab 4) (ac (ab 5) (ag)))) (ag)))))))) (ar (az (tOp (aW K) (gt K "list" jD (ab 2)) (tC (.int 1))) (au 5)) (ar (fk (be (tOp (mGt) (tCB (bp K) (ac (ab 2) (ag))) (tC (.int 0)))) (az (eW (er K A) (fun _ => E0) (ab 0) (ac (cO (ac (tC (.str "joint")) (ac (tOp (aW K) (gt K "list" jD (ab 2)) (tC (.int 1))) (ac (ab 5) (ag))))) (ag))) (au 5))) (aE (ab 5)))))
def Ci (K : W.Frag) (A : Adr) : TS := ar (az (gz (ag)) (au 3)) (ar (az (tC (.int 0)) (au 4)) (ar (az (tCB (bp K) (ac (ab 1) (ag))) (au 5)) (ar (fk (be (tOp (mGt) (tOp (dF) (ab 5) (ab 4)) (tC (.int 1)))) (ar (az (tC (.int 1)) (au 6)) (ar (fk (be (tOp (mLt) (tOp (eD) (tC (.int 2)) (ab 6)) (tOp (dF) (ab 5) (ab 4)))) (az (tOp (eD) (tC (.int 2)) (ab 6)) (au 6))) (aX (be (tOp (mLt) (ab 2) (tOp (bn K) (ab 4) (ab 6)))) (ar (bW (tBM K "list" cE (ab 3) (ac (av (ig K A) (fun _ => E0) (ac (ab 0) (ac (tSl (cB K) (ab 1) (bD (tOp (bn K) (ab 4) (ab 6))) (bD (ab 5))) (ag)))) (ag)))) (az (tOp (bn K) (ab 4) (ab 6)) (au 5))) (ar (bW (tBM K "list" cE (ab 3) (ac (av (ig K A) (fun _ => E0) (ac (ab 0) (ac (tSl (cB K) (ab 1) (bD (ab 4)) (bD (tOp (bn K) (ab 4) (ab 6)))) (ag)))) (ag)))) (az (tOp (bn K) (ab 4) (ab 6)) (au 4))))))) (aE (cO (ac (tOp (aW K) (ab 1) (ab 2)) (ac (tCB (lN K) (ac (ab 3) (ag))) (ag))))))))
def BV (K : W.Frag) (A : Adr) : TS := aE (cK (tCB (dr) (ac (ab 0) (ac (tC (.ty "tuple")) (ag)))) (cK (tOp (da K) (tCB (bp K) (ac (ab 0) (ag))) (tC (.int 2))) (cK (av (ji K A) (fun _ => E0) (ac (tOp (aW K) (ab 0) (tC (.int 0))) (ag))) (av (fF K A) (fun _ => E0) (ac (tOp (aW K) (ab 0) (tC (.int 1))) (ag))))))
def Bn (K : W.Frag) (A : Adr) : TS := aX (cz (cb K (av (kU K A) (fun _ => E0) (ac (ab 0) (ag))))) (dw) (aQ)
def Bz (K : W.Frag) (A : Adr) : TS := aE (cK (tCB (dr) (ac (ab 1) (ac (tC (.ty "tuple")) (ag)))) (cK (tOp (da K) (tCB (bp K) (ac (ab 1) (ag))) (ab 0)) (tCB (sF) (ac (eB [] (eu K (ab 1)) (fun _ H Q => Q true H) (av (fF K A) (fun _ => E0) (ac (ab 0) (ag)))) (ag)))))
def BE (K : W.Frag) (A : Adr) : TS := ar (aX (mOr (cz (cb K (tCB (dr) (ac (ab 1) (ac (tC (.ty "tuple")) (ag)))))) (be (tOp (gA K) (tCB (bp K) (ac (ab 1) (ag))) (tC (.int 2))))) (aE (tC (.bl false))) (aQ)) (aE (cK (av (fF K A) (fun _ => E0) (ac (tOp (aW K) (ab 1) (tC (.int 0))) (ag))) (av (kF K A) (fun _ => E0) (ac (tCB (bp K) (ac (ab 0) (ag))) (ac (tOp (aW K) (ab 1) (tC (.int 1))) (ag))))))
def Bc (K : W.Frag) (A : Adr) : TS := aE (mIf (be (tOp (da K) (ab 0) (tC (.int 0)))) (cO (ac (tC (.str "joint")) (ac (ab 1) (ac (ab 2) (ag))))) (cO (ac (tC (.str "joint")) (ac (ab 2) (ac (ab 1) (ag))))))
def AU (K : W.Frag) (A : Adr) : TS := ar (aX (cz (cb K (av (jp K A) (fun _ => E0) (ac (ab 1) (ac (ab 2) (ag)))))) (dw) (aQ)) (ar (az (av (iW K A) (fun _ => E0) (ac (ab 2) (ac (ab 1) (ag)))) (au 4)) (ar (aX (cz (cb K (av (kW K A) (fun _ => E0) (ac (ab 4) (ac (ab 3) (ag)))))) (dw) (aQ)) (ar (az (gz (ac (cO (ac (tC (.str "entry")) (ac (tOp (aW K) (ab 3) (tC (.int 0))) (ag)))) (ag))) (au 5)) (ar (dG (uB K (ac (tCB (ls K) (ac (ab 4) (ac (tOp (aW K) (ab 3) (tC (.int 1))) (ag)))) (ag))) (au 6) (bW (tBM K "list" cE (ab 5) (ac (av (ln K A) (fun _ => E0) (ac (tOp (aW K) (ab 6) (tC (.int 0))) (ac (eW (er K A) (fun _ => E0) (ab 0) (ac (tOp (aW K) (ab 5) (tUn iy (tC (.int 1)))) (ag))) (ac (tOp (aW K) (ab 6) (tC (.int 1))) (ag))))) (ag))))) (ar (bW (tBM K "list" cE (ab 5) (ac (cO (ac (tC (.str "row")) (ac (ab 1) (ac (eW (er K A) (fun _ => E0) (ab 0) (ac (tOp (aW K) (ab 5) (tUn iy (tC (.int 1)))) (ag))) (ag))))) (ag)))) (aE (ab 5)))))))
def Bx (K : W.Frag) (A : Adr) : TS := aE (eW (er K A) (fun _ => E0) (ab 0) (ac (tOp (aW K) (av (kH K A) (fun _ => E0) (ac (ab 0) (ac (ab 1) (ac (ab 2) (ac (ab 3) (ag)))))) (tUn iy (tC (.int 1)))) (ag)))
def BX (K : W.Frag) (A : Adr) : TS := ar (bW (av (kC K A) (fun _ => E0) (ac (ab 1) (ag)))) (ar (az (av (lf K A) (fun _ => E0) (ac (ab 0) (ac (tOp (aW K) (ab 1) (tC (.int 0))) (ac (ab 2) (ac (ab 3) (ag)))))) (au 4)) (ar (aX (be (tOp (gA K) (ab 4) (tOp (aW K) (ab 1) (tC (.int 1))))) (dw) (aQ)) (aE (tOp (aW K) (ab 3) (tC (.int 0))))))
def Ca (K : W.Frag) (A : Adr) : TS := ar (az (tCB (bp K) (ac (ab 2) (ag))) (au 4)) (ar (az (bo A.c_Row "place_paper" (gQ K A) (fun _ => E0) (ab 1) (ac (ab 4) (ac (ab 3) (ag)))) (au 5)) (ar (aX (cz (cb K (av (la K A) (fun _ => E0) (ac (ab 5) (ac (av (lm K A) (fun _ => E0) (ac (ab 0) (ac (ab 2) (ac (ab 3) (ag))))) (ag)))))) (aE (tC (.bl false))) (aQ)) (ar (aX (be (tOp (mGt) (tCB (bp K) (ac (tOp (aW K) (ab 5) (tC (.int 1))) (ag))) (gt K "int" kK (tOp (dF) (ab 4) (tC (.int 1)))))) (aE (tC (.bl false))) (aQ)) (ar (az (eW (er K A) (fun _ => E0) (ab 0) (ac (cO (ac (tC (.str "row")) (ac (ab 4) (ac (av (ig K A) (fun _ => E0) (ac (ab 0) (ac (ab 2) (ag)))) (ag))))) (ag))) (au 6)) (aE (av (gX K A) (fun _ => E0) (ac (av (lc K A) (fun _ => E0) (ac (ab 0) (ac (cO (ac (ab 4) (ac (ab 6) (ag)))) (ac (ab 3) (ac (ab 5) (ag)))))) (ac (tOp (aW K) (ab 2) (ab 3)) (ag)))))))))
def ni (K : W.Frag) (A : Adr) : TS := aE (av (dM K A) (fun _ => E0) (ac (ab 1) (ac (ab 4) (ac (ab 2) (ac (tOp (dF) (tCB (bp K) (ac (ab 2) (ag))) (tC (.int 1))) (ag))))))
def mV (K : W.Frag) (A : Adr) : TS := ar (dG (oF (ac (tC (.int 3)) (ac (tC (.int 7)) (ac (tC (.int 2)) (ag))))) (au 10) (ar (az (tOp (bn K) (tC (.int 1)) (tOp (bG) (av (cI K A) (fun _ => E0) (ac (ab 0) (ac (ab 10) (ag)))) (tCB (bp K) (ac (ab 2) (ag))))) (au 11)) (ar (az (tOp (bG) (av (cI K A) (fun _ => E0) (ac (ab 0) (ac (tOp (bn K) (ab 10) (tC (.int 1))) (ag)))) (ab 11)) (au 12)) (ar (aX (cz (cb K (av (dM K A) (fun _ => E0) (ac (ab 1) (ac (ab 4) (ac (tSl (cB K) (ab 2) (bv) (bD (ab 11))) (ac (ab 12) (ag)))))))) (aE (tC (.bl false))) (aQ)) (aX (cz (cb K (av (dM K A) (fun _ => E0) (ac (ab 1) (ac (ab 7) (ac (tSl (cB K) (ab 8) (bv) (bD (ab 11))) (ac (ab 12) (ag)))))))) (aE (tC (.bl false))) (aQ)))))) (ni K A)
def vw (K : W.Frag) (A : Adr) : TS := ar (aX (cz (cb K (av (dM K A) (fun _ => E0) (ac (ab 1) (ac (ab 4) (ac (tSl (cB K) (ab 2) (bv) (bD (ab 3))) (ac (tOp (bG) (av (cI K A) (fun _ => E0) (ac (ab 0) (ac (tC (.int 2)) (ag)))) (ab 3)) (ag)))))))) (aE (tC (.bl false))) (aQ)) (mV K A)
def qr (K : W.Frag) (A : Adr) : TS := ar (aX (be (tOp (gA K) (bo A.c_Row "place_paper" (gQ K A) (fun _ => E0) (ab 4) (ac (ab 3) (ac (tOp (bG) (av (cI K A) (fun _ => E0) (ac (ab 0) (ac (tC (.int 2)) (ag)))) (ab 3)) (ag)))) (ab 6))) (aE (tC (.bl false))) (aQ)) (vw K A)
def pY (K : W.Frag) (A : Adr) : TS := ar (dG (kE K (ac (tSl (cB K) (ab 2) (bD (ab 3)) (bv)) (ac (tSl (cB K) (ab 8) (bD (ab 3)) (bv)) (ag)))) (lX K 2 (eT (au 5) (eT (au 9) lx))) (ar (bW (bo A.c_Row "add" (gh K A) (fun _ => E0) (ab 4) (ac (ab 5) (ag)))) (bW (bo A.c_Row "add" (gh K A) (fun _ => E0) (ab 7) (ac (ab 9) (ag)))))) (qr K A)
def xK (K : W.Frag) (A : Adr) : TS := ar (az (tOp (bn K) (tSl (cB K) (ab 2) (bv) (bD (ab 3))) (tCB (iC K) (ac (tSl (cB K) (ab 2) (bD (ab 3)) (bv)) (ag)))) (au 8)) (pY K A)
def wp (K : W.Frag) (A : Adr) : TS := ar (az (bo A.c_Row "twin" (lF K A) (fun _ => E0) (ab 4) ag) (au 7)) (xK K A)
def wR (K : W.Frag) (A : Adr) : TS := ar (az (bo A.c_Row "place_paper" (gQ K A) (fun _ => E0) (ab 4) (ac (ab 3) (ac (tOp (bG) (av (cI K A) (fun _ => E0) (ac (ab 0) (ac (tC (.int 2)) (ag)))) (ab 3)) (ag)))) (au 6)) (wp K A)
def qh (K : W.Frag) (A : Adr) : TS := ar (dG (eu K (tSl (cB K) (ab 2) (bv) (bD (ab 3)))) (au 5) (bW (bo A.c_Row "add" (gh K A) (fun _ => E0) (ab 4) (ac (ab 5) (ag))))) (wR K A)
def xb (K : W.Frag) (A : Adr) : TS := ar (az (fW A.c_Row (iJ K A) (fun _ => E0) (ac (ab 1) (ag))) (au 4)) (qh K A)
def Bo (K : W.Frag) (A : Adr) : TS := ar (az (av (kP K A) (fun _ => E0) (ac (av (cI K A) (fun _ => E0) (ac (ab 0) (ac (tC (.int 0)) (ag)))) (ag))) (au 1)) (ar (az (eB [] (eu K (tOp (bn K) (gz (ac (av (cI K A) (fun _ => E0) (ac (ab 0) (ac (tC (.int 1)) (ag)))) (ag))) (tSl (cB K) (ab 0) (bD (tC (.int 8))) (bD (tC (.int 40)))))) (fun _ H Q => Q true H) (av (kR K A) (fun _ => E0) (ac (ab 0) (ag)))) (au 2)) (ar (az (tOp (bn K) (tC (.int 1)) (tOp (bG) (tOp (cZ) (av (cI K A) (fun _ => E0) (ac (ab 0) (ac (tC (.int 1)) (ag)))) (tC (.int 3))) (tCB (bp K) (ac (ab 2) (ag))))) (au 3)) (ar (az (fW A.c_Row (iJ K A) (fun _ => E0) (ac (ab 1) (ag))) (au 4)) (ar (dG (eu K (tSl (cB K) (ab 2) (bv) (bD (ab 3)))) (au 5) (bW (bo A.c_Row "add" (gh K A) (fun _ => E0) (ab 4) (ac (ab 5) (ag))))) (ar (az (bo A.c_Row "place_paper" (gQ K A) (fun _ => E0) (ab 4) (ac (ab 3) (ac (tOp (bG) (av (cI K A) (fun _ => E0) (ac (ab 0) (ac (tC (.int 2)) (ag)))) (ab 3)) (ag)))) (au 6)) (ar (az (bo A.c_Row "twin" (lF K A) (fun _ => E0) (ab 4) ag) (au 7)) (ar (az (tOp (bn K) (tSl (cB K) (ab 2) (bv) (bD (ab 3))) (tCB (iC K) (ac (tSl (cB K) (ab 2) (bD (ab 3)) (bv)) (ag)))) (au 8)) (ar (dG (kE K (ac (tSl (cB K) (ab 2) (bD (ab 3)) (bv)) (ac (tSl (cB K) (ab 8) (bD (ab 3)) (bv)) (ag)))) (lX K 2 (eT (au 5) (eT (au 9) lx))) (ar (bW (bo A.c_Row "add" (gh K A) (fun _ => E0) (ab 4) (ac (ab 5) (ag)))) (bW (bo A.c_Row "add" (gh K A) (fun _ => E0) (ab 7) (ac (ab 9) (ag)))))) (ar (aX (be (tOp (gA K) (bo A.c_Row "place_paper" (gQ K A) (fun _ => E0) (ab 4) (ac (ab 3) (ac (tOp (bG) (av (cI K A) (fun _ => E0) (ac (ab 0) (ac (tC (.int 2)) (ag)))) (ab 3)) (ag)))) (ab 6))) (aE (tC (.bl false))) (aQ)) (ar (aX (cz (cb K (av (dM K A) (fun _ => E0) (ac (ab 1) (ac (ab 4) (ac (tSl (cB K) (ab 2) (bv) (bD (ab 3))) (ac (tOp (bG) (av (cI K A) (fun _ => E0) (ac (ab 0) (ac (tC (.int 2)) (ag)))) (ab 3)) (ag)))))))) (aE (tC (.bl false))) (aQ)) (ar (dG (oF (ac (tC (.int 3)) (ac (tC (.int 7)) (ac (tC (.int 2)) (ag))))) (au 10) (ar (az (tOp (bn K) (tC (.int 1)) (tOp (bG) (av (cI K A) (fun _ => E0) (ac (ab 0) (ac (ab 10) (ag)))) (tCB (bp K) (ac (ab 2) (ag))))) (au 11)) (ar (az (tOp (bG) (av (cI K A) (fun _ => E0) (ac (ab 0) (ac (tOp (bn K) (ab 10) (tC (.int 1))) (ag)))) (ab 11)) (au 12)) (ar (aX (cz (cb K (av (dM K A) (fun _ => E0) (ac (ab 1) (ac (ab 4) (ac (tSl (cB K) (ab 2) (bv) (bD (ab 11))) (ac (ab 12) (ag)))))))) (aE (tC (.bl false))) (aQ)) (aX (cz (cb K (av (dM K A) (fun _ => E0) (ac (ab 1) (ac (ab 7) (ac (tSl (cB K) (ab 8) (bv) (bD (ab 11))) (ac (ab 12) (ag)))))))) (aE (tC (.bl false))) (aQ)))))) (aE (av (dM K A) (fun _ => E0) (ac (ab 1) (ac (ab 4) (ac (ab 2) (ac (tOp (dF) (tCB (bp K) (ac (ab 2) (ag))) (tC (.int 1))) (ag))))))))))))))))))
end Rs
namespace Rs
open PySem PySem.Spec PyProof.Rows L2
def tyD : Dat → String
 | .non => "NoneType"
 | .bl _ => "bool"
 | .int _ => "int"
 | .str _ => "str"
 | .lst _ => "list"
 | .tup _ => "tuple"
 | .dic => "dict"
theorem dh.ty {H : Hp} {v : V} {d : Dat} (h : dh H v d) : tyN H v = some (tyD d) := by
 cases h with
 | lst e _ => unfold tyN; dsimp only; rw [e]; rfl
 | tup e _ => unfold tyN; dsimp only; rw [e]; rfl
 | dic e => unfold tyN; dsimp only; rcases e with ⟨kvs, e⟩ | ⟨kvs, e⟩ <;> rw [e] <;> rfl
 | _ => rfl
theorem wN {z : Str} (h : bU z = true) : PyData.strOk z = true := by
 unfold PyData.strOk
 unfold bU at h
 rw [Array.all_eq_true] at h ⊢
 intro i hi
 have := of_decide_eq_true (h i hi)
 exact decide_eq_true (by omega)
theorem ixT {K : W.Frag} {H : Hp} {Q : VK} {a : Addr} {xs : List V} {x : V} {i : Int} {j : Nat} (ha : H a = some (.tup xs)) (e : i = j) (hx : xs[j]? = some x) (q : Q x H) : aW K (.ref a) (.int i) H Q := by
 subst e
 refine .inl (.inr (.inl ⟨a, xs, j, x, rfl, rfl, SqT.of ha, ?_, q⟩))
 have hj := (List.getElem?_eq_some_iff.mp hx).1
 rw [pM (by omega) (by omega)]
 simp [List.getD_eq_getElem?_getD, hx]
variable {K : W.Frag} {mg : Str → Option Value} {A : Adr}
theorem xz (K : W.Frag) (A : Adr) : Ln (gl K A) 1 := by rintro vs H Q E ⟨v, d, rfl, _⟩; rfl
theorem yN (T : Txt K mg A) (vs : List V) (H : Hp) (Q : VK) (E : XK) (h : gl K A vs H Q E) : Bg K A { nx := fun _ H' => Q .non H', rt := Q } (bY ["thing"] vs) H := by
 obtain ⟨v, d, rfl, w, q⟩ := h
 refine ⟨by decide, _, w.ty, ?_⟩
 cases d
 case int i => exact Sel.yes rfl ⟨by decide, _, w.ty, q⟩
 case bl b => exact Sel.yes rfl ⟨by decide, _, w.ty, q⟩
 all_goals exact Sel.no rfl q
theorem wq (K : W.Frag) (A : Adr) : Ln (fF K A) 1 := by rintro vs H Q E ⟨v, d, rfl, _⟩; rfl
theorem yA (T : Txt K mg A) (vs : List V) (H : Hp) (Q : VK) (E : XK) (h : fF K A vs H Q E) : Bm K A { nx := fun _ H' => Q .non H', rt := Q } (bY ["thing"] vs) H := by
  obtain ⟨v, d, rfl, w, q⟩ := h
  refine ⟨v, d, rfl, w, ?_⟩
  cases w with
  | int i =>
    refine Sel.yes rfl (Sel.dec (fun h0 => ⟨⟨by decide, by decide, by decide⟩, ?_⟩) (fun h0 => ?_))
    · show Q (.bl (decide (i < 10 ^ ((60 : Int).toNat)))) H
      have e : fg (.int i) = decide (i < 10 ^ ((60 : Int).toNat)) := by
        show decide (0 ≤ i ∧ i < 10 ^ 60) = decide (i < 10 ^ 60)
        by_cases h1 : i < 10 ^ 60
        · rw [decide_eq_true h1, decide_eq_true ⟨h0, h1⟩]
        · rw [decide_eq_false h1, decide_eq_false fun z => h1 z.2]
      rw [← e]; exact q
    · have e : fg (.int i) = false := decide_eq_false fun z => h0 z.1
      rw [← e]; exact q
  | non => exact Sel.no rfl ⟨by decide, _, rfl, q⟩
  | bl b => exact Sel.no rfl ⟨by decide, _, rfl, q⟩
  | str z => exact Sel.no rfl ⟨by decide, _, rfl, q⟩
  | lst e r => exact Sel.no rfl ⟨by decide, _, (dh.lst e r).ty, q⟩
  | tup e r => exact Sel.no rfl ⟨by decide, _, (dh.tup e r).ty, q⟩
  | dic e => exact Sel.no rfl ⟨by decide, _, (dh.dic e).ty, q⟩
end Rs
namespace Rs
open PySem PySem.Spec PyProof.Rows L2
theorem kc {x y : Str} (h1 : bU x = true) (h2 : bU y = true) : bU (x ++ y) = true := by
 unfold bU at h1 h2 ⊢
 show (x.cps ++ y.cps).all _ = true
 rw [Array.all_append, h1, h2]; rfl
theorem qR (H : Hp) (m : Key) : dh H (kV m) (jK m) := by cases m <;> constructor
end Rs
namespace Rs
open PySem PySem.Spec PyProof.Rows L2
theorem rV {K : W.Frag} {H : Hp} {Q : VK} {a b : Key} (q : Q (.bl (decide (a = b))) H) : da K (kV a) (kV b) H Q := by
 cases a <;> cases b
 · rename_i i j
   have e : decide ((Sum.inl i : Key) = Sum.inl j) = decide (i = j) := by simp
   rw [e] at q; exact q
 · have e : ∀ (i : Int) (j : Str), decide ((Sum.inl i : Key) = Sum.inr j) = false := by simp
   rw [e] at q; exact q
 · have e : ∀ (i : Int) (j : Str), decide ((Sum.inr j : Key) = Sum.inl i) = false := by simp
   rw [e] at q; exact q
 · rename_i i j
   have e : decide ((Sum.inr i : Key) = Sum.inr j) = decide (i = j) := by simp
   rw [e] at q; exact q
theorem rP {K : W.Frag} {H : Hp} {Q : VK} {a : Key} (q : Q (.bl false) H) : gA K (kV a) (kV a) H Q := by
 cases a
 · rename_i i
   have e : (!decide (i = i)) = false := by simp
   rw [← e] at q; exact q
 · rename_i i
   have e : (!decide (i = i)) = false := by simp
   rw [← e] at q; exact q
variable {K : W.Frag} {mg : Str → Option Value} {A : Adr}
theorem jE {k : List Key} (h : okT k = true) : 1 ≤ k.length ∧ k.length ≤ 8 := by
 unfold okT at h
 simp only [Bool.and_eq_true] at h
 exact of_decide_eq_true h.1.1
end Rs
namespace Rs
open PySem PySem.Spec PyProof.Rows L2
theorem ga {k : List Key} (h : okT k = true) : k.all okP = true := by
 unfold okT at h
 rw [Bool.and_eq_true] at h
 exact h.2
theorem jA {k : List Key} {x : Key} (h : okT k = true) (hx : x ∈ k) : okP x = true := List.all_eq_true.mp (ga h) x hx
theorem re {k : List Key} (h : okT k = true) : ∃ z r, k = .inr z :: r := by
  unfold okT at h
  simp only [Bool.and_eq_true] at h
  cases k with
  | nil => cases h.1.2
  | cons x r =>
    cases x with
    | inl i => cases h.1.2
    | inr z => exact ⟨z, r, rfl⟩
theorem sn {x : Key} (h : okP x = true) : fg (jK x) = true := by
 cases x with
 | inl i => exact h
 | inr z => rfl
theorem jP {i : Int} (h0 : 0 ≤ i) (h1 : i < 10 ^ 60) : i.natAbs.log2 < 1920 := by
 by_cases e : i.natAbs = 0
 · rw [e]; decide
 · refine (Nat.log2_lt e).mpr ?_
   have : i.natAbs < 10 ^ 60 := by omega
   exact Nat.lt_of_lt_of_le this (by decide +kernel)
theorem eR {i : Int} (h0 : 0 ≤ i) (h1 : i < 10 ^ 60) : ((toString i : String) : Str).length ≤ 61 := by
 have : i.natAbs < 10 ^ 60 := by omega
 have := int_text_length_le10 (k := 60) (by decide) this
 show (Str.ofString _).length ≤ _
 rw [PySem.ofString_length]; exact this
theorem gb (s : String) (h : s.length = 1 := by rfl) : (s : Str).length = 1 := by
 show (Str.ofString s).length = 1
 rw [PySem.ofString_length]; exact h
theorem kf {x : Key} (h : okP x = true) : (dz x).length ≤ szK x := by
  cases x with
  | inl i =>
    have h := of_decide_eq_true h
    have := eR h.1 h.2
    show (((toString i : String) : Str) ++ ((";" : String) : Str)).length ≤ 62
    rw [strLen_append, gb ";"]; omega
  | inr z =>
    have h := of_decide_eq_true (Bool.and_eq_true_iff.mp h).2
    have := eR (i := (z.length : Int)) (by omega) (by omega)
    show (((toString (z.length : Int) : String) : Str) ++ ((":" : String) : Str) ++ z).length ≤ z.length + 62
    rw [strLen_append, strLen_append, gb ":"]; omega
theorem xa {x : Key} (h : okP x = true) : szK x ≤ 100062 := by
  cases x with
  | inl i => show 62 ≤ 100062; decide
  | inr z =>
    have h := of_decide_eq_true (Bool.and_eq_true_iff.mp h).2
    show z.length + 62 ≤ 100062; omega
theorem lQ : ∀ xs : List Key, eN xs = (xs.map dz).foldr (· ++ ·) Str.empty
 | [] => rfl
 | x :: r => by show dz x ++ eN r = dz x ++ _; rw [lQ r]
theorem jX : ∀ {k : List Key}, k.all okP = true → (eN k).length ≤ szT k
  | [], _ => by show Str.empty.length ≤ 0; decide
  | x :: r, h => by
    rw [List.all_cons, Bool.and_eq_true] at h
    have h1 := kf h.1
    have h2 := jX h.2
    show (dz x ++ eN r).length ≤ ((x :: r).map szK).sum
    rw [strLen_append, List.map_cons, List.sum_cons]
    unfold szT at h2
    omega
theorem ia {x y : Str} (h1 : bU x = true) (h2 : bU y = true) : bU (x ++ y) = true := kc h1 h2
theorem tJ {z : Str} (h : ∀ c ∈ z.cps.toList, c < 128) : bU z = true := by
 unfold bU
 rw [Array.all_eq_true]
 intro i hi
 exact decide_eq_true (h _ (by simp))
theorem uP (n : Nat) : bU ((toString (n : Int) : String) : Str) = true := by
 refine tJ fun c hc => ?_
 rw [W.KIN.signs_num n] at hc
 obtain ⟨ch, hch, e⟩ := List.mem_map.mp hc
 have := digit_range (Nat.isDigit_of_mem_toDigits (by decide) (by decide) hch)
 rw [← e]; omega
theorem mM {i : Int} (h : 0 ≤ i) : bU ((toString i : String) : Str) = true := by
 obtain ⟨n, rfl⟩ := Int.eq_ofNat_of_zero_le h
 exact uP n
theorem qa {x : Key} (h : okP x = true) : bU (dz x) = true := by
  cases x with
  | inl i =>
    have h := of_decide_eq_true h
    exact ia (mM h.1) (by decide +kernel)
  | inr z =>
    have h := (Bool.and_eq_true_iff.mp h).1
    exact ia (ia (mM (by omega)) (by decide +kernel)) h
theorem jV : ∀ {k : List Key}, k.all okP = true → bU (eN k) = true
  | [], _ => by decide +kernel
  | x :: r, h => by
    rw [List.all_cons, Bool.and_eq_true] at h
    exact ia (qa h.1) (jV h.2)
theorem ng : ∀ {k : List Key}, k.all okP = true → szT k ≤ k.length * 100062
  | [], _ => by decide
  | x :: r, h => by
    rw [List.all_cons, Bool.and_eq_true] at h
    have h1 := xa h.1
    have h2 := ng h.2
    show ((x :: r).map szK).sum ≤ _
    rw [List.map_cons, List.sum_cons, List.length_cons, Nat.succ_mul]
    unfold szT at h2
    omega
theorem lH : ∀ {k : List Key}, k.all okP = true → ((k.map dz).map (·.length)).sum ≤ szT k
  | [], _ => by decide
  | x :: r, h => by
    rw [List.all_cons, Bool.and_eq_true] at h
    have h1 := kf h.1
    have h2 := lH h.2
    show (((x :: r).map dz).map (·.length)).sum ≤ ((x :: r).map szK).sum
    rw [List.map_cons, List.map_cons, List.sum_cons, List.map_cons, List.sum_cons]
    unfold szT at h2
    omega
variable {K : W.Frag} {mg : Str → Option Value} {A : Adr}
theorem wM (K : W.Frag) (A : Adr) : Ln (iT K A) 1 := by rintro vs H Q E ⟨p, k, rfl, _⟩; rfl
theorem Ab (T : Txt K mg A) : Rd (iT K A) (Bq K A) ["thing"] := by
 intro vs H Q E h
 obtain ⟨p, k, rfl, hp, ok, q⟩ := h
 obtain ⟨l1, l8⟩ := jE ok
 obtain ⟨z, r, hk⟩ := re ok
 have ty : tyN H (.ref p) = some "tuple" := by unfold tyN; dsimp only; rw [hp]
 refine ⟨by decide, "tuple", ty, Sel.no rfl (.inl (.inr (.inl ⟨_, SqT.of hp, ?_⟩)))⟩
 refine Sel.dec (fun h1 => ?_) (fun h1 => absurd (by simp; omega) h1)
 refine Sel.ndec (fun h8 => absurd (by simp; omega) h8) (fun h8 => ?_)
 refine ixT (j := 0) hp rfl (by rw [hk]; rfl) ⟨by decide, "str", rfl, Sel.yes rfl ?_⟩
 refine ⟨p, rfl, .inr ⟨⟨_, SqT.of hp⟩, fun D hD => ?_⟩⟩
 have hne : p ≠ D := aj hp hD
 have hml : (k.map kV).length = k.length := by simp
 refine fV (cg.tuple (xs := k.map kV) .non) (fun i ys H2 => ys = (k.take i).map (fun x => V.bl true) ∧ H2 = upd H D (.lst ys)) (fun i ys H2 hi ⟨_, e2⟩ => ?_) ⟨rfl, rfl⟩ (fun i ys H2 hi ⟨e1, e2⟩ => ?_) (fun ys H2 ⟨e1, e2⟩ => ?_)
 · rw [e2]; exact SqT.of (by rw [ae hne]; exact hp)
 · subst e2
   have hi' : i < k.length := by omega
   obtain ⟨x, hx⟩ : ∃ x, k[i]? = some x := ⟨_, List.getElem?_eq_getElem hi'⟩
   have hg : (k.map kV).getD i .non = kV x := by rw [List.getD_eq_getElem?_getD, List.getElem?_map, hx]; rfl
   rw [hg]
   have hs := sn (jA ok (List.mem_of_getElem? hx))
   refine md ⟨_, jK x, rfl, qR _ x, ?_⟩
   rw [hs]
   have hyl : ys.length = i := by rw [e1, List.length_map, List.length_take]; omega
   refine ⟨af, by rw [hyl]; exact cm (by omega), CWd.next hi ⟨?_, fX⟩⟩
   rw [e1, List.take_add_one, List.map_append, hx]; rfl
 · subst e2
   refine ⟨D, k.map fun _ => true, rfl, by rw [af, e1, hml, List.take_length, List.map_map]; rfl, ?_⟩
   have : (k.map fun _ => true).all id = true := by simp
   rw [this]; exact q _ (am.upd hD)
theorem xg (K : W.Frag) (A : Adr) : Ln (ld K A) 1 := by rintro vs H Q E ⟨v, rfl, _⟩; rfl
theorem zu (T : Txt K mg A) : Rd (ld K A) (Bp K A) ["part", "signs"] := by
  intro vs H Q E h
  obtain ⟨v, rfl, hp, q⟩ := h
  cases v with
  | inl i =>
    have h := of_decide_eq_true hp
    have l := eR h.1 h.2
    refine ⟨.int i, .int i, rfl, .int i, Sel.t ?_⟩
    have e1 : Str.empty ++ ((toString i : String) : Str) = ((toString i : String) : Str) := Str.empty_append _
    have l2 : (((toString i : String) : Str) ++ ((";" : String) : Str)).length ≤ sizeLine := by rw [strLen_append, gb ";"]; exact aG (by omega)
    refine ⟨jP h.1 h.2, by rw [e1]; exact aG (by omega), ?_, ?_, ?_⟩ <;> rw [e1]
    · exact l2
    · exact l2
    · exact q
  | inr z =>
    have h := of_decide_eq_true (Bool.and_eq_true_iff.mp hp).2
    have l := eR (i := (z.length : Int)) (by omega) (by omega)
    refine ⟨.str z, .str z, rfl, .str z, Sel.f ?_⟩
    have e1 : Str.empty ++ ((toString (z.length : Int) : String) : Str) = ((toString (z.length : Int) : String) : Str) := Str.empty_append _
    have l2 : (((toString (z.length : Int) : String) : Str) ++ ((":" : String) : Str)).length ≤ sizeLine := by rw [strLen_append, gb ":"]; exact aG (by omega)
    have l3 : (((toString (z.length : Int) : String) : Str) ++ ((":" : String) : Str) ++ z).length ≤ sizeLine := by rw [strLen_append, strLen_append, gb ":"]; exact aG (by omega)
    refine .inl ⟨aG (by omega), jP (by omega) (by omega), by rw [e1]; exact aG (by omega), ?_, aG (by omega), ?_, ?_, ?_⟩ <;> rw [e1]
    · exact l2
    · exact l3
    · exact l3
    · exact q
theorem vN (K : W.Frag) (A : Adr) : Ln (jb K A) 1 := by rintro vs H Q E ⟨p, k, rfl, _⟩; rfl
theorem yu (T : Txt K mg A) : Rd (jb K A) (BL K A) ["term"] := by
 intro vs H Q E h
 obtain ⟨p, k, rfl, hp, ok, q⟩ := h
 refine ⟨p, k, rfl, hp, ok, fun H' s => Sel.no rfl ?_⟩
 have hp' := s _ _ hp
 have hml : (k.map kV).length = k.length := by simp
 obtain ⟨l1, l8⟩ := jE ok
 refine ⟨rfl, ⟨p, rfl, .inr ⟨⟨_, SqT.of hp'⟩, fun D hD => ?_⟩⟩⟩
 have hne : p ≠ D := aj hp' hD
 refine fV (cg.tuple (xs := k.map kV) .non) (fun i ys H2 => ys = (k.take i).map (fun x => V.str (dz x)) ∧ H2 = upd H' D (.lst ys)) (fun i ys H2 hi ⟨_, e2⟩ => ?_) ⟨rfl, rfl⟩ (fun i ys H2 hi ⟨e1, e2⟩ => ?_) (fun ys H2 ⟨e1, e2⟩ => ?_)
 · rw [e2]; exact SqT.of (by rw [ae hne]; exact hp')
 · subst e2
   have hi' : i < k.length := by omega
   obtain ⟨x, hx⟩ : ∃ x, k[i]? = some x := ⟨_, List.getElem?_eq_getElem hi'⟩
   have hg : (k.map kV).getD i .non = kV x := by rw [List.getD_eq_getElem?_getD, List.getElem?_map, hx]; rfl
   rw [hg]
   refine md ⟨x, rfl, jA ok (List.mem_of_getElem? hx), ?_⟩
   have hyl : ys.length = i := by rw [e1, List.length_map, List.length_take]; omega
   refine ⟨af, by rw [hyl]; exact cm (by omega), CWd.next hi ⟨?_, fX⟩⟩
   rw [e1, List.take_add_one, List.map_append, hx]; rfl
 · subst e2
   refine ⟨"", D, k.map dz, rfl, rfl, by rw [af, e1, hml, List.take_length, List.map_map]; rfl, ?_, ?_⟩
   · have h1 := lH (ga ok)
     have h2 := ng (ga ok)
     have e0 : (("" : String) : Str).length = 0 := by decide
     rw [e0]
     have : k.length * 100062 ≤ 8 * 100062 := Nat.mul_le_mul_right _ l8
     omega
   · rw [jy, ← lQ]
     exact q _ (s.trans (am.upd hD))
theorem yS (K : W.Frag) (A : Adr) : Ln (om K A) 1 := by rintro vs H Q E ⟨x, dx, rfl, _⟩; rfl
theorem Br (T : Txt K mg A) : Rd (om K A) (T_0 K A) ["self"] := by
 intro vs H Q E h
 obtain ⟨x, dx, rfl, hx, q⟩ := h
 exact .inr fun d hd => ⟨x, A.c_Numbers, dx, [], rfl, by rw [ae (aj hx hd)]; exact hx, T.cl_Numbers, T.na_Numbers_given, by decide, q d hd⟩
theorem eO.mono {H H' : Hp} {x d : Addr} {kvs : List (List Key × V)} (s : am H H') (n : eO A H x d kvs) : eO A H' x d kvs := by
 obtain ⟨⟨dx, h1⟩, h2⟩ := n
 exact ⟨⟨dx, s _ _ h1⟩, s _ _ h2⟩
theorem eO.hide {H : Hp} {x d : Addr} {kvs : List (List Key × V)} {cs : List Addr} {cvs : List V} (hc : bR H cs cvs) (n : eO A H x d kvs) : eO A (bX cs H) x d kvs := by
 obtain ⟨⟨dx, h1⟩, h2⟩ := n
 exact ⟨⟨dx, hc.hide h1 (fun _ z => nomatch z)⟩, hc.hide h2 (fun _ z => nomatch z)⟩
theorem yP (K : W.Frag) (A : Adr) : Ln (oS K A) 2 := by rintro vs H Q E ⟨x, d, p, kvs, k, rfl, _⟩; rfl
theorem AZ (T : Txt K mg A) : Rd (oS K A) (T_1 K A) ["self", "term"] := by
  intro vs H Q E h
  obtain ⟨x, d, a, kvs, k, rfl, nu, hl, hp, ok, q⟩ := h
  refine ⟨a, k, rfl, hp, ok, fun H' s => Sel.no rfl ?_⟩
  have ta' := s _ _ hp
  obtain ⟨⟨dx, hx⟩, hd⟩ := nu.mono s
  have q := q H' s
  have g := dH.t hd ta'
  refine ⟨x, A.c_Numbers, dx, _, .ref d, rfl, hx, T.cl_Numbers, T.na_Numbers_given, rfl, .inl ⟨d, bE kvs k, rfl, g, ?_⟩⟩
  unfold gm gc at q
  cases e : bE kvs k with
  | some w =>
    rw [e] at q g
    have q : Q w H' := q
    exact Sel.no rfl ⟨x, A.c_Numbers, dx, _, .ref d, rfl, hx, T.cl_Numbers, T.na_Numbers_given, rfl, .inr ⟨d, w, rfl, g, q⟩⟩
  | none =>
    rw [e] at q g
    have q : Q (.int kvs.length) (upd H' d (.dT (bx kvs k (.int kvs.length)))) := q
    have hx' : upd H' d (.dT (bx kvs k (.int kvs.length))) x = some (.ins A.c_Numbers dx [("given", .ref d)]) := by rw [ae (aS hx hd (fun z => nomatch z))]; exact hx
    have ha' : upd H' d (.dT (bx kvs k (.int kvs.length))) a = some (.tup (k.map kV)) := by rw [ae (aS ta' hd (fun z => nomatch z))]; exact ta'
    refine Sel.yes rfl ⟨x, A.c_Numbers, dx, _, .ref d, rfl, hx, T.cl_Numbers, T.na_Numbers_given, rfl, .inr ⟨d, kvs, rfl, hd, x, A.c_Numbers, dx, _, .ref d, rfl, hx, T.cl_Numbers, T.na_Numbers_given, rfl, .inr ⟨d, _, rfl, .inr ⟨kvs, k, a, hd, rfl, ta', Nat.lt_of_le_of_lt hl (aG (n := 50001) (by decide)), rfl⟩, ?_⟩⟩⟩
    have g2 := dH.t (kvs := bx kvs k (.int kvs.length)) (k := k) af ha'
    rw [iF, if_pos rfl] at g2
    exact ⟨x, A.c_Numbers, dx, _, .ref d, rfl, hx', T.cl_Numbers, T.na_Numbers_given, rfl, .inr ⟨d, _, rfl, g2, q⟩⟩
theorem zX (T : Txt K mg A) (a0 : V) (H : Hp) (Q : VK) (E : XK) (h : oN K A [a0] H Q E) : vM K A (dk ["term"] [a0] []) H Q := h
theorem zp (T : Txt K mg A) (a0 b0 : V) (H : Hp) (Q : VK) (E : XK) (h : oO K A [a0, b0] H Q E) : wJ K A (dk ["term", "numbers"] [a0] [b0]) H Q := by
 obtain ⟨x, d, p, kvs, k, e, nu, hl, hp, ok, h⟩ := h
 cases e
 obtain ⟨dx, hx⟩ := nu.ob
 exact ⟨x, dx, _, rfl, hx, rfl, x, d, p, kvs, k, rfl, nu, hl, hp, ok, h⟩
theorem ya {H : Hp} {b p : Addr} {kvs : List (List Key × V)} {kk : List Key} {d : V} (hb : H b = some (.dT kvs)) (hp : H p = some (.tup (kk.map kV))) (hl : kvs.length ≤ 50000) :
  xQ H b (.ref p) d (gm kvs kk d) (gc H b kvs kk d) := by
 unfold gm gc
 have g := dH.t hb hp
 cases e : bE kvs kk with
 | some v => rw [e] at g; exact .inl ⟨g, if_pos rfl⟩
 | none => rw [e] at g; exact .inr ⟨g, .inr ⟨kvs, kk, p, hb, rfl, hp, Nat.lt_of_le_of_lt hl (aG (n := 50001) (by decide)), if_neg (by decide)⟩, rfl⟩
theorem br.trans {P : Addr} {H H1 H2 : Hp} (a : br P H H1) (b : br P H1 H2) : br P H H2 := fun x o e n => b x o (a x o e n) n
theorem br.new {P p : Addr} {H : Hp} {o : HO} (h : H p = none) : br P H (upd H p o) := fun b u e _ => by rw [ae (aj e h)]; exact e
theorem br.tab {P : Addr} {H : Hp} {o : HO} : br P H (upd H P o) := fun b u e n => by rw [ae n]; exact e
theorem bH {H : Hp} {P q : Addr} {o : HO} (hP : H P = some o) (hq : H q = none) : q ≠ P := fun e => by rw [e, hP] at hq; cases hq
theorem aR {H : Hp} {p q : Addr} {o : HO} (h : upd H p o q = none) : q ≠ p ∧ H q = none := by
 by_cases e : q = p
 · subst e; rw [af] at h; cases h
 · rw [ae e] at h; exact ⟨e, h⟩
theorem ue {H : Hp} {P c f q : Addr} {o1 o2 : HO} {t : cD} {v : V} (hP : H P = some o1) (hc : H c = none) (hf : H f = none) (hne : c ≠ f) (hq : upd (upd (upd H P o2) c (ci c t.qual)) f (cN f t [q] c) q = none) :
  br P H (upd (upd (upd (upd H P o2) c (ci c t.qual)) f (cN f t [q] c)) q (bL q v)) ∧ cQ (upd (upd (upd (upd H P o2) c (ci c t.qual)) f (cN f t [q] c)) q (bL q v)) f t [q] [v] := by
 have c1 : upd H P o2 c = none := by rw [ae (bH hP hc)]; exact hc
 have f1 : upd (upd H P o2) c (ci c t.qual) f = none := by rw [ae (Ne.symm hne), ae (bH hP hf)]; exact hf
 have S3 := br.new (P := P) (o := bL q v) hq
 have S2 := (br.new (P := P) (o := cN f t [q] c) f1).trans S3
 have S1 := (br.new (P := P) (o := ci c t.qual) c1).trans S2
 exact ⟨br.tab.trans S1, ⟨⟨c, S3 _ _ af (bH hP hf), S2 _ _ af (bH hP hc)⟩, .cons af .nil⟩⟩
theorem lK : eK [] := fun p hp => nomatch hp
theorem nG.of {P : Addr} {H H' : Hp} {ps : Array Value} (hP : H P = some (.tbl ps)) (k : br P H H') : nG H H' := fun b o e n => k b o e fun z => by subst z; rw [hP] at e; cases e; exact n _ rfl
end Rs
namespace Rs
open PySem PySem.Spec PyProof.Rows L2
theorem qQ {x : Int} (h : x.natAbs < 2 ^ 64) : Builtin.Int.intBits x ≤ 64 := by
 unfold Builtin.Int.intBits
 split
 · decide
 · rename_i hx
   have hx : x ≠ 0 := by simpa using hx
   have : x.natAbs.log2 < 64 := (Nat.log2_lt (by omega)).mpr h
   omega
theorem oy {x y : Int} (h0 : 0 ≤ x) (h : x < 2 ^ 64) : IntMulOk x y := IntMulOk.of_left (qQ (by omega))
theorem AX {x y : Int} (h0 : 0 ≤ y) (h : y < 2 ^ 64) : IntMulOk x y := IntMulOk.of_right (qQ (by omega))
variable {K : W.Frag} {mg : Str → Option Value} {A : Adr}
end Rs
namespace Rs
open PySem PySem.Spec PyProof.Rows L2
theorem wu {H : Hp} {P c f q0 q1 : Addr} {o1 o2 : HO} {t : cD} {v0 v1 : V} (hP : H P = some o1) (hc : H c = none) (hf : H f = none) (hne : c ≠ f) (n01 : q0 ≠ q1) (h0 : upd (upd (upd H P o2) c (ci c t.qual)) f (cN f t [q0, q1] c) q0 = none) (h1 : upd (upd (upd H P o2) c (ci c t.qual)) f (cN f t [q0, q1] c) q1 = none) :
  br P H (upd (upd (upd (upd (upd H P o2) c (ci c t.qual)) f (cN f t [q0, q1] c)) q0 (bL q0 v0)) q1 (bL q1 v1)) ∧ cQ (upd (upd (upd (upd (upd H P o2) c (ci c t.qual)) f (cN f t [q0, q1] c)) q0 (bL q0 v0)) q1 (bL q1 v1)) f t [q0, q1] [v0, v1] := by
 have c1 : upd H P o2 c = none := by rw [ae (bH hP hc)]; exact hc
 have f1 : upd (upd H P o2) c (ci c t.qual) f = none := by rw [ae (Ne.symm hne), ae (bH hP hf)]; exact hf
 have h1' : upd (upd (upd (upd H P o2) c (ci c t.qual)) f (cN f t [q0, q1] c)) q0 (bL q0 v0) q1 = none := by rw [ae (Ne.symm n01)]; exact h1
 have S4 := br.new (P := P) (o := bL q1 v1) h1'
 have S3 := (br.new (P := P) (o := bL q0 v0) h0).trans S4
 have S2 := (br.new (P := P) (o := cN f t [q0, q1] c) f1).trans S3
 have S1 := (br.new (P := P) (o := ci c t.qual) c1).trans S2
 exact ⟨br.tab.trans S1, ⟨⟨c, S3 _ _ af (bH hP hf), S2 _ _ af (bH hP hc)⟩, .cons (by rw [ae n01]; exact af) (.cons af .nil)⟩⟩
variable {K : W.Frag} {mg : Str → Option Value} {A : Adr}
theorem Ae (T : Txt K mg A) (a0 b0 b1 : V) (H : Hp) (Q : VK) (E : XK) (h : ow K A [a0, b0, b1] H Q E) : xm K A { nx := fun _ H' => Q .non H', rt := Q } (dk ["_law_term", "_law_step", "_law_known"] [a0] [b0, b1]) H := by
 obtain ⟨p, b, j, k, kvs, e, j0, j1, hp, hb, hl, q⟩ := h
 cases e
 exact ⟨.inr (.inr (.inl ⟨rfl, .inr ⟨_, hb⟩⟩)), .inr ⟨b, kvs, rfl, hb, oy j0 (by omega), b, .ref p, _, _, _, rfl, rfl, ya hb hp hl, q⟩⟩
theorem zh (T : Txt K mg A) (a0 b0 : V) (H : Hp) (Q : VK) (E : XK) (h : oM K A [a0, b0] H Q E) : xA K A { nx := fun _ H' => Q .non H', rt := Q } (dk ["_law_term", "_law_total", "_law_part", "_law_many"] [a0] [b0]) H := by
  obtain ⟨p, m, k, e, h1, h2, hp, ok, q⟩ := h
  cases e
  refine .inl (.inr (.inl ⟨_, SqT.of hp, ?_⟩))
  refine ⟨p, rfl, .inr ⟨⟨_, SqT.of hp⟩, ?_⟩⟩
  rw [List.length_map]
  refine vB (xs := k.map kV) (fun i σ H' => H' = H ∧ ∃ x2, σ = [some (.ref p), some (.int ((k.take i).foldl jh k.length)), x2, some (.int m)]) ⟨rfl, none, rfl⟩ ?_ ?_ ?_
  · rintro i σ _ _ ⟨rfl, _⟩; exact SqT.of hp
  · rintro i x σ _ hx ⟨rfl, x2, rfl⟩
    obtain ⟨kk, hk, rfl⟩ := dY hx
    have okk : okP kk = true := jA ok (List.mem_of_getElem? hk)
    have st := oB jh (k.length : Int) k i kk hk
    cases kk with
    | inl n =>
      refine ⟨by decide, "int", rfl, Sel.no rfl ⟨IntMulOk.of_left (by decide), rfl, some (.int n), ?_⟩⟩
      rw [st]; rfl
    | inr z =>
      refine ⟨by decide, "str", rfl, Sel.yes rfl ⟨IntMulOk.of_left (by decide), ?_⟩⟩
      obtain ⟨hz, hl⟩ := Bool.and_eq_true_iff.mp okk
      have hl := of_decide_eq_true hl
      refine .inl ⟨aG (by omega), rfl, some (.str z), ?_⟩
      rw [st]; rfl
  · rintro σ _ ⟨rfl, x2, rfl⟩
    have e : k.take (k.map kV).length = k := by rw [List.length_map, List.take_length]
    rw [e]
    exact ⟨by omega, q⟩
end Rs
namespace Rs
open PySem PySem.Spec PyProof.Rows L2
theorem Sub.rfl' {g : List Key → Option Key} : Sub g g := fun _ _ e => e
theorem Sub.trans {g g1 g2 : List Key → Option Key} (a : Sub g g1) (b : Sub g1 g2) : Sub g g2 := fun k v e => b k v (a k v e)
theorem Ext.of {g g' : List Key → Option Key} {h : List Key → Key} (s : Sub g g') (e : Ext g' h) : Ext g h := fun k v z => e k v (s k v z)
theorem fR (kvs : List (List Key × Key)) (k : List Key) : bE (aZ kvs) k = (bF kvs k).map kV := by
 unfold bE aZ bF
 rw [List.find?_map]
 simp only [Option.map_map]
 congr 1
theorem pQ {kvs : List (List Key × Key)} {k : List Key} {v : Key} {x : List Key × Key} (h : bF kvs k = some v) : bF (kvs ++ [x]) k = some v := by
 unfold bF at h ⊢
 rw [List.find?_append]
 cases e : kvs.find? fun p => decide (p.1 = k) with
 | none => rw [e] at h; cases h
 | some y => rw [e] at h; exact h
theorem rf {kvs : List (List Key × Key)} {k : List Key} {d : Key} (h : bF kvs k = none) : bF (kvs ++ [(k, d)]) k = some d := by
 unfold bF at h ⊢
 rw [List.find?_append]
 cases e : kvs.find? fun p => decide (p.1 = k) with
 | none => simp
 | some y => rw [e] at h; cases h
theorem sA {kvs : List (List Key × Key)} {k : List Key} {v : Key} (h : bF kvs k = some v) : bE (aZ kvs) k = some (kV v) := by rw [fR, h]; rfl
theorem sf {kvs : List (List Key × Key)} {k : List Key} {v : Key} (hs : eK kvs) (h : bF kvs k = some v) : fS v := by
  unfold bF at h
  cases e : kvs.find? fun p => decide (p.1 = k) with
  | none => rw [e] at h; cases h
  | some y =>
    rw [e] at h
    cases h
    exact hs y (List.mem_of_find?_eq_some e)
theorem ml {kvs : List (List Key × Key)} {x : List Key × Key} (h : eK kvs) (hx : fS x.2) : eK (kvs ++ [x]) := fun p hp => by
 rcases List.mem_append.mp hp with z | z
 · exact h p z
 · rw [List.mem_singleton.mp z]; exact hx
theorem jd {k : List Key} {v : Key} (hk : 1 ≤ k.length) (h : fS v) : lW k v := by
  cases v with
  | inl i => exact h
  | inr z =>
    refine ⟨h.1, Nat.le_trans h.2 ?_⟩
    cases k with
    | nil => simp at hk
    | cons x r =>
      show 62 ≤ ((x :: r).map szK).sum
      rw [List.map_cons, List.sum_cons]
      have : 62 ≤ szK x := by cases x with
        | inl i => exact Nat.le_refl 62
        | inr z => show 62 ≤ z.length + 62; omega
      omega
theorem lZ {H : Hp} {b : Addr} {cs : List Addr} {cvs : List V} {kvs : List (List Key × Key)} (kk : List Key) (d : Key) (hs : eK kvs) (hd : fS d) (hb : H b = some (.dT (aZ kvs))) (hc : bR H cs cvs) (H1 : Hp) (S : am (bX cs H) H1) :
    ∃ (kvs' : List (List Key × Key)) (v : Key) (H' : Hp), gm (aZ kvs) kk (kV d) = kV v ∧ bK cs H (gc H1 b (aZ kvs) kk (kV d)) = H' ∧ H' b = some (.dT (aZ kvs')) ∧ (∀ x o, x ≠ b → H x = some o → H' x = some o) ∧ kvs'.length ≤ kvs.length + 1 ∧ eK kvs' ∧ bF kvs' kk = some v ∧ fS v ∧ ∀ k v, bF kvs k = some v → bF kvs' k = some v := by
  have hbc : b ∉ cs := hc.notin hb fun _ z => nomatch z
  have S2 := am.hide cs S
  cases e : bF kvs kk with
  | some v =>
    have ev := sA e
    refine ⟨kvs, v, bK cs H H1, by unfold gm; rw [ev]; rfl, ?_, S2 _ _ hb, fun _ _ _ h => S2 _ _ h, Nat.le_succ _, hs, e, sf hs e, fun _ _ h => h⟩
    unfold gc; rw [ev]; rfl
  | none =>
    have ev : bE (aZ kvs) kk = none := by rw [fR, e]; rfl
    refine ⟨kvs ++ [(kk, d)], d, upd (bK cs H H1) b (.dT (aZ (kvs ++ [(kk, d)]))), by unfold gm; rw [ev]; rfl, ?_, af, fun x o n h => by rw [ae n]; exact S2 _ _ h, by simp, ml hs hd, rf e, hd, fun _ _ h => pQ h⟩
    unfold gc; rw [ev, if_neg (by decide), pO hbc, qZ _ ev]
    unfold aZ; rw [List.map_append]; rfl
variable {K : W.Frag} {mg : Str → Option Value} {A : Adr}
theorem m0 {x : cD × Sp} {l : List (cD × Sp)} : x ∈ x :: l := List.mem_cons_self
theorem mS {x y : cD × Sp} {l : List (cD × Sp)} (h : x ∈ l) : x ∈ y :: l := List.mem_cons_of_mem _ h
end Rs
namespace Rs
open PySem PySem.Spec PyProof.Rows L2
theorem aD.rfl' {b : Addr} {H : Hp} : aD b H H := fun _ _ _ e => e
theorem aD.trans {b : Addr} {H H1 H2 : Hp} (a : aD b H H1) (c : aD b H1 H2) : aD b H H2 := fun x o n e => c x o n (a x o n e)
theorem aD.same {b : Addr} {H H' : Hp} (S : am H H') : aD b H H' := fun x o _ e => S x o e
variable {K : W.Frag} {mg : Str → Option Value} {A : Adr}
theorem wA (K : W.Frag) (A : Adr) : Ln (kS K A) 0 := by rintro vs H Q E ⟨rfl, _⟩; rfl
theorem AE (T : Txt K mg A) (hnd : ([] : List Addr).Nodup) (vs : List V) (H : Hp) (Q : VK) (E : XK) (h : kS K A vs H Q E) : wt K A { nx := fun σ H' => (∀ p ∈ ([] : List (Nat × Addr)), H' p.2 = none) → Q .non (cf [] σ H'), rt := fun σ v H' => (∀ p ∈ ([] : List (Nat × Addr)), H' p.2 = none) → Q v (cf [] σ H') } (L2.bY [] vs) H := by
 obtain ⟨rfl, hP, q⟩ := h
 refine ⟨#[], hP, trivial, .inl ⟨rfl, fun c f hc hf hne _ => ?_⟩⟩
 have cP := bH hP hc
 have fP := bH hP hf
 have c1 : ∀ o, upd H A.t_43 o c = none := fun o => by rw [ae cP]; exact hc
 have f1 : ∀ o, upd (upd H A.t_43 o) c (ci c eC.qual) f = none := fun o => by rw [ae (Ne.symm hne), ae fP]; exact hf
 exact q f f _ _ (br.tab.trans ((br.new (c1 _)).trans (br.new (f1 _)))) (.wri ⟨⟨c, af, (ae hne).trans af⟩, .nil⟩ rfl rfl) hf
theorem xS (K : W.Frag) (A : Adr) : Ln (kT K A) 0 := by rintro vs H Q E ⟨rfl, _⟩; rfl
theorem Ah (T : Txt K mg A) (q0 : Addr) (hnd : ([q0] : List Addr).Nodup) (vs : List V) (H : Hp) (Q : VK) (E : XK) (h : kT K A vs H Q E) : wa K A q0 { nx := fun σ H' => (∀ p ∈ ([(0, q0)] : List (Nat × Addr)), H' p.2 = none) → Q .non (cf [(0, q0)] σ H'), rt := fun σ v H' => (∀ p ∈ ([(0, q0)] : List (Nat × Addr)), H' p.2 = none) → Q v (cf [(0, q0)] σ H') } (L2.bY ["numbers"] vs) H := by
 obtain ⟨rfl, hP, q⟩ := h
 intro x dx hx hdx hne
 refine ⟨x, dx, rfl, af, fun d hd => ⟨rfl, ?_⟩⟩
 obtain ⟨dnx, hd1⟩ := aR hd
 obtain ⟨dndx, hd0⟩ := aR hd1
 have xP := bH hP hx
 have dxP := bH hP hdx
 have dP := bH hP hd0
 generalize e2 : upd (upd (upd (upd H dx (.own x)) x (.ins A.c_Numbers dx [])) d (.dT [])) x (.ins A.c_Numbers dx [("given", .ref d)]) = H2
 have S2 : br A.t_26 H H2 := by
  intro b o e n
  have b1 := aj e hx
  have b2 := aj e hdx
  have b3 := aj e hd0
  rw [← e2, ae b1, ae b3, ae b1, ae b2]; exact e
 have hP2 : H2 A.t_26 = some (.tbl #[]) := by rw [← e2, ae (Ne.symm xP), ae (Ne.symm dP), ae (Ne.symm xP), ae (Ne.symm dxP)]; exact hP
 have hx2 : H2 x = some (.ins A.c_Numbers dx [("given", .ref d)]) := by rw [← e2, af]
 have hd2 : H2 d = some (.dT []) := by rw [← e2, ae dnx, af]
 refine ⟨#[], hP2, trivial, .inl ⟨rfl, fun c f hc hf hne hq => ?_⟩⟩
 obtain ⟨k, ca⟩ := ue (v := .ref x) hP2 hc hf hne (hq _ (List.mem_singleton.mpr rfl))
 exact q f d _ _ (S2.trans k) (.cnt q0 x [] ca ⟨⟨dx, k _ _ hx2 xP⟩, k _ _ hd2 dP⟩ (Nat.zero_le _) lK rfl) hd0
theorem xp (K : W.Frag) (A : Adr) : Ln (kJ K A) 1 := by rintro vs H Q E ⟨m, rfl, _⟩; rfl
theorem AO (T : Txt K mg A) (q0 : Addr) (hnd : ([q0] : List Addr).Nodup) (vs : List V) (H : Hp) (Q : VK) (E : XK) (h : kJ K A vs H Q E) : wl K A q0 { nx := fun σ H' => (∀ p ∈ ([(0, q0)] : List (Nat × Addr)), H' p.2 = none) → Q .non (cf [(0, q0)] σ H'), rt := fun σ v H' => (∀ p ∈ ([(0, q0)] : List (Nat × Addr)), H' p.2 = none) → Q v (cf [(0, q0)] σ H') } (L2.bY ["_law_many", "_law_stamp"] vs) H := by
 obtain ⟨m, rfl, m1, m2, hP, q⟩ := h
 refine ⟨#[], hP, trivial, .inl ⟨rfl, fun c f hc hf hne hq => ?_⟩⟩
 obtain ⟨k, ca⟩ := ue (v := .int m) hP hc hf hne (hq _ (List.mem_singleton.mpr rfl))
 exact q f f _ _ k (.wea q0 m m1 m2 ca rfl rfl) hf
theorem xO (K : W.Frag) (A : Adr) : Ln (kZ K A) 1 := by rintro vs H Q E ⟨j, rfl, _⟩; rfl
theorem Ao (T : Txt K mg A) (q0 q1 : Addr) (hnd : ([q0, q1] : List Addr).Nodup) (vs : List V) (H : Hp) (Q : VK) (E : XK) (h : kZ K A vs H Q E) : xI K A q0 q1 { nx := fun σ H' => (∀ p ∈ ([(0, q0), (1, q1)] : List (Nat × Addr)), H' p.2 = none) → Q .non (cf [(0, q0), (1, q1)] σ H'), rt := fun σ v H' => (∀ p ∈ ([(0, q0), (1, q1)] : List (Nat × Addr)), H' p.2 = none) → Q v (cf [(0, q0), (1, q1)] σ H') } (L2.bY ["_law_step", "_law_known", "_law_stamp"] vs) H := by
 obtain ⟨j, rfl, j0, j1, hP, q⟩ := h
 have n01 : q0 ≠ q1 := fun e => by simp [e] at hnd
 refine .inr fun b hb => ?_
 have bP : b ≠ A.t_17 := bH hP hb
 have hP1 : upd H b (.dT []) A.t_17 = some (.tbl #[]) := by rw [ae (Ne.symm bP)]; exact hP
 have S1 : br A.t_17 H (upd H b (.dT [])) := br.new hb
 refine ⟨#[], hP1, trivial, .inl ⟨rfl, fun c f hc hf hne hq => ?_⟩⟩
 obtain ⟨k, ca⟩ := wu (v0 := .int j) (v1 := .ref b) hP1 hc hf hne n01 (hq (0, q0) (by simp)) (hq (1, q1) (by simp))
 exact q f b _ _ (S1.trans k) (.sur q0 q1 j j0 j1 [] ca (k _ _ af bP) (Nat.zero_le _) lK rfl) hb
theorem xq (K : W.Frag) (A : Adr) : Ln (kP K A) 1 := by rintro vs H Q E ⟨c, rfl, _⟩; rfl
theorem Aj (T : Txt K mg A) : Rd (kP K A) (BW K A) ["_law_cell"] := by
 intro vs H Q E h
 obtain ⟨c, rfl, ⟨t1, t2, t3, t4, _⟩, q⟩ := h
 refine ⟨by decide, Sel.dec (fun h => ?_) (fun h => ?_)⟩
 · exact ⟨rfl, t1, fun f b g H' k s => q f b g H' (.of t1 k) s⟩
 refine ⟨by decide, Sel.dec (fun h => ?_) (fun h => ?_)⟩
 · exact ⟨rfl, t2, fun f b g H' k s => q f b g H' (.of t2 k) s⟩
 refine ⟨by decide, Sel.dec (fun h => ?_) (fun h => ?_)⟩
 · exact ⟨⟨by decide, by decide⟩, by decide, _, rfl, by omega, by omega, t3, fun f b g H' k s => q f b g H' (.of t3 k) s⟩
 · exact ⟨⟨by decide, by decide⟩, by decide, _, rfl, by omega, by omega, t4, fun f b g H' k s => q f b g H' (.of t4 k) s⟩
theorem Stp.clo {H : Hp} {f b : Addr} {g : List Key → Option Key} {n : Nat} (s : Stp A H f b g n) : ∃ ts ∈ er K A, ∃ cs cvs, cQ H f ts.1 cs cvs := by
 cases s with
 | wri hc _ _ => exact ⟨_, m0, _, _, hc⟩
 | cnt _ _ _ hc => exact ⟨_, mS m0, _, _, hc⟩
 | sur _ _ _ _ _ _ hc => exact ⟨_, mS (mS m0), _, _, hc⟩
 | wea _ _ _ _ hc => exact ⟨_, mS (mS (mS m0)), _, _, hc⟩
theorem Stp.keep {H H' : Hp} {f b : Addr} {g : List Key → Option Key} {n m : Nat} (s : Stp A H f b g n) (hn : n ≤ m) (k : ∀ z o, H z = some o → (∀ xs, o ≠ .lst xs) → (∀ ps, o ≠ .tbl ps) → (z = b ∨ ∀ kvs, o ≠ .dT kvs) → H' z = some o) : Stp A H' f b g m := by
  have kx : ∀ z φ, H z = some (.ext φ) → H' z = some (.ext φ) := fun z φ e => k z _ e (fun _ z => nomatch z) (fun _ z => nomatch z) (.inr fun _ z => nomatch z)
  have kd : ∀ xs, H b = some (.dT xs) → H' b = some (.dT xs) := fun φ e => k b _ e (fun _ z => nomatch z) (fun _ z => nomatch z) (.inl rfl)
  cases s with
  | wri hc hb hg => exact .wri (hc.keep kx) hb hg
  | cnt q x kvs hc num hl hs hg =>
    obtain ⟨⟨dx, h1⟩, h2⟩ := num
    exact .cnt q x kvs (hc.keep kx) ⟨⟨dx, k _ _ h1 (fun _ z => nomatch z) (fun _ z => nomatch z) (.inr fun _ z => nomatch z)⟩, kd _ h2⟩ (Nat.le_trans hl hn) hs hg
  | sur q0 q1 j j0 j1 kvs hc hb hl hs hg => exact .sur q0 q1 j j0 j1 kvs (hc.keep kx) (kd _ hb) (Nat.le_trans hl hn) hs hg
  | wea q m h1 h2 hc hb hg => exact .wea q m h1 h2 (hc.keep kx) hb hg
theorem Stp.same {H H' : Hp} {f b : Addr} {g : List Key → Option Key} {n m : Nat} (s : Stp A H f b g n) (hn : n ≤ m) (S : am H H') : Stp A H' f b g m := s.keep hn fun b o e _ _ _ => S b o e
theorem dX {H : Hp} {f b p : Addr} {g : List Key → Option Key} {n : Nat} {k : List Key} {R : VK} (s : Stp A H f b g n) (hn : n ≤ 45000) (hp : H p = some (.tup (k.map kV))) (ok : okT k = true)
    (q : ∀ (v : Key) (H' : Hp) (g' : List Key → Option Key), aD b H H' → Stp A H' f b g' (n + 1) → Sub g g' → g' k = some v → lW k v → R (kV v) H') : oY (er K A) f [.ref p] H R E0 := by
  have s0 := s
  have hk := (jE ok).1
  have ll : ∀ kvs : List (List Key × Key), (aZ kvs).length = kvs.length := fun kvs => by simp [aZ]
  cases s with
  | wri hc hb hg =>
    refine ⟨_, m0, _, _, hc, rfl, p, k, rfl, hc.cells.hide hp (fun _ z => nomatch z), ok, fun H' S => ?_⟩
    have S := am.hide _ S
    exact q (.inr (eN k)) _ g (aD.same S) (s0.same (Nat.le_succ _) S) Sub.rfl' (by rw [hg]) ⟨jV (ga ok), jX (ga ok)⟩
  | wea c m h1 h2 hc hb hg =>
    refine ⟨_, mS (mS (mS m0)), _, _, hc, rfl, p, m, k, rfl, h1, h2, hc.cells.hide hp (fun _ z => nomatch z), ok, ?_⟩
    have S := am.hide [c] (.refl (bX [c] H))
    have r0 := Int.emod_nonneg (k.foldl jh k.length) (b := m) (by omega)
    have r1 := Int.emod_lt_of_pos (k.foldl jh k.length) (b := m) (by omega)
    have p60 : (9 : Int) < 10 ^ 60 := by decide +kernel
    exact q (oa m k) _ g (aD.same S) (s0.same (Nat.le_succ _) S) Sub.rfl' (by rw [hg]) (show 0 ≤ _ ∧ _ < _ from ⟨r0, by omega⟩)
  | cnt c x kvs hc num hl hs hg =>
    have p60 : (50000 : Int) < 10 ^ 60 := by decide +kernel
    refine ⟨_, mS m0, _, _, hc, rfl, x, b, p, aZ kvs, k, rfl, num.hide hc.cells, by rw [ll]; omega, hc.cells.hide hp (fun _ z => nomatch z), ok, fun H' S => ?_⟩
    obtain ⟨dx, hx⟩ := num.ob
    obtain ⟨kvs', v, H2, ev, eH, hb', keep, hl', hs', gv, sv, sub⟩ := lZ k (.inl ((aZ kvs).length : Int)) hs (show 0 ≤ _ ∧ _ < _ from ⟨by omega, by rw [ll]; omega⟩) num.di hc.cells H' S
    rw [show V.int ((aZ kvs).length : Int) = kV (.inl ((aZ kvs).length : Int)) from rfl, ev, eH]
    refine q v H2 (bF kvs') (fun x o n e => keep x o n e)
      (.cnt c x kvs' (hc.keep fun x φ e => keep x _ (aS e num.di (fun z => nomatch z)) e) ⟨⟨dx, keep _ _ (aS hx num.di (fun z => nomatch z)) hx⟩, hb'⟩ (by omega) hs' rfl) ?_ gv (jd hk sv)
    rw [hg]; exact sub
  | sur q0 q1 j j0 j1 kvs hc hb hl hs hg =>
    have p60 : (50000000 : Int) < 10 ^ 60 := by decide +kernel
    have bd : 0 ≤ j * ((aZ kvs).length : Int) + 5 ∧ j * ((aZ kvs).length : Int) + 5 < 10 ^ 60 := by
      rw [ll]
      have h1 : j * (kvs.length : Int) ≤ 1000 * 45000 := Int.mul_le_mul (by omega) (by omega) (by omega) (by decide)
      have h2 : 0 ≤ j * (kvs.length : Int) := Int.mul_nonneg j0 (by omega)
      omega
    obtain ⟨kvs', v, H2, ev, eH, hb', keep, hl', hs', gv, sv, sub⟩ := lZ k (.inl (j * ((aZ kvs).length : Int) + 5)) hs bd hb hc.cells _ (.refl _)
    refine ⟨_, mS (mS m0), _, _, hc, rfl, p, b, j, k, aZ kvs, rfl, j0, j1, hc.cells.hide hp (fun _ z => nomatch z), hc.cells.hide hb (fun _ z => nomatch z), by rw [ll]; omega, ?_⟩
    dsimp only
    rw [show V.int (j * ((aZ kvs).length : Int) + 5) = kV (.inl (j * ((aZ kvs).length : Int) + 5)) from rfl, ev, eH]
    refine q v H2 (bF kvs') (fun x o n e => keep x o n e)
      (.sur q0 q1 j j0 j1 kvs' (hc.keep fun x φ e => keep x _ (aS e hb (fun z => nomatch z)) e) hb' (by omega) hs' rfl) ?_ gv (jd hk sv)
    rw [hg]; exact sub
end Rs
namespace Rs
open PySem PySem.Spec PyProof.Rows L2
theorem bQ {n : Nat} (h : 2 ≤ n) : 1 ≤ ai n ∧ ai n < n := by
 unfold ai
 have h1 := Nat.log2_self_le (n := n - 1) (by omega)
 exact ⟨Nat.one_le_two_pow, by omega⟩
theorem kh (h : List Key → Key) : ∀ (n m : Nat) (es : List Key), es.length ≤ n → es.length ≤ m → fb h n es = fb h m es := by
  intro n
  induction n with
  | zero =>
    intro m es h1 h2
    cases es with
    | nil => cases m <;> rfl
    | cons a r => simp at h1
  | succ n ih =>
    intro m es h1 h2
    cases m with
    | zero =>
      cases es with
      | nil => rfl
      | cons a r => simp at h2
    | succ m =>
      match es, h1, h2 with
      | [], _, _ => rfl
      | [e], _, _ => rfl
      | a :: b :: r, h1, h2 =>
        have hl : 2 ≤ (a :: b :: r).length := by simp
        obtain ⟨g1, g2⟩ := bQ hl
        show [_, h (fb h n ((a :: b :: r).take _)), h (fb h n ((a :: b :: r).drop _))] = [_, h (fb h m _), h (fb h m _)]
        rw [ih m _ (by rw [List.length_take]; omega) (by rw [List.length_take]; omega), ih m _ (by rw [List.length_drop]; omega) (by rw [List.length_drop]; omega)]
theorem gI (h : List Key → Key) {es : List Key} (hl : 2 ≤ es.length) : cS h es = [.inr "joint", h (cS h (es.take (ai es.length))), h (cS h (es.drop (ai es.length)))] := by
  obtain ⟨g1, g2⟩ := bQ hl
  unfold cS
  match es, hl with
  | a :: b :: r, hl =>
    show [_, h (fb h ((b :: r).length) ((a :: b :: r).take _)), h (fb h ((b :: r).length) ((a :: b :: r).drop _))] = _
    have e : (a :: b :: r).length = (b :: r).length + 1 := rfl
    rw [kh h ((b :: r).length) ((a :: b :: r).take (ai (a :: b :: r).length)).length _ (by rw [List.length_take]; omega) (Nat.le_refl _), kh h ((b :: r).length) ((a :: b :: r).drop (ai (a :: b :: r).length)).length _ (by rw [List.length_drop]; omega) (Nat.le_refl _)]
theorem lu {a c : Nat} (h1 : 1 ≤ c) (h2 : c ≤ 2 ^ a) : ai (2 ^ a + c) = 2 ^ a := by
 unfold ai
 congr 1
 have hp : 0 < 2 ^ a := Nat.two_pow_pos a
 have e1 : 2 ^ (a + 1) = 2 ^ a + 2 ^ a := by rw [Nat.pow_succ]; omega
 have n0 : 2 ^ a + c - 1 ≠ 0 := by omega
 have lo : a ≤ Nat.log2 (2 ^ a + c - 1) := (Nat.le_log2 n0).mpr (by omega)
 have hi : Nat.log2 (2 ^ a + c - 1) < a + 1 := (Nat.log2_lt n0).mpr (by omega)
 omega
theorem ox (h : List Key → Key) {s c : List Key} {a : Nat} (hs : s.length = 2 ^ a) (h1 : 1 ≤ c.length) (h2 : c.length ≤ s.length) : cS h (s ++ c) = [.inr "joint", h (cS h s), h (cS h c)] := by
 have hp : 0 < 2 ^ a := Nat.two_pow_pos a
 have hl : (s ++ c).length = 2 ^ a + c.length := by rw [List.length_append, hs]
 rw [gI h (by omega), hl, lu h1 (by omega), ← hs, List.take_left, List.drop_left]
structure dR (segs : List (List Key)) : Prop where
 pw : ∀ s ∈ segs, ∃ a, s.length = 2 ^ a
 fall : segs.Pairwise fun s t => t.length < s.length
theorem dR.nil : dR [] := ⟨(fun _ h => nomatch h), .nil⟩
theorem vy {a b : Nat} (h : 2 ^ a < 2 ^ b) : 2 ^ a + 2 ^ a ≤ 2 ^ b := by
 have : a < b := (Nat.pow_lt_pow_iff_right (by decide)).mp h
 have e : 2 ^ (a + 1) = 2 ^ a + 2 ^ a := by rw [Nat.pow_succ]; omega
 have := Nat.pow_le_pow_right (n := 2) (by decide) (show a + 1 ≤ b from this)
 omega
theorem dR.init {segs : List (List Key)} {s : List Key} (p : dR (segs ++ [s])) : dR segs ∧ (∃ a, s.length = 2 ^ a) ∧ ∀ t ∈ segs, s.length + s.length ≤ t.length := by
 have pf := List.pairwise_append.mp p.fall
 refine ⟨⟨fun t ht => p.pw t (List.mem_append_left _ ht), pf.1⟩, p.pw s (List.mem_append_right _ List.mem_cons_self), fun t ht => ?_⟩
 have hlt := pf.2.2 t ht s List.mem_cons_self
 obtain ⟨a, ea⟩ := p.pw s (List.mem_append_right _ List.mem_cons_self)
 obtain ⟨b, eb⟩ := p.pw t (List.mem_append_left _ ht)
 rw [ea, eb] at hlt ⊢
 exact vy hlt
theorem dR.push {segs : List (List Key)} {s : List Key} (p : dR segs) (ha : ∃ a, s.length = 2 ^ a) (h : ∀ t ∈ segs, s.length < t.length) : dR (segs ++ [s]) := by
 refine ⟨fun t ht => ?_, List.pairwise_append.mpr ⟨p.fall, .cons (fun _ z => nomatch z) .nil, fun t ht u hu => ?_⟩⟩
 · rcases List.mem_append.mp ht with z | z
   · exact p.pw t z
   · rw [List.mem_singleton.mp z]; exact ha
 · rw [List.mem_singleton.mp hu]; exact h t ht
end Rs
namespace Rs
open PySem PySem.Spec PyProof.Rows L2
theorem mh {H : Hp} (x : Key) : dh H (kV x) (jK x) := by
 cases x with
 | inl i => exact .int i
 | inr z => exact .str z
theorem ixL {K : W.Frag} {H : Hp} {Q : VK} {a : Addr} {xs : List V} {x : V} {i : Int} {j : Nat} (ha : H a = some (.lst xs)) (e : i = j) (hx : xs[j]? = some x) (q : Q x H) : aW K (.ref a) (.int i) H Q := by
 subst e
 refine .inl (.inl ⟨a, xs, j, x, rfl, rfl, SqL.of ha, ?_, q⟩)
 have hj := (List.getElem?_eq_some_iff.mp hx).1
 rw [pM (by omega) (by omega)]
 simp [List.getD_eq_getElem?_getD, hx]
theorem fE {e : Key} (h : okP e = true) : fg (jK e) = true := by
 cases e with
 | inl i => exact h
 | inr z => rfl
theorem Ac : (PySem.Str.length " !\"#$&'()*+,-./0123456789:;<=>?@ABCDEFGHIJKLMNOPQRSTUVWXYZ[\\]^_`" + PySem.Str.length "abcdefghijklmnopqrstuvwxyz{|}~") ≤ 1000000 := by decide +kernel
def sg1 : Str := " !\"#$&'()*+,-./0123456789:;<=>?@ABCDEFGHIJKLMNOPQRSTUVWXYZ[\\]^_`"
def sg2 : Str := "abcdefghijklmnopqrstuvwxyz{|}~"
theorem xW : (sg1 ++ sg2).length = 94 ∧ (sg1 ++ sg2).cps.toList.length = 94 ∧ (sg1 ++ sg2).cps.toList.all (· < 128) = true := by decide +kernel
theorem se {zs : List Str} (h : ∀ z ∈ zs, bU z = true) : bU (Txt.join "" zs) = true := by
 rw [jy]
 induction zs with
 | nil => decide +kernel
 | cons z r ih => exact kc (h z List.mem_cons_self) (ih fun y hy => h y (List.mem_cons_of_mem _ hy))
variable {K : W.Frag} {mg : Str → Option Value} {A : Adr}
theorem vF (K : W.Frag) (A : Adr) : Ln (gT K A) 1 := by rintro vs H Q E ⟨m, rfl, _⟩; rfl
theorem yz (T : Txt K mg A) : Rd (gT K A) (Ck K A) ["many"] := by
 intro vs H Q E h
 obtain ⟨m, rfl, h2, h60, q⟩ := h
 have e : (Builtin.Int.intBits ((m : Int) - 1) : Int) - 1 = ((Nat.log2 (m - 1) : Nat) : Int) := by
  unfold Builtin.Int.intBits
  rw [if_neg (by simp; omega)]
  have : ((m : Int) - 1).natAbs = m - 1 := by omega
  rw [this]; omega
 have hl : Nat.log2 (m - 1) < 60 := by
  have h1 := Nat.log2_self_le (n := m - 1) (by omega)
  exact (Nat.pow_lt_pow_iff_right (by decide : 1 < 2)).mp (by omega : 2 ^ Nat.log2 (m - 1) < 2 ^ 60)
 refine ⟨rfl, ?_⟩
 show ((0 ≤ (Builtin.Int.intBits ((m : Int) - 1) : Int) - 1 ∧ _ ∧ _) ∧ Q (.int (1 * 2 ^ ((Builtin.Int.intBits ((m : Int) - 1) : Int) - 1).toNat)) H)
 rw [e]
 refine ⟨⟨by omega, by omega, by decide⟩, ?_⟩
 rw [Int.one_mul, Int.toNat_natCast, ← yC]
 exact q
theorem vW (K : W.Frag) (A : Adr) : Ln (ji K A) 1 := by rintro vs H Q E ⟨i, rfl, _⟩; rfl
theorem yM (T : Txt K mg A) : Rd (ji K A) (Bj K A) ["thing"] := by
 intro vs H Q E h
 obtain ⟨i, rfl, h0, h1, q⟩ := h
 refine ⟨_, _, rfl, .int i, Sel.t (Sel.yes (decide_eq_true h0) ⟨by decide, ?_⟩)⟩
 have e : decide (i < 1 * 2 ^ (60 : Int).toNat) = true := decide_eq_true (by show i < 1 * 2 ^ 60; omega)
 show Q (.bl (decide (i < 1 * 2 ^ (60 : Int).toNat))) H
 rw [e]; exact q
theorem wb (K : W.Frag) (A : Adr) : Ln (jp K A) 2 := by rintro vs H Q E ⟨i, j, rfl, _⟩; rfl
theorem yK (T : Txt K mg A) : Rd (jp K A) (BG K A) ["count", "place"] := by
 intro vs H Q E h
 obtain ⟨c, p, rfl, h0, h1, h2, q⟩ := h
 refine ⟨c, rfl, by omega, h2, Sel.t ⟨_, _, rfl, .int p, Sel.t (Sel.yes (decide_eq_true h0) ?_)⟩⟩
 show Q (.bl (decide (p < c))) H
 rw [decide_eq_true h1]; exact q
theorem wD (K : W.Frag) (A : Adr) : Ln (lg K A) 1 := by rintro vs H Q E ⟨i, rfl, _⟩; rfl
theorem AD (T : Txt K mg A) : Rd (lg K A) (BT K A) ["_law_found"] := by
 intro vs H Q E h
 obtain ⟨x, rfl, q⟩ := h
 cases x with
 | inl i => exact ⟨by decide, _, rfl, Sel.t ⟨by decide, _, rfl, q⟩⟩
 | inr z => exact ⟨by decide, _, rfl, Sel.f q⟩
theorem xn (K : W.Frag) (A : Adr) : Ln (cI K A) 2 := by rintro vs H Q E ⟨a, ns, k, rfl, _⟩; rfl
theorem AA (T : Txt K mg A) : Rd (cI K A) (Cf K A) ["_law_script", "_law_k"] := by
 intro vs H Q E h
 obtain ⟨a, ns, k, rfl, hs, h0, q⟩ := h
 refine .inl (.inl ⟨_, hs, Sel.dec (fun h => ?_) (fun h => ?_)⟩)
 · have h : k < ((ns.map V.int).length : Int) := h
   rw [List.length_map] at h
   have hl : k.toNat < ns.length := by omega
   have hv : atI (ns.map V.int) k = some (.int (bN ns k)) := by
    unfold atI ixN bN
    rw [if_pos h0, if_pos (by rw [List.length_map]; exact h), List.getD_eq_getElem?_getD, List.getElem?_eq_getElem hl]
    show (ns.map V.int)[k.toNat]? = _
    rw [List.getElem?_map, List.getElem?_eq_getElem hl]; rfl
   exact .inl (.inl ⟨a, _, k, _, rfl, rfl, hs, hv, q⟩)
 · have h : ¬ k < ((ns.map V.int).length : Int) := h
   rw [List.length_map] at h
   have e : bN ns k = 0 := by unfold bN; rw [List.getD_eq_getElem?_getD, List.getElem?_eq_none (by omega)]; rfl
   rw [e] at q; exact q
theorem ww (K : W.Frag) (A : Adr) : Ln (kM K A) 1 := by rintro vs H Q E ⟨i, rfl, _⟩; rfl
theorem zC (T : Txt K mg A) : Rd (kM K A) (BQ K A) ["_law_cell", "_law_some"] := by
 intro vs H Q E h
 obtain ⟨c, rfl, q⟩ := h
 obtain ⟨g1, g2, g3⟩ := xW
 refine ⟨aG Ac, ?_⟩
 show wQ K A _ [some (.int c), some (.str (sg1 ++ sg2))] H
 refine ⟨rfl, by decide, c % 5, rfl, by omega, by omega, fun D hD => ?_⟩
 refine fV (cg.range (lo := 0) (n := (c % 5).toNat)) (fun i ys H2 => ∃ zs : List Str, ys = zs.map V.str ∧ zs.length = i ∧ (∀ z ∈ zs, z.length = 1 ∧ bU z = true) ∧ H2 = upd H D (.lst ys)) (fun _ _ _ _ _ => trivial) ⟨[], rfl, rfl, (fun _ h => nomatch h), rfl⟩ (fun i ys H2 hi ⟨zs, e1, e2, e3, e4⟩ => ?_) ?_
 · subst e4
   refine md ⟨⟨by decide, by decide⟩, ⟨by decide, by decide⟩, by decide, AX (by omega) (by omega), by decide, ?_⟩
   generalize (c / 5 + _ : Int) = w
   obtain ⟨cc, hcc⟩ := xX (xs := (sg1 ++ sg2).cps.toList) (i := w % 94) (by omega) (by rw [g2]; omega)
   refine .inl (.inr (.inr ⟨_, _, cc, rfl, rfl, by rw [g1]; exact aG (by decide), hcc, ?_⟩))
   have hyl : ys.length = i := by rw [e1, List.length_map, e2]
   refine ⟨af, by rw [hyl]; exact cm (by omega), CWd.next hi ⟨zs ++ [⟨#[cc]⟩], by rw [e1, List.map_append]; rfl, by rw [List.length_append, e2]; rfl, fun z hz => ?_, fX⟩⟩
   rcases List.mem_append.mp hz with h | h
   · exact e3 z h
   · rw [List.mem_singleton.mp h]
     refine ⟨rfl, ?_⟩
     obtain ⟨j, _, hj, _⟩ := ib hcc
     have := of_decide_eq_true (List.all_eq_true.mp g3 cc (List.mem_of_getElem? hj))
     unfold bU
     simp
     omega
 · rintro ys H2 ⟨zs, rfl, e2, e3, rfl⟩
   have hl : (Txt.join "" zs).length = zs.length := sI zs fun z hz => (e3 z hz).1
   refine ⟨_, _, zs, rfl, rfl, af, ?_, q _ _ (am.upd hD) (by rw [hl]; omega) (se fun z hz => (e3 z hz).2)⟩
   have e0 : (("" : String) : Str).length = 0 := by decide
   rw [e0, ix zs fun z hz => (e3 z hz).1]
   omega
theorem xk (K : W.Frag) (A : Adr) : Ln (kR K A) 1 := by rintro vs H Q E ⟨i, rfl, _⟩; rfl
theorem zf (T : Txt K mg A) : Rd (kR K A) (AW K A) ["_law_cell"] := by
 intro vs H Q E h
 obtain ⟨c, rfl, q⟩ := h
 have p60 : (7 : Int) < 10 ^ 60 := by decide +kernel
 have num : ∀ i : Int, 0 ≤ i → i < 10 ^ 60 → Q (.int i) H := fun i h0 h1 => q (.inl i) H (.refl _) ⟨decide_eq_true ⟨h0, h1⟩, show 62 ≤ 70 by decide⟩
 refine ⟨by decide, Sel.dec (fun h => ?_) (fun h => ?_)⟩
 · refine ⟨by decide, _, rfl, fun z H' S hz ha => q (.inr z) H' S ⟨?_, ?_⟩⟩
   · show (bU z && decide (z.length ≤ 100000)) = true
     rw [ha, decide_eq_true (by omega)]; rfl
   · show z.length + 62 ≤ 70
     omega
 refine ⟨by decide, Sel.dec (fun h => ?_) (fun h => ?_)⟩
 · refine ⟨by decide, ⟨by decide, by decide, by decide⟩, by decide +kernel, ?_⟩
   have p : (0 : Int) < 10 ^ 60 := by decide +kernel
   exact num (c / 4 % 10 ^ 60) (Int.emod_nonneg _ (Int.ne_of_gt p)) (Int.emod_lt_of_pos _ p)
 · exact ⟨by decide, by decide, num (c / 4 % 7) (by omega) (by omega)⟩
end Rs
namespace Rs
open PySem PySem.Spec PyProof.Rows L2
variable {K : W.Frag} {mg : Str → Option Value} {A : Adr}
theorem AC (K : W.Frag) (A : Adr) : Ln (iJ K A) 2 := by rintro vs H Q E ⟨x, dx, f, rfl, _⟩; rfl
theorem BZ (T : Txt K mg A) : Rd (iJ K A) (T_2 K A) ["self", "stamper"] := by
 intro vs H Q E h
 obtain ⟨x, dx, f, rfl, hx, q⟩ := h
 refine ⟨x, A.c_Row, dx, [], rfl, hx, T.cl_Row, T.na_Row_stamper, by decide, Nat.zero_le _, fun L hL => ?_⟩
 obtain ⟨Lx, hL⟩ := aR hL
 refine ⟨x, A.c_Row, dx, _, rfl, by rw [ae (Ne.symm Lx)]; exact af, T.cl_Row, T.na_Row_entries, by show 1 < 1000; decide, .inr fun D hD => ?_⟩
 obtain ⟨Dx, hD⟩ := aR hD
 obtain ⟨DL, hD⟩ := aR hD
 obtain ⟨_, hD⟩ := aR hD
 refine ⟨x, A.c_Row, dx, _, rfl, by rw [ae (Ne.symm Dx)]; exact af, T.cl_Row, T.na_Row_tops, by show 2 < 1000; decide, q L D _ (fun z o zx e => ?_) hL hD (Ne.symm DL) af ?_ ?_⟩
 · rw [ae zx, ae (aj e hD), ae zx, ae (aj e hL), ae zx]; exact e
 · rw [ae Lx, ae (Ne.symm DL), ae Lx]; exact af
 · rw [ae Dx]; exact af
theorem Ai (K : W.Frag) (A : Adr) : Ln (gh K A) 2 := by rintro vs H Q E ⟨x, f, L, D, es, kvs, e, rfl, _⟩; rfl
theorem Bh (T : Txt K mg A) : Rd (gh K A) (T_3 K A) ["self", "entry"] := by
 intro vs H Q E h
 obtain ⟨x, f, L, D, es, kvs, e, rfl, r, en, le, q⟩ := h
 obtain ⟨dx, hx⟩ := r.ob
 have q : Q (.int (es.length : Int)) (upd H L (.lst (es.map kV ++ [kV e]))) := by
   rw [List.map_append] at q; exact q
 refine ⟨_, _, rfl, mh e, Sel.no (by rw [fE en.1]; rfl) ⟨x, A.c_Row, dx, _, .ref L, rfl, hx, T.cl_Row, T.na_Row_entries, rfl, .inl ⟨rfl, _, SqL.of r.hl⟩, L, _, _, rfl, rfl, r.hl, ?_, ?_⟩⟩
 · rw [List.length_map]; exact Nat.lt_of_lt_of_le le (aG (by decide))
 · have hL : x ≠ L := aS hx r.hl (fun z => nomatch z)
   refine ⟨x, A.c_Row, dx, _, .ref L, rfl, by rw [ae hL]; exact hx, T.cl_Row, T.na_Row_entries, rfl, .inl (.inl ⟨_, SqL.of af, ?_⟩)⟩
   have e : (((es.map kV ++ [kV e]).length : Nat) : Int) - 1 = (es.length : Int) := by simp
   show Q (.int ((((es.map kV ++ [kV _]).length : Nat) : Int) - 1)) _
   rw [e]; exact q
theorem zt (K : W.Frag) (A : Adr) : Ln (nw K A) 1 := by rintro vs H Q E ⟨x, f, L, D, es, kvs, rfl, _⟩; rfl
theorem AT (T : Txt K mg A) : Rd (nw K A) (T_6 K A) ["self"] := by
 intro vs H Q E h
 obtain ⟨x, f, L, D, es, kvs, rfl, r, q⟩ := h
 obtain ⟨dx, hx⟩ := r.ob
 refine ⟨x, A.c_Row, dx, _, .ref L, rfl, hx, T.cl_Row, T.na_Row_entries, rfl, .inl (.inl ⟨_, SqL.of r.hl, ?_⟩)⟩
 rw [List.length_map]; exact q
theorem zE (K : W.Frag) (A : Adr) : Ln (nV K A) 3 := by rintro vs H Q E ⟨x, f, L, D, es, kvs, c, p, rfl, _⟩; rfl
theorem BJ (T : Txt K mg A) : Rd (nV K A) (T_4 K A) ["self", "count", "place"] := by
 intro vs H Q E h
 obtain ⟨x, f, L, D, es, kvs, c, p, rfl, r, h0, h1, h2, q⟩ := h
 obtain ⟨dx, hx⟩ := r.ob
 have := r.le
 refine ⟨c, p, rfl, h0, h1, by omega, Sel.t ⟨x, dx, _, rfl, hx, rfl, x, f, L, D, es, kvs, rfl, r, ?_⟩⟩
 show Q (.bl (decide (c ≤ (es.length : Int)))) H
 rw [decide_eq_true h2]; exact q
theorem Ak (K : W.Frag) (A : Adr) : Ln (lF K A) 1 := by rintro vs H Q E ⟨x, f, L, D, es, kvs, rfl, _⟩; rfl
theorem Cd (T : Txt K mg A) : Rd (lF K A) (T_9 K A) ["self", "other"] := by
 intro vs H Q E h
 obtain ⟨x, f, L, D, es, kvs, rfl, r, q⟩ := h
 obtain ⟨dx, hx⟩ := r.ob
 refine ⟨x, A.c_Row, dx, _, .ref f, rfl, hx, T.cl_Row, T.na_Row_stamper, rfl, fun y dy hy hdy ne => ?_⟩
 refine ⟨y, dy, f, rfl, af, fun L1 D1 H1 keep hL1 hD1 LD h1 h2 h3 => ⟨rfl, ?_⟩⟩
 obtain ⟨L1y, hL1⟩ := aR hL1
 obtain ⟨_, hL1⟩ := aR hL1
 obtain ⟨D1y, hD1⟩ := aR hD1
 obtain ⟨_, hD1⟩ := aR hD1
 have S1 : am H H1 := fun z o e => keep z o (aj e hy) (by rw [ae (aj e hy), ae (aj e hdy)]; exact e)
 refine ⟨x, A.c_Row, dx, _, .ref L, rfl, S1 _ _ hx, T.cl_Row, T.na_Row_entries, rfl, L, _, rfl, .inl (SqL.of (S1 _ _ r.hl)), fun L2 hL2 => ?_⟩
 have yL2 : y ≠ L2 := aj h1 hL2
 refine ⟨y, A.c_Row, dy, _, rfl, by rw [ae yL2]; exact h1, T.cl_Row, T.na_Row_entries, by show 3 < 1000; decide, q y L2 D1 _ (fun z o e => ?_) hy (S1.free hL2) hD1 ⟨⟨dy, af⟩, ?_, ?_, r.en, r.le⟩⟩
 · rw [ae (aj e hy), ae (aj (S1 _ _ e) hL2)]; exact S1 _ _ e
 · rw [ae (Ne.symm yL2)]; exact af
 · rw [ae D1y, ae (aj h3 hL2)]; exact h3
end Rs
namespace Rs
open PySem PySem.Spec PyProof.Rows L2
theorem hU {K : W.Frag} {H : Hp} {Q : VK} {L : Addr} {qs : List V} {p : V} (hL : H L = some (.lst (qs ++ [p]))) (q : Q p H) : aW K (.ref L) (.int (-1)) H Q :=
 .inl (.inl ⟨L, _, -1, p, rfl, rfl, SqL.of hL, tU _ _, q⟩)
theorem jl {w : Str} {r : List Key} (hw : okP (.inr w) = true) (hr : ∀ x ∈ r, okP x = true) (hl : r.length ≤ 7) : okT (.inr w :: r) = true := by
 show (decide (1 ≤ r.length + 1 ∧ r.length + 1 ≤ 8) && true && (okP (.inr w) && r.all okP)) = true
 rw [hw, List.all_eq_true.mpr hr, decide_eq_true (by omega)]; rfl
theorem hV {k : List Key} {v : Key} (h : lW k v) : szK v ≤ szT k + 62 := by
 cases v with
 | inl i => exact Nat.le_add_left _ _
 | inr z => exact Nat.add_le_add_right h.2 _
theorem fQ {k : List Key} {v : Key} (h : lW k v) (hs : szT k ≤ 100000) : okP v = true := by
  cases v with
  | inl i => exact decide_eq_true h
  | inr z =>
    show (bU z && decide (z.length ≤ 100000)) = true
    rw [h.1, decide_eq_true (Nat.le_trans h.2 hs)]; rfl
theorem iY : ∀ {a b : Key}, kV a = kV b → a = b
 | .inl _, .inl _, h => by cases h; rfl
 | .inr _, .inr _, h => by cases h; rfl
theorem uQ (kvs : List (List Key × Key)) (k : List Key) (v : Key) : ∃ kvs', aZ kvs' = bx (aZ kvs) k (kV v) ∧ kvs'.length ≤ kvs.length + 1 ∧ ∀ j, bF kvs' j = if j = k then some v else bF kvs j := by
  have fin : ∀ kvs' : List (List Key × Key), aZ kvs' = bx (aZ kvs) k (kV v) → ∀ j, bF kvs' j = if j = k then some v else bF kvs j := by
    intro kvs' e j
    have h := fR kvs' j
    rw [e, iF, fR] at h
    by_cases hj : j = k
    · rw [if_pos hj] at h ⊢
      cases g : bF kvs' j with
      | none => rw [g] at h; cases h
      | some w => rw [g] at h; rw [iY (Option.some.inj h)]
    · rw [if_neg hj] at h ⊢
      cases g : bF kvs' j with
      | none =>
        rw [g] at h
        cases g2 : bF kvs j with
        | none => rfl
        | some w => rw [g2] at h; cases h
      | some w =>
        rw [g] at h
        cases g2 : bF kvs j with
        | none => rw [g2] at h; cases h
        | some u => rw [g2] at h; rw [iY (Option.some.inj h)]
  by_cases c : ((aZ kvs).any fun kv => decide (kv.1 = k)) = true
  · have e : aZ (kvs.map fun kv => if kv.1 = k then (kv.1, v) else kv) = bx (aZ kvs) k (kV v) := by
      unfold bx
      rw [if_pos c]
      unfold aZ
      rw [List.map_map, List.map_map]
      apply List.map_congr_left
      intro p _
      show ((if p.1 = k then (p.1, v) else p).1, kV (if p.1 = k then (p.1, v) else p).2) = if p.1 = k then (p.1, kV v) else (p.1, kV p.2)
      by_cases h : p.1 = k
      · rw [if_pos h, if_pos h]
      · rw [if_neg h, if_neg h]
    exact ⟨_, e, by rw [List.length_map]; omega, fin _ e⟩
  · have e : aZ (kvs ++ [(k, v)]) = bx (aZ kvs) k (kV v) := by
      unfold bx
      rw [if_neg c]
      unfold aZ
      rw [List.map_append]; rfl
    exact ⟨_, e, by simp, fin _ e⟩
theorem ej.mono {g g' : List Key → Option Key} {es : List Key} {kvs : List (List Key × Key)} (c : ej g es kvs) (s : Sub g g') : ej g' es kvs := fun k v e => by
 obtain ⟨a, m, h1, h2, h3, h4, h5⟩ := c k v e
 exact ⟨a, m, h1, h2, h3, h4, fun h x => h5 h (Ext.of s x)⟩
theorem okW : okP (.inr "void") = true ∧ okP (.inr "entry") = true ∧ okP (.inr "joint") = true ∧ okP (.inr "row") = true := by decide +kernel
theorem okN {c : Nat} (h : c ≤ 1000) : okP (.inl (c : Int)) = true := by
 have p60 : (1000 : Int) < 10 ^ 60 := by decide +kernel
 have k : ∀ i : Int, 0 ≤ i → i < 10 ^ 60 → okP (.inl i) = true := fun i h0 h1 => decide_eq_true ⟨h0, h1⟩
 exact k _ (by omega) (by omega)
theorem szW : szK (.inr "void") = 66 ∧ szK (.inr "entry") = 67 ∧ szK (.inr "joint") = 67 ∧ szK (.inr "row") = 65 := by decide +kernel
theorem sz2 (x y : Key) : szT [x, y] = szK x + szK y := by simp [szT]
theorem sz3 (x y z : Key) : szT [x, y, z] = szK x + (szK y + szK z) := by simp [szT]
theorem sz1 (x : Key) : szT [x] = szK x := by simp [szT]
theorem sG : okT [.inr "void"] = true := jl okW.1 (fun _ h => nomatch h) (by decide)
theorem gL {e : Key} (h : okP e = true) : okT [.inr "entry", e] = true := jl okW.2.1 (fun x hx => by rw [List.mem_singleton.mp hx]; exact h) (show 1 ≤ 7 by decide)
theorem gJ {x y : Key} (hx : okP x = true) (hy : okP y = true) : okT [.inr "joint", x, y] = true := jl okW.2.2.1 (fun z hz => by
 rcases List.mem_cons.mp hz with h | h
 · rw [h]; exact hx
 · rw [List.mem_singleton.mp h]; exact hy) (show 2 ≤ 7 by decide)
theorem mF {c : Nat} {y : Key} (hc : c ≤ 1000) (hy : okP y = true) : okT [.inr "row", .inl (c : Int), y] = true := jl okW.2.2.2 (fun z hz => by
 rcases List.mem_cons.mp hz with h | h
 · rw [h]; exact okN hc
 · rw [List.mem_singleton.mp h]; exact hy) (show 2 ≤ 7 by decide)
variable {K : W.Frag} {mg : Str → Option Value} {A : Adr}
theorem Stp.bb {H : Hp} {f b : Addr} {g : List Key → Option Key} {n : Nat} (s : Stp A H f b g n) : (∃ φ, H b = some (.ext φ)) ∨ ∃ kvs, H b = some (.dT kvs) := by
 cases s with
 | wri hc hb hg => obtain ⟨c, h, _⟩ := hc.ex; rw [hb]; exact .inl ⟨_, h⟩
 | cnt q x kvs hc num hl hs hg => exact .inr ⟨_, num.di⟩
 | sur q0 q1 j h0 h1 kvs hc hb hl hs hg => exact .inr ⟨_, hb⟩
 | wea q m h1 h2 hc hb hg => obtain ⟨c, h, _⟩ := hc.ex; rw [hb]; exact .inl ⟨_, h⟩
theorem Stp.nb {H : Hp} {f b z : Addr} {g : List Key → Option Key} {n : Nat} {o : HO} (s : Stp A H f b g n) (h : H z = some o) (h1 : ∀ φ, o ≠ .ext φ) (h2 : ∀ kvs, o ≠ .dT kvs) : z ≠ b := by
 rcases s.bb with ⟨φ, e⟩ | ⟨kvs, e⟩
 · exact aS h e (h1 φ)
 · exact aS h e (h2 kvs)
theorem dq.same {H H' : Hp} {x f L D : Addr} {es : List Key} {kvs : List (List Key × Key)} (r : dq A H x f L D es kvs) (S : am H H') : dq A H' x f L D es kvs := by
 obtain ⟨dx, hx⟩ := r.ob
 exact ⟨⟨dx, S _ _ hx⟩, S _ _ r.hl, S _ _ r.hd, r.en, r.le⟩
section
variable {H H' : Hp} {x f L D b : Addr} {es : List Key} {kvs : List (List Key × Key)} {g g' : List Key → Option Key} {n m : Nat}
theorem bZ.same (r : bZ A H x f L D b es kvs g n) (S : am H H') (hn : n ≤ m) : bZ A H' x f L D b es kvs g m := ⟨r.r.same S, r.s.same hn S, r.c, r.db, Nat.le_trans r.kl hn⟩
theorem bZ.call (r : bZ A H x f L D b es kvs g n) (kb : aD b H H') (s : Stp A H' f b g' m) (sub : Sub g g') (hn : n ≤ m) : bZ A H' x f L D b es kvs g' m := by
 obtain ⟨dx, hx⟩ := r.r.ob
 exact ⟨⟨⟨dx, kb _ _ (r.s.nb hx (fun _ z => nomatch z) (fun _ z => nomatch z)) hx⟩, kb _ _ (r.s.nb r.r.hl (fun _ z => nomatch z) (fun _ z => nomatch z)) r.r.hl, kb _ _ r.db r.r.hd, r.r.en, r.r.le⟩, s, r.c.mono sub, r.db, Nat.le_trans r.kl hn⟩
theorem bZ.n2 (r : bZ A H x f L D b es kvs g n) {z : Addr} {o : HO} (h : H z = some o) (h1 : ∀ φ, o ≠ .ext φ) (h2 : ∀ kvs, o ≠ .dT kvs) : z ≠ b ∧ z ≠ D := ⟨r.s.nb h h1 h2, aS h r.r.hd (h2 _)⟩
theorem aY.trans {H1 H2 : Hp} (a : aY b D H H1) (c : aY b D H1 H2) : aY b D H H2 := fun x o n n' e => c x o n n' (a x o n n' e)
theorem aY.same (S : am H H') : aY b D H H' := fun x o _ _ e => S x o e
theorem aY.kb (k : aD b H H') : aY b D H H' := fun x o n _ e => k x o n e
end
theorem zo (K : W.Frag) (A : Adr) (n : Nat) : Ln (nv K A n) 3 := by rintro vs H Q E ⟨x, f, L, D, b, es, kvs, g, n, a, m, rfl, _⟩; rfl
theorem Bb (T : Txt K mg A) (n : Nat) (vs : List V) (H : Hp) (Q : VK) (E : XK) (h : nv K A n vs H Q E) : T_8 K A n { nx := fun _ H' => Q .non H', rt := Q } (L2.bY ["self", "first", "many", "ahead"] vs) H := by
 obtain ⟨x, f, L, D, b, es, kvs, g, N, a, m, rfl, r, ham, hm, hN, q⟩ := h
 obtain ⟨dx, hx⟩ := r.r.ob
 have l60 := r.r.le
 refine Sel.dec (fun h => ?_) (fun h => ?_)
 · obtain rfl : m = 0 := by omega
   refine ⟨aG (show 1 ≤ 1000000 by decide), fun p hp => q p [.inr "void"] kvs g _ (aY.same (am.upd hp)) (r.same (am.upd hp) (Nat.le_refl _)) Sub.rfl' af sG (by rw [sz1, szW.1]; decide) fun h _ => ?_⟩
   rw [List.take_zero]; rfl
 refine Sel.dec (fun h => ?_) (fun h => ?_)
 · obtain rfl : m = 1 := by omega
   obtain ⟨e, he⟩ : ∃ e, es[a]? = some e := ⟨_, List.getElem?_eq_getElem (by omega)⟩
   have en := r.r.en e (List.mem_of_getElem? he)
   refine ⟨x, A.c_Row, dx, _, .ref L, rfl, hx, T.cl_Row, T.na_Row_entries, rfl, ixL r.r.hl rfl (by rw [List.getElem?_map, he]; rfl) ⟨aG (show 2 ≤ 1000000 by decide), fun p hp => q p [.inr "entry", e] kvs g _ (aY.same (am.upd hp)) (r.same (am.upd hp) (Nat.le_refl _)) Sub.rfl' af (gL en.1) ?_ fun h _ => ?_⟩⟩
   · have := en.2
     rw [sz2, szW.2.1]; show _ ≤ 200; omega
   · have e1 : (es.drop a).take 1 = [e] := by rw [List.take_one, List.head?_drop, he]; rfl
     rw [e1]; rfl
 · have h2 : 2 ≤ m := by omega
   obtain ⟨g1, g2⟩ := bQ h2
   refine ⟨m, rfl, h2, by omega, x, dx, _, rfl, hx, rfl, x, f, L, D, b, es, kvs, g, N, a, ai m, rfl, r, by omega, by omega, by omega, fun v1 kvs1 g1' H1 k1 r1 s1 ok1 sz1' e1 => ?_⟩
   obtain ⟨dx1, hx1⟩ := r1.r.ob
   refine ⟨x, dx1, _, rfl, hx1, rfl, x, f, L, D, b, es, kvs1, g1', _, a + ai m, m - ai m, ?_, r1, by omega, by omega, by omega, fun v2 kvs2 g2' H2 k2 r2 s2 ok2 sz2' e2 => ?_⟩
   · rw [Int.natCast_add, Int.ofNat_sub (by omega)]
   · refine ⟨aG (show 3 ≤ 1000000 by decide), fun p hp => q p [.inr "joint", v1, v2] kvs2 g2' _ ((k1.trans k2).trans (aY.same (am.upd hp))) (r2.same (am.upd hp) (by omega)) (s1.trans s2) af (gJ ok1 ok2) ?_ fun h eh => ?_⟩
     · rw [sz3, szW.2.2.1]
       unfold szB at sz1' sz2' ⊢
       omega
     · have hl : ((es.drop a).take m).length = m := by rw [List.length_take, List.length_drop]; omega
       rw [gI h (by rw [hl]; exact h2), hl, e1 h (Ext.of s2 eh), e2 h eh, List.take_take, Nat.min_eq_left (by omega), List.drop_take, List.drop_drop]
theorem yI (K : W.Frag) (A : Adr) (n : Nat) : Ln (fJ K A n) 3 := by rintro vs H Q E ⟨x, f, L, D, b, es, kvs, g, n, a, m, rfl, _⟩; rfl
theorem xj (K : W.Frag) (A : Adr) : ∀ vs H Q E, fJ K A 0 vs H Q E → False := by rintro vs H Q E ⟨x, f, L, D, b, es, kvs, g, n, a, m, _, _, _, h, _⟩; omega
theorem Cj (T : Txt K mg A) (n : Nat) : Rd (fJ K A (n + 1)) (T_7 K A n) ["self", "first", "many", "part"] := by
  intro vs H Q E h
  obtain ⟨x, f, L, D, b, es, kvs, g, N, a, m, rfl, r, ham, hm, hN, q⟩ := h
  have l60 := r.r.le
  refine ⟨aG (show 2 ≤ 1000000 by decide), fun p hp => ?_⟩
  have S1 : am H (upd H p (.tup [.int (a : Int), .int (m : Int)])) := am.upd hp
  have r1 := r.same S1 (Nat.le_refl _)
  have hp1 : upd H p (.tup [.int (a : Int), .int (m : Int)]) p = some (.tup (([.inl (a : Int), .inl (m : Int)] : List Key).map kV)) := af
  generalize upd H p (.tup [.int (a : Int), .int (m : Int)]) = H1 at S1 r1 hp1
  obtain ⟨dx, hx1⟩ := r1.r.ob
  have g1 := dH.t r1.r.hd hp1
  rw [fR] at g1
  refine ⟨x, A.c_Row, dx, _, .ref D, rfl, hx1, T.cl_Row, T.na_Row_tops, rfl, .inl ⟨D, _, rfl, g1, ?_⟩⟩
  cases e : bF kvs [.inl (a : Int), .inl (m : Int)] with
  | some v =>
    rw [e] at g1
    refine Sel.no rfl ⟨x, A.c_Row, dx, _, .ref D, rfl, hx1, T.cl_Row, T.na_Row_tops, rfl, .inr ⟨D, _, rfl, g1, ?_⟩⟩
    obtain ⟨a', m', h1, h2, h3, h4, h5⟩ := r.c _ _ e
    have ea : a = a' := by have := Sum.inl.inj (List.cons.inj h1).1; omega
    have em : m = m' := by have := Sum.inl.inj (List.cons.inj (List.cons.inj h1).2).1; omega
    subst ea em
    exact q v kvs g H1 (aY.same S1) (r1.same am.rfl' (by omega)) Sub.rfl' h3 h4 h5
  | none =>
    refine Sel.yes rfl ⟨x, dx, _, f, rfl, hx1, rfl, r1.s.clo, x, dx, _, rfl, hx1, rfl, x, f, L, D, b, es, kvs, g, N, a, m, rfl, r1, ham, by omega, hN, fun p2 k kvs2 g2 H2 k2 r2 s2 hp2 okk szk ek => ?_⟩
    dsimp only [ag]
    refine dX r2.s (by omega) hp2 okk fun v H3 g3 kb s3 sub3 gv st => ?_
    have r3 := r2.call kb s3 sub3 (Nat.le_succ _)
    obtain ⟨np, np'⟩ := r1.n2 hp1 (fun _ z => nomatch z) (fun _ z => nomatch z)
    have hp3 := kb _ _ np (k2 _ _ np np' hp1)
    obtain ⟨dx3, hx3⟩ := r3.r.ob
    obtain ⟨kvs4, e4, l4, f4⟩ := uQ kvs2 [.inl (a : Int), .inl (m : Int)] v
    have kl := r2.kl
    have ll : (aZ kvs2).length = kvs2.length := by simp [aZ]
    refine ⟨x, A.c_Row, dx3, _, .ref D, rfl, hx3, T.cl_Row, T.na_Row_tops, rfl, .inr ⟨D, _, rfl, .inr ⟨_, [.inl (a : Int), .inl (m : Int)], p, r3.r.hd, rfl, hp3, Nat.lt_of_le_of_lt (m := 50000) (by omega) (aG (n := 50001) (by decide)), rfl⟩, ?_⟩⟩
    have xD : x ≠ D := aS hx3 r3.r.hd (fun z => nomatch z)
    have LD : L ≠ D := aS r3.r.hl r3.r.hd (fun z => nomatch z)
    have pD : p ≠ D := np'
    have szv : szK v ≤ szB m := Nat.le_trans (hV st) szk
    have okv : okP v = true := fQ st (by unfold szB at szk; omega)
    have ev : ∀ h, Ext g3 h → v = h (cS h ((es.drop a).take m)) := fun h eh => by rw [← ek h (Ext.of sub3 eh)]; exact (eh _ _ gv).symm
    have gg := dH.t (H := upd H3 D (.dT (bx (aZ kvs2) [.inl (a : Int), .inl (m : Int)] (kV v)))) (kvs := bx (aZ kvs2) [.inl (a : Int), .inl (m : Int)] (kV v)) (k := [.inl (a : Int), .inl (m : Int)]) af (by rw [ae pD]; exact hp3)
    rw [iF, if_pos rfl] at gg
    refine ⟨x, A.c_Row, dx3, _, .ref D, rfl, by rw [ae xD]; exact hx3, T.cl_Row, T.na_Row_tops, rfl, .inr ⟨D, _, rfl, gg, ?_⟩⟩
    have K4 : aY b D H3 (upd H3 D (.dT (bx (aZ kvs2) [.inl (a : Int), .inl (m : Int)] (kV v)))) := fun z o _ n e => by rw [ae n]; exact e
    refine q v kvs4 g3 _ ((((aY.same S1).trans k2).trans (aY.kb kb)).trans K4) ⟨⟨⟨dx3, by rw [ae xD]; exact hx3⟩, by rw [ae LD]; exact r3.r.hl, by rw [e4]; exact af, r3.r.en, r3.r.le⟩, ?_, ?_, r3.db, by omega⟩ (s2.trans sub3) okv szv ev
    · refine r3.s.keep (by omega) fun z o e _ _ hz => ?_
      have : z ≠ D := by
        rcases hz with h | h
        · rw [h]; exact Ne.symm r3.db
        · exact aS e r3.r.hd (h _)
      rw [ae this]; exact e
    · intro k' v' e'
      rw [f4] at e'
      by_cases hk : k' = [.inl (a : Int), .inl (m : Int)]
      · rw [if_pos hk] at e'
        obtain rfl := Option.some.inj e'
        exact ⟨a, m, hk, ham, okv, szv, ev⟩
      · rw [if_neg hk] at e'
        exact r3.c _ _ e'
end Rs
namespace Rs
open PySem PySem.Spec PyProof.Rows L2
theorem Cur.mono {g g' : List Key → Option Key} {c : List Key} {v : Key} (t : Cur g c v) (s : Sub g g') : Cur g' c v := ⟨t.ok, t.sz, fun h e => t.eq h (Ext.of s e)⟩
def PkW (H : Hp) (g : List Key → Option Key) (y : Addr × List Key) : Prop := ∃ v : Key, H y.1 = some (.tup [.int (y.2.length : Int), kV v]) ∧ Cur g y.2 v
abbrev sgs (xs : List (Addr × List Key)) : List (List Key) := xs.map (·.2)
structure Pk (A : Adr) (H : Hp) (f b P : Addr) (xs : List (Addr × List Key)) (g : List Key → Option Key) (N : Nat) : Prop where
 s : Stp A H f b g N
 l : H P = some (.lst (xs.map fun y => V.ref y.1))
 w : ∀ y ∈ xs, PkW H g y
 p : dR (sgs xs)
theorem jI (xs : List (Addr × List Key)) (h : 0 < xs.length) : ∃ ys p s, xs = ys ++ [(p, s)] := by
 rcases List.eq_nil_or_concat xs with e | ⟨ys, y, e⟩
 · rw [e] at h; cases h
 · exact ⟨ys, y.1, y.2, by rw [e]; simp⟩
variable {K : W.Frag} {mg : Str → Option Value} {A : Adr}
def LP (K : W.Frag) : TE := tOp (aW K) (gt K "list" jD (ab 2)) (tC (.int 1))
def LJ (K : W.Frag) (A : Adr) : TE := eW (er K A) (fun _ => E0) (ab 0) (ac (cO (ac (tC (.str "joint")) (ac (tOp (aW K) (gt K "list" jD (ab 2)) (tC (.int 1))) (ac (ab 5) (ag))))) (ag))
section
variable {H : Hp} {f b P E p : Addr} {xs : List (Addr × List Key)} {g : List Key → Option Key} {N : Nat} {s c : List Key} {v : Key} {x3 x4 x5 : Option V} {Q : VK}
theorem Pk.same {H' : Hp} {M : Nat} (k : Pk A H f b P xs g N) (S : am H H') (hn : N ≤ M) : Pk A H' f b P xs g M :=
 ⟨k.s.same hn S, S _ _ k.l, fun y hy => (k.w y hy).imp fun v h => ⟨S _ _ h.1, h.2⟩, k.p⟩
theorem Pk.call {H' : Hp} {M : Nat} {g' : List Key → Option Key} (k : Pk A H f b P xs g N) (kb : aD b H H') (s' : Stp A H' f b g' M) (sub : Sub g g') : Pk A H' f b P xs g' M :=
 ⟨s', kb _ _ (k.s.nb k.l (fun _ z => nomatch z) (fun _ z => nomatch z)) k.l, fun y hy => (k.w y hy).imp fun v h => ⟨kb _ _ (k.s.nb (o := .tup [.int (y.2.length : Int), kV v]) h.1 (fun _ z => nomatch z) (fun _ z => nomatch z)) h.1, h.2.mono sub⟩, k.p⟩
theorem Pk.set {ys : List (Addr × List Key)} (k : Pk A H f b P xs g N) (hw : ∀ y ∈ ys, PkW H g y) (hp : dR (sgs ys)) : Pk A (upd H P (.lst (ys.map fun y => V.ref y.1))) f b P ys g N := by
 refine ⟨k.s.keep (Nat.le_refl _) fun z o e h1 _ _ => ?_, af, fun y hy => (hw y hy).imp fun v h => ⟨?_, h.2⟩, hp⟩
 · rw [ae (aS e k.l (h1 _))]; exact e
 · rw [ae (aS h.1 k.l (fun z => nomatch z))]; exact h.1
theorem qe (k : Pk A H f b P (xs ++ [(p, s)]) g N) (q : ∀ v H', (∀ z o, z ≠ P → H z = some o → H' z = some o) → Pk A H' f b P xs g N → Cur g s v → Q (kV v) H') : LP K [some (.ref f), some (.ref E), some (.ref P), x3, x4, x5] H Q := by
 obtain ⟨v, hv, cv⟩ := k.w (p, s) (List.mem_append_right _ List.mem_cons_self)
 have e1 : ((xs ++ [(p, s)]).map fun y => V.ref y.1) = (xs.map fun y => V.ref y.1) ++ [.ref p] := by rw [List.map_append]; rfl
 have l := k.l
 rw [e1] at l
 refine ⟨.inl ⟨rfl, _, SqL.of l⟩, P, _, .ref p, rfl, rfl, l, by simp, ?_⟩
 rw [List.dropLast_concat]
 have nP : p ≠ P := aS hv k.l (fun z => nomatch z)
 exact ixT (j := 1) (by rw [ae nP]; exact hv) rfl rfl (q v _ (fun z o n e => by rw [ae n]; exact e) (k.set (fun y hy => k.w y (List.mem_append_left _ hy)) (by have := k.p; rw [show sgs (xs ++ [(p, s)]) = sgs xs ++ [s] from by simp] at this; exact this.init.1)) cv)
theorem uG {a c : Nat} {x y : Key} (h1 : 1 ≤ a) (h2 : 1 ≤ c) (hx : szK x ≤ szB a) (hy : szK y ≤ szB c) : szT [.inr "joint", x, y] + 62 ≤ szB (a + c) := by
 rw [sz3, szW.2.2.1]
 unfold szB at *
 omega
theorem uV (k : Pk A H f b P (xs ++ [(p, s)]) g N) (hN : N ≤ 44000) (cv : Cur g c v) (h1 : 1 ≤ c.length) (h2 : c.length ≤ s.length) (h60 : (s ++ c).length ≤ 60)
  (q : ∀ w g' H', (∀ z o, z ≠ b → z ≠ P → H z = some o → H' z = some o) → Pk A H' f b P xs g' (N + 1) → Sub g g' → Cur g' (s ++ c) w → Q (kV w) H') : LJ K A [some (.ref f), some (.ref E), some (.ref P), x3, x4, some (kV v)] H Q := by
 obtain ⟨a, ha⟩ := k.p.pw s (by simp)
 have hl : (s ++ c).length = s.length + c.length := List.length_append
 refine ⟨f, rfl, k.s.clo, ?_⟩
 refine qe (K := K) (E := E) k fun u H1 k1 pk1 cu => ⟨aG (show 3 ≤ 1000000 by decide), fun t ht => ?_⟩
 have S2 : am H1 (upd H1 t (.tup [.str "joint", kV u, kV v])) := am.upd ht
 have ht2 : upd H1 t (.tup [.str "joint", kV u, kV v]) t = some (.tup (([.inr "joint", u, v] : List Key).map kV)) := af
 have pk2 := pk1.same S2 (Nat.le_refl _)
 dsimp only [ag]
 have jz := uG (a := s.length) (c := c.length) (by omega) h1 cu.sz cv.sz
 refine dX pk2.s (by omega) ht2 (gJ cu.ok cv.ok) fun w H3 g3 kb s3 sub3 gv st => q w g3 H3 (fun z o n1 n2 e => kb z o n1 (S2 _ _ (k1 z o n2 e))) (pk2.call kb s3 sub3) sub3 ⟨fQ st (by unfold szB at jz; omega), by rw [hl]; exact Nat.le_trans (hV st) jz, fun h eh => ?_⟩
 rw [ox h ha h1 h2, ← eh _ _ gv, cu.eq h (Ext.of sub3 eh), cv.eq h (Ext.of sub3 eh)]
end
end Rs
namespace Rs
open PySem PySem.Spec PyProof.Rows L2
theorem eZ (xs : List (Addr × List Key)) (p : Addr) (s : List Key) : sgs (xs ++ [(p, s)]) = sgs xs ++ [s] := by simp
theorem jL (xs : List (Addr × List Key)) (p : Addr) (s : List Key) : (sgs (xs ++ [(p, s)])).flatten = (sgs xs).flatten ++ s := by rw [eZ]; simp
variable {K : W.Frag} {mg : Str → Option Value} {A : Adr}
structure Tw (A : Adr) (H0 H : Hp) (f b P : Addr) (xs : List (Addr × List Key)) (c : List Key) (g0 g : List Key → Option Key) (v : Key) (pre : List Key) (M : Nat) : Prop where
 pk : ∃ N, Pk A H f b P xs g N ∧ N + xs.length ≤ M
 fl : (sgs xs).flatten ++ c = pre
 c1 : 1 ≤ c.length
 le : ∀ y ∈ xs, c.length ≤ y.2.length
 cv : Cur g c v
 sub : Sub g0 g
 kb : aD b H0 H
theorem Tw.step {H0 H : Hp} {f b P p E : Addr} {xs : List (Addr × List Key)} {c s : List Key} {g0 g : List Key → Option Key} {v : Key} {pre : List Key} {M : Nat} {x3 x4 : Option V} {Q : VK} (w : Tw A H0 H f b P (xs ++ [(p, s)]) c g0 g v pre M) (hP : H0 P = none) (h60 : pre.length ≤ 60) (hM : M ≤ 44000)
  (q : ∀ w g' H', Tw A H0 H' f b P xs (s ++ c) g0 g' w pre M → Q (kV w) H') : LJ K A [some (.ref f), some (.ref E), some (.ref P), x3, x4, some (kV v)] H Q := by
 obtain ⟨⟨N, pk, hN⟩, fl, c1, le, cv, sub, kb⟩ := w
 rw [jL] at fl
 have hl : (sgs xs).flatten.length + s.length + c.length = pre.length := by rw [← fl]; simp only [List.length_append]
 have hs := le (p, s) (by simp)
 have pp := pk.p
 rw [eZ] at pp
 have pi := pp.init.2.2
 rw [List.length_append] at hN
 have hN : N + (xs.length + 1) ≤ M := hN
 refine uV pk (by omega) cv c1 hs (by rw [List.length_append]; omega) fun w g' H' k' pk' sub' cw => q w g' H' ⟨⟨N + 1, pk', by omega⟩, by rw [← fl, List.append_assoc], by rw [List.length_append]; omega, fun y hy => ?_, cw, sub.trans sub', fun z o n e => k' z o n (aj e hP) (kb z o n e)⟩
 have := pi y.2 (List.mem_map_of_mem hy)
 have hs : c.length ≤ s.length := hs
 rw [List.length_append]; omega
theorem vH (K : W.Frag) (A : Adr) : Ln (ig K A) 2 := by rintro vs H Q E ⟨f, b, F, es, g, n, rfl, _⟩; rfl
theorem zm (T : Txt K mg A) : Rd (ig K A) (BA K A) ["_law_stamper_here", "_law_entries", "_law_peaks", "_law_entry", "_law_many", "_law_top_here"] := by
 intro vs H Q E h
 obtain ⟨f, b, F, es, g, n, rfl, hF, en, l60, ne1, s, hn, q⟩ := h
 have nF : F ≠ b := s.nb hF (fun _ z => nomatch z) (fun _ z => nomatch z)
 refine ⟨Nat.zero_le _, fun P hP => ?_⟩
 have S1 : am H (upd H P (.lst [])) := am.upd hP
 refine ⟨F, rfl, .inl ⟨⟨_, SqL.of (S1 _ _ hF)⟩, ?_⟩⟩
 refine iK (xs := es.map kV) (fun i σ H' => ∃ xs g' N x3 x4 x5, σ = [some (.ref f), some (.ref F), some (.ref P), x3, x4, x5] ∧ Pk A H' f b P xs g' N ∧ (sgs xs).flatten = es.take i ∧ N + xs.length ≤ n + 2 * i ∧ Sub g g' ∧ aD b H H')
   ⟨[], g, n, none, none, none, rfl, ⟨s.same (Nat.le_refl _) S1, af, (fun _ h => nomatch h), dR.nil⟩, rfl, Nat.le_refl _, Sub.rfl', aD.same S1⟩
   (fun i σ H' _ h => ?_) (fun i x σ H1 hx h => ?_) (fun σ H1 h => ?_)
 · obtain ⟨xs, g', N, x3, x4, x5, rfl, pk, fl, cn, sub, kb⟩ := h
   exact SqL.of (kb _ _ nF hF)
 · obtain ⟨xs, g1, N, x3, x4, x5, rfl, pk, fl, cn, sub, kb⟩ := h
   obtain ⟨e, he, rfl⟩ := dY hx
   have hi := (List.getElem?_eq_some_iff.mp he).1
   have ene := en e (List.mem_of_getElem? he)
   refine ⟨f, rfl, pk.s.clo, aG (show 2 ≤ 1000000 by decide), fun p hp => ?_⟩
   have S2 : am H1 (upd H1 p (.tup [.str "entry", kV e])) := am.upd hp
   have hp2 : upd H1 p (.tup [.str "entry", kV e]) p = some (.tup (([.inr "entry", e] : List Key).map kV)) := af
   have pk2 := pk.same S2 (Nat.le_refl _)
   generalize upd H1 p (.tup [.str "entry", kV e]) = H2 at S2 hp2 pk2
   dsimp only [ag]
   refine dX pk2.s (by omega) hp2 (gL ene.1) fun v H3 g3 kb3 s3 sub3 gv st => ?_
   have z2 : szT [.inr "entry", e] + 62 ≤ szB 1 := by
     have := ene.2
     rw [sz2, szW.2.1]; show _ ≤ 200; omega
   have t1 : es.take (i + 1) = es.take i ++ [e] := by rw [List.take_add_one, he]; rfl
   have tl : (es.take (i + 1)).length ≤ 60 := by rw [List.length_take]; omega
   have w0 : Tw A H H3 f b P xs [e] g g3 v (es.take (i + 1)) (n + 2 * i + 1) := ⟨⟨N + 1, pk2.call kb3 s3 sub3, by omega⟩, by rw [fl, t1], Nat.le_refl 1, fun y hy => by
     obtain ⟨a, ha⟩ := pk.p.pw y.2 (List.mem_map_of_mem hy)
     show 1 ≤ y.2.length
     rw [ha]; exact Nat.one_le_two_pow, ⟨fQ st (by have := z2; show _ ≤ _; unfold szB at this; omega), Nat.le_trans (hV st) z2, fun h eh => (eh _ _ gv).symm⟩, sub.trans sub3, kb.trans ((aD.same S2).trans kb3)⟩
   refine ⟨fun m σ H' => ∃ xs c g' v a, σ = [some (.ref f), some (.ref F), some (.ref P), some (kV e), some (.int (c.length : Int)), some (kV v)] ∧ m = xs.length ∧ c.length = 2 ^ a ∧ Tw A H H' f b P xs c g g' v (es.take (i + 1)) (n + 2 * i + 1), ⟨_, xs, [e], g3, v, 0, rfl, rfl, rfl, w0⟩, ?_⟩
   rintro m σ H' ⟨xs, c, g', v, a, rfl, rfl, ha, w⟩
   obtain ⟨⟨N', pk', hN'⟩, fl', c1, le', cv, sub', kb'⟩ := id w
   have fin : (∀ y ∈ xs, c.length < y.2.length) → bW (tBM K "list" cE (ab 2) (ac (cO (ac (ab 4) (ac (ab 5) (ag)))) (ag))) { nx := fun σ H' => ∃ xs g' N x3 x4 x5, σ = [some (.ref f), some (.ref F), some (.ref P), x3, x4, x5] ∧ Pk A H' f b P xs g' N ∧ (sgs xs).flatten = es.take (i + 1) ∧ N + xs.length ≤ n + 2 * (i + 1) ∧ Sub g g' ∧ aD b H H', rt := Q } [some (.ref f), some (.ref F), some (.ref P), some (kV e), some (.int (c.length : Int)), some (kV v)] H' := by
     intro lt
     refine ⟨.inl ⟨rfl, _, SqL.of pk'.l⟩, aG (show 2 ≤ 1000000 by decide), fun p hp => ?_⟩
     have S4 : am H' (upd H' p (.tup [.int (c.length : Int), kV v])) := am.upd hp
     have pk4 := pk'.same S4 (Nat.le_refl _)
     have hp4 : upd H' p (.tup [.int (c.length : Int), kV v]) p = some (.tup [.int (c.length : Int), kV v]) := af
     generalize upd H' p (.tup [.int (c.length : Int), kV v]) = H4 at S4 pk4 hp4
     refine ⟨P, _, .ref p, rfl, rfl, pk4.l, ?_, ?_⟩
     · rw [List.length_map]; exact Nat.lt_of_le_of_lt (m := 50000) (by omega) (aG (n := 50001) (by decide))
     · have e5 : (xs.map fun y => V.ref y.1) ++ [.ref p] = (xs ++ [(p, c)]).map fun y => V.ref y.1 := by rw [List.map_append]; rfl
       rw [e5]
       refine ⟨xs ++ [(p, c)], g', N', _, _, _, rfl, pk4.set (fun y hy => ?_) ?_, by rw [jL]; exact fl', by rw [List.length_append]; show N' + (xs.length + 1) ≤ _; omega, sub', ?_⟩
       · rcases List.mem_append.mp hy with h | h
         · exact pk4.w y h
         · rw [List.mem_singleton.mp h]; exact ⟨v, hp4, cv⟩
       · rw [eZ]
         exact pk'.p.push ⟨a, ha⟩ fun t ht => by
           obtain ⟨y, hy, rfl⟩ := List.mem_map.mp ht
           exact lt y hy
       · intro z o nz ez
         rw [ae (aj ez hP)]
         exact S4 _ _ (kb' z o nz ez)
   refine .inl (.inl ⟨_, SqL.of pk'.l, Sel.dec (fun h => ?_) (fun h => ?_)⟩)
   · obtain ⟨ys, p, s', rfl⟩ := jI xs (by rw [List.length_map] at h; omega)
     obtain ⟨u, hu, _⟩ := pk'.w (p, s') (by simp)
     have l := pk'.l
     rw [List.map_append] at l
     refine hU l (ixT (j := 0) hu rfl rfl ?_)
     refine cq (Sel.dec (fun h => ?_) (fun h => ?_))
     · refine ⟨fun σ H' => ∃ xs c g' v a, σ = [some (.ref f), some (.ref F), some (.ref P), some (kV e), some (.int (c.length : Int)), some (kV v)] ∧ ys.length = xs.length ∧ c.length = 2 ^ a ∧ Tw A H H' f b P xs c g g' v (es.take (i + 1)) (n + 2 * i + 1), fun σ' H' hh => ⟨ys.length, by rw [List.length_append]; exact Nat.lt_succ_self _, hh⟩, ?_⟩
       refine w.step (K := K) hP tl (by omega) fun w2 g2 H2 tw2 => ?_
       have hsc : (s'.length : Int) = c.length := h
       have el : (s' ++ c).length = 2 * c.length := by rw [List.length_append]; omega
       have hcl : c.length ≤ 60 := by
         have := congrArg List.length fl'
         rw [List.length_append] at this
         omega
       refine ⟨oy (by omega) (by omega), ys, s' ++ c, g2, w2, a + 1, ?_, rfl, by rw [el, ha, Nat.pow_succ]; omega, tw2⟩
       rw [el, Int.natCast_mul]; rfl
     · refine fin fun y hy => ?_
       have hs := le' (p, s') (by simp)
       have hs : c.length ≤ s'.length := hs
       have hne : ¬ (s'.length : Int) = c.length := h
       rcases List.mem_append.mp hy with h | h
       · have pp := pk'.p
         rw [eZ] at pp
         have := pp.init.2.2 y.2 (List.mem_map_of_mem h)
         omega
       · rw [List.mem_singleton.mp h]; show c.length < s'.length; omega
   · refine fin fun y hy => ?_
     rw [List.length_map] at h
     have := List.length_pos_of_mem hy
     omega
 · obtain ⟨xs, g1, N, x3, x4, x5, rfl, pk, fl, cn, sub, kb⟩ := h
   rw [List.length_map, List.take_length] at fl
   rw [List.length_map] at cn
   · obtain ⟨ys, p, s', rfl⟩ := jI xs (by
       cases xs with
       | nil => rw [← fl] at ne1; exact absurd ne1 (by decide)
       | cons _ _ => exact Nat.succ_pos _)
     have pp := pk.p
     rw [eZ] at pp
     obtain ⟨a, ha⟩ := pp.init.2.1
     have hp1 : 0 < 2 ^ a := Nat.two_pow_pos a
     rw [List.length_append] at cn
     have cn : N + (ys.length + 1) ≤ n + 2 * es.length := cn
     refine qe (K := K) (E := F) pk fun v H2 k2 pk2 cv => ?_
     have w0 : Tw A H H2 f b P ys s' g g1 v es (n + 2 * es.length) := ⟨⟨N, pk2, by omega⟩, by rw [← jL]; exact fl, by omega, fun y hy => by
       have := pp.init.2.2 y.2 (List.mem_map_of_mem hy)
       omega, cv, sub, fun z o n1 e => k2 z o (aj e hP) (kb z o n1 e)⟩
     refine ⟨fun m σ H' => ∃ xs c g' v, σ = [some (.ref f), some (.ref F), some (.ref P), x3, x4, some (kV v)] ∧ m = xs.length ∧ Tw A H H' f b P xs c g g' v es (n + 2 * es.length), ⟨_, ys, s', g1, v, rfl, rfl, w0⟩, ?_⟩
     rintro m σ H' ⟨xs, c, g', v, rfl, rfl, w⟩
     obtain ⟨⟨N', pk', hN'⟩, fl', c1, le', cv, sub', kb'⟩ := id w
     refine .inl (.inl ⟨_, SqL.of pk'.l, ?_⟩)
     refine cq (Sel.dec (fun h => ?_) (fun h => ?_))
     · obtain ⟨zs, p, s', rfl⟩ := jI xs (by rw [List.length_map] at h; omega)
       refine ⟨fun σ H' => ∃ xs c g' v, σ = [some (.ref f), some (.ref F), some (.ref P), x3, x4, some (kV v)] ∧ zs.length = xs.length ∧ Tw A H H' f b P xs c g g' v es (n + 2 * es.length), fun σ' H' hh => ⟨zs.length, by rw [List.length_append]; exact Nat.lt_succ_self _, hh⟩, ?_⟩
       exact w.step (K := K) hP l60 (by omega) fun w2 g2 H2 tw2 => ⟨zs, s' ++ c, g2, w2, rfl, rfl, tw2⟩
     · rw [List.length_map] at h
       obtain rfl : xs = [] := List.eq_nil_of_length_eq_zero (by omega)
       obtain rfl : c = es := fl'
       exact q v g' H' kb' (pk'.s.same (by omega) am.rfl') sub' cv.ok cv.sz cv.eq
end Rs
namespace Rs
open PySem PySem.Spec PyProof.Rows L2
theorem yh {xs : List V} {c : Nat} (h : c ≤ xs.length) : df xs none (some (c : Int)) = xs.take c := by
 unfold df
 rw [HT.eX, HT.lC, List.drop_zero, Nat.sub_zero, Nat.min_eq_left h]
theorem sR {xs : List V} {c : Nat} (h : c ≤ xs.length) : df xs (some (c : Int)) none = xs.drop c := by
 unfold df
 rw [HT.eX, HT.lC, Nat.min_eq_left h, List.take_of_length_le (by rw [List.length_drop]; omega)]
theorem jo {K : W.Frag} {H : Hp} {E : Addr} {es : List Key} {c : Nat} {Q : VK} (hE : H E = some (.lst (es.map kV))) (hc : c ≤ es.length) (q : ∀ p, H p = none → Q (.ref p) (upd H p (.lst ((es.take c).map kV)))) : cB K (.ref E) none (some (c : Int)) H Q := by
 refine .inl (.inl ⟨E, _, rfl, SqL.of hE, fun p hp => ?_⟩)
 rw [yh (by rw [List.length_map]; exact hc), ← List.map_take]; exact q p hp
theorem jG {K : W.Frag} {H : Hp} {E : Addr} {es : List Key} {c : Nat} {Q : VK} (hE : H E = some (.lst (es.map kV))) (hc : c ≤ es.length) (q : ∀ p, H p = none → Q (.ref p) (upd H p (.lst ((es.drop c).map kV)))) : cB K (.ref E) (some (c : Int)) none H Q := by
 refine .inl (.inl ⟨E, _, rfl, SqL.of hE, fun p hp => ?_⟩)
 rw [sR (by rw [List.length_map]; exact hc), ← List.map_drop]; exact q p hp
def hOf (g : List Key → Option Key) (k : List Key) : Key := (g k).getD (.inl 0)
theorem mI (g : List Key → Option Key) : Ext g (hOf g) := fun k v e => by unfold hOf; rw [e]; rfl
theorem rW {K : W.Frag} {H : Hp} {Q : VK} {a : Key} (q : Q (.bl true) H) : da K (kV a) (kV a) H Q := rV (by rw [decide_eq_true rfl]; exact q)
theorem xr {H : Hp} (e : Key) : ∃ t, tyN H (kV e) = some t ∧ isI t "bool" = false ∧ (isI t "str" = true ∨ qF e = true) := by
 cases e with
 | inl i => exact ⟨_, rfl, by decide, .inr rfl⟩
 | inr z => exact ⟨_, rfl, by decide, .inl (by decide)⟩
variable {K : W.Frag} {mg : Str → Option Value} {A : Adr}
end Rs
namespace Rs
open PySem PySem.Spec PyProof.Rows L2
variable {K : W.Frag} {mg : Str → Option Value} {A : Adr}
def cC (A : Adr) (H : Hp) (f b : Addr) (g : List Key → Option Key) (n : Nat) (x L D : Addr) (es : List Key) : Prop := ∃ kvs, bZ A H x f L D b es kvs g n
section
variable {H H' : Hp} {f b x L D y M F : Addr} {g g' : List Key → Option Key} {n m : Nat} {es fs : List Key}
theorem cC.same (r : cC A H f b g n x L D es) (S : am H H') (hn : n ≤ m) : cC A H' f b g m x L D es := r.imp fun _ r => r.same S hn
theorem cC.other (r : cC A H f b g n x L D es) (s : cC A H f b g n y M F fs) (r' : cC A H' f b g' m y M F fs) (k : aY b F H H') (sub : Sub g g') (hn : n ≤ m) (ne : D ≠ F) : cC A H' f b g' m x L D es := by
 obtain ⟨kvs, r⟩ := r
 obtain ⟨_, s⟩ := s
 obtain ⟨_, r'⟩ := r'
 obtain ⟨dx, hx⟩ := r.r.ob
 obtain ⟨n1, n2⟩ := s.n2 hx (fun _ z => nomatch z) (fun _ z => nomatch z)
 obtain ⟨n3, n4⟩ := s.n2 r.r.hl (fun _ z => nomatch z) (fun _ z => nomatch z)
 exact ⟨kvs, ⟨⟨dx, k _ _ n1 n2 hx⟩, k _ _ n3 n4 r.r.hl, k _ _ r.db ne r.r.hd, r.r.en, r.r.le⟩, r'.s, r.c.mono sub, r.db, Nat.le_trans r.kl hn⟩
theorem cC.keepL {ys : List V} (r : cC A H f b g n x L D es) (k : ∀ z o, z ≠ M → H z = some o → H' z = some o) (hM : H M = some (.lst ys)) (ne : L ≠ M) : cC A H' f b g n x L D es := by
 obtain ⟨kvs, r⟩ := r
 obtain ⟨dx, hx⟩ := r.r.ob
 refine ⟨kvs, ⟨⟨dx, k _ _ (aS hx hM (fun z => nomatch z)) hx⟩, k _ _ ne r.r.hl, k _ _ (aS r.r.hd hM (fun z => nomatch z)) r.r.hd, r.r.en, r.r.le⟩, r.s.keep (Nat.le_refl _) fun z o e h1 _ _ => k z o (aS e hM (h1 _)) e, r.c, r.db, r.kl⟩
theorem ej.grow {kvs : List (List Key × Key)} {bq : List Key} (c : ej g es kvs) : ej g (es ++ bq) kvs := fun k v e => by
 obtain ⟨a, m, h1, h2, h3, h4, h5⟩ := c k v e
 refine ⟨a, m, h1, by rw [List.length_append]; omega, h3, h4, ?_⟩
 rw [List.drop_append_of_le_length (by omega), List.take_append_of_le_length (by rw [List.length_drop]; omega)]
 exact h5
theorem bZ.grow {kvs : List (List Key × Key)} {all : List Key} (r : bZ A H x f L D b es kvs g n) (k : ∀ z o, z ≠ L → H z = some o → H' z = some o) (r' : dq A H' x f L D all kvs) (ha : ∃ bq, all = es ++ bq) : cC A H' f b g n x L D all := by
 obtain ⟨bq, rfl⟩ := ha
 exact ⟨kvs, r', r.s.keep (Nat.le_refl _) fun z o e h1 _ _ => k z o (aS e r.r.hl (h1 _)) e, r.c.grow, r.db, r.kl⟩
end
theorem wL {H : Hp} {f : Addr} {Q : Addr → Hp → Prop} {E : XK} (q : ∀ x L D H', am H H' → H x = none → H L = none → H D = none → dq A H' x f L D [] [] → Q x H') :
  ∀ x dx, H x = none → H dx = none → dx ≠ x → iJ K A [.ref x, .ref f] (upd (upd H dx (.own x)) x (.ins A.c_Row dx [])) (fun v H2 => v = .non ∧ Q x H2) E := by
 intro x dx hx hdx ne
 refine ⟨x, dx, f, rfl, af, fun L D H' keep hL hD LD h1 h2 h3 => ⟨rfl, ?_⟩⟩
 have hL' := (aR (aR hL).2).2
 have hD' := (aR (aR hD).2).2
 refine q x L D H' (fun z o e => keep z o (aj e hx) ?_) hx hL' hD' ⟨⟨dx, h1⟩, h2, h3, (fun _ h => nomatch h), Nat.zero_le _⟩
 rw [ae (aj e hx), ae (aj e hdx)]; exact e
theorem dq.toX {H : Hp} {f b x L D : Addr} {g : List Key → Option Key} {n : Nat} {es : List Key} (r : dq A H x f L D es []) (s : Stp A H f b g n) (ne : D ≠ b) : cC A H f b g n x L D es := ⟨[], r, s, (fun _ _ e => nomatch e), ne, Nat.zero_le _⟩
section
variable {H1 H H' : Hp} {f b x1 L1 D1 x2 L2 D2 x3 L3 D3 : Addr} {g g' : List Key → Option Key} {n m : Nat} {e1 e3 : List Key} {kvs : List (List Key × Key)}
theorem aD.k2 {D : Addr} (kb : aD b H1 H) (k : aY b D H H') (h : H1 D = none) : aD b H1 H' := fun z o n e => k z o n (aj e h) (kb z o n e)
theorem aD.kl {L : Addr} (kb : aD b H1 H) (k : ∀ z o, z ≠ L → H z = some o → H' z = some o) (h : H1 L = none) : aD b H1 H' := fun z o n e => k z o (aj e h) (kb z o n e)
end
end Rs
namespace Rs
open PySem PySem.Spec PyProof.Rows L2
theorem qY {n : Nat} (h : 2 ≤ n) : n - ai n ≤ ai n := by
 unfold ai
 have h1 := Nat.lt_log2_self (n := n - 1)
 rw [Nat.pow_succ] at h1
 omega
theorem Mks.mono {g g' : List Key → Option Key} {ss : List (List Key)} {ks : List Key} (m : Mks g ss ks) (s : Sub g g') : Mks g' ss ks := L2.Paired.mapP m fun _ _ c => c.mono s
theorem Mks.ok {g : List Key → Option Key} : ∀ {ss : List (List Key)} {ks : List Key}, Mks g ss ks → ∀ k ∈ ks, okP k = true
  | _, _, .nil, k, h => nomatch h
  | _, _, .cons c t, k, h => by
    rcases List.mem_cons.mp h with z | z
    · rw [z]; exact c.ok
    · exact Mks.ok t k z
theorem Mks.eq {g g' : List Key → Option Key} : ∀ {ss : List (List Key)} {ks js : List Key}, Mks g ss ks → Mks g' ss js → Sub g g' → ks = js
  | _, _, _, .nil, h, _ => by cases h; rfl
  | _, _, _, .cons c t, h, s => by
    cases h with
    | cons d u =>
      have x := mI g'
      rw [Mks.eq t u s, d.eq _ x, c.eq _ (Ext.of s x)]
end Rs
namespace Rs
open PySem PySem.Spec PyProof.Rows L2
variable {K : W.Frag} {mg : Str → Option Value} {A : Adr}
theorem yn (K : W.Frag) (A : Adr) : Ln (ln K A) 3 := by rintro vs H Q E ⟨t, o, a, rfl, _⟩; rfl
theorem zL (T : Txt K mg A) : Rd (ln K A) (Bc K A) ["turn", "own", "aside"] := by
 intro vs H Q E h
 obtain ⟨t, o, a, rfl, q⟩ := h
 unfold jtT at q
 refine Sel.dec (fun h => ⟨aG (show 3 ≤ 1000000 by decide), fun p hp => ?_⟩) (fun h => ⟨aG (show 3 ≤ 1000000 by decide), fun p hp => ?_⟩)
 · rw [if_pos h] at q; exact q p hp
 · rw [if_neg h] at q; exact q p hp
theorem vS (K : W.Frag) (A : Adr) : Ln (kU K A) 1 := by rintro vs H Q E ⟨p, c, v, rfl, _⟩; rfl
theorem yx (T : Txt K mg A) : Rd (kU K A) (BV K A) ["thing"] := by
 intro vs H Q E h
 obtain ⟨p, c, v, rfl, hp, hc, okv, q⟩ := h
 have ty : tyN H (.ref p) = some "tuple" := by unfold tyN; dsimp only; rw [hp]
 refine ⟨by decide, "tuple", ty, Sel.t (.inl (.inr (.inl ⟨_, SqT.of hp, Sel.t (ixT (j := 0) hp rfl rfl ⟨c, rfl, by omega, by omega, Sel.t (ixT (j := 1) hp rfl rfl ⟨_, _, rfl, mh v, ?_⟩)⟩)⟩)))⟩
 rw [fE okv]; exact q
theorem vG (K : W.Frag) (A : Adr) : Ln (kC K A) 1 := by rintro vs H Q E ⟨p, c, v, rfl, _⟩; rfl
theorem Am (T : Txt K mg A) : Rd (kC K A) (Bn K A) ["thing"] := by
 intro vs H Q E h
 obtain ⟨p, c, v, rfl, hp, hc, okv, q⟩ := h
 exact ⟨p, c, v, rfl, hp, hc, okv, Sel.no rfl q⟩
theorem xV (K : W.Frag) (A : Adr) : Ln (kF K A) 2 := by rintro vs H Q E ⟨p, ks, rfl, _⟩; rfl
theorem AM (T : Txt K mg A) : Rd (kF K A) (Bz K A) ["many", "thing"] := by
 intro vs H Q E h
 obtain ⟨p, k, rfl, hp, ok, l5, q⟩ := h
 have ty : tyN H (.ref p) = some "tuple" := by unfold tyN; dsimp only; rw [hp]
 have hml : (k.map kV).length = k.length := by simp
 refine ⟨by decide, "tuple", ty, Sel.t (.inl (.inr (.inl ⟨_, SqT.of hp, ?_⟩)))⟩
 rw [hml]
 refine Sel.dec (fun _ => ?_) (fun h => absurd rfl h)
 refine ⟨p, rfl, .inr ⟨⟨_, SqT.of hp⟩, fun D hD => ?_⟩⟩
 have hne : p ≠ D := aj hp hD
 refine fV (cg.tuple (xs := k.map kV) .non) (fun i ys H2 => ys = (k.take i).map (fun x => V.bl true) ∧ H2 = upd H D (.lst ys)) (fun i ys H2 hi ⟨_, e2⟩ => ?_) ⟨rfl, rfl⟩ (fun i ys H2 hi ⟨e1, e2⟩ => ?_) (fun ys H2 ⟨e1, e2⟩ => ?_)
 · rw [e2]; exact SqT.of (by rw [ae hne]; exact hp)
 · subst e2
   have hi' : i < k.length := by omega
   obtain ⟨x, hx⟩ : ∃ x, k[i]? = some x := ⟨_, List.getElem?_eq_getElem hi'⟩
   have hg : (k.map kV).getD i .non = kV x := by rw [List.getD_eq_getElem?_getD, List.getElem?_map, hx]; rfl
   rw [hg]
   have hs := fE (ok x (List.mem_of_getElem? hx))
   refine md ⟨_, jK x, rfl, qR _ x, ?_⟩
   rw [hs]
   have hyl : ys.length = i := by rw [e1, List.length_map, List.length_take]; omega
   refine ⟨af, by rw [hyl]; exact cm (by omega), CWd.next hi ⟨?_, fX⟩⟩
   rw [e1, List.take_add_one, List.map_append, hx]; rfl
 · subst e2
   refine ⟨D, k.map fun _ => true, rfl, by rw [af, e1, hml, List.take_length, List.map_map]; rfl, ?_⟩
   have : (k.map fun _ => true).all id = true := by simp
   rw [this]; exact q _ (am.upd hD)
theorem wP (K : W.Frag) (A : Adr) : Ln (gX K A) 2 := by rintro vs H Q E ⟨x, rfl, _⟩; rfl
theorem zZ (T : Txt K mg A) : Rd (gX K A) (Bf K A) ["_law_found", "_law_due_here"] := by
 intro vs H Q E h
 obtain ⟨w, rfl, q⟩ := h
 have fin : da K (kV w) (kV w) H Q := rW q
 obtain ⟨ty, ht, _, h⟩ := xr (H := H) w
 refine ⟨by decide, ty, ht, ?_⟩
 by_cases hb : isI ty "str" = true
 · exact Sel.yes hb (Sel.t fin)
 · rcases h with h | h
   · exact absurd h hb
   · exact Sel.no (by simpa using hb) ⟨w, rfl, Sel.yes h fin⟩
end Rs
namespace Rs
open PySem PySem.Spec PyProof.Rows L2
theorem vd {xs : List V} {a c : Nat} (h : c ≤ xs.length) (h2 : a ≤ c) : df xs (some (a : Int)) (some (c : Int)) = (xs.drop a).take (c - a) := by
 unfold df
 rw [HT.eX, HT.eX, Nat.min_eq_left h, Nat.min_eq_left (by omega)]
theorem qA {K : W.Frag} {H : Hp} {E : Addr} {es : List Key} {a c : Nat} {Q : VK} (hE : H E = some (.lst (es.map kV))) (hc : c ≤ es.length) (ha : a ≤ c) (q : ∀ p, H p = none → Q (.ref p) (upd H p (.lst (((es.drop a).take (c - a)).map kV)))) : cB K (.ref E) (some (a : Int)) (some (c : Int)) H Q := by
 refine .inl (.inl ⟨E, _, rfl, SqL.of hE, fun p hp => ?_⟩)
 rw [vd (by rw [List.length_map]; exact hc) ha, ← List.map_drop, ← List.map_take]; exact q p hp
variable {K : W.Frag} {mg : Str → Option Value} {A : Adr}
theorem Stp.setL {H : Hp} {f b P : Addr} {g : List Key → Option Key} {n : Nat} {xs ys : List V} (s : Stp A H f b g n) (hP : H P = some (.lst xs)) : Stp A (upd H P (.lst ys)) f b g n := s.keep (Nat.le_refl _) fun z o e h1 _ _ => by rw [ae (aS e hP (h1 _))]; exact e
end Rs
namespace Rs
open PySem PySem.Spec PyProof.Rows L2
theorem fI : ∀ (n m r p : Nat), r ≤ n → r ≤ m → bw n r p = bw m r p := by
  have zero : ∀ (m r p : Nat), r ≤ 1 → bw m r p = [] := by
    intro m r p h
    cases m with
    | zero => rfl
    | succ m => rw [bw, if_pos h]
  intro n
  induction n with
  | zero => intro m r p h1 h2; rw [zero 0 r p (by omega), zero m r p (by omega)]
  | succ n ih =>
    intro m r p h1 h2
    cases m with
    | zero => rw [zero (n + 1) r p (by omega), zero 0 r p (by omega)]
    | succ m =>
      rw [bw, bw]
      by_cases c : r ≤ 1
      · rw [if_pos c, if_pos c]
      · rw [if_neg c, if_neg c]
        obtain ⟨g1, g2⟩ := bQ (n := r) (by omega)
        rw [ih m (ai r) p (by omega) (by omega), ih m (r - ai r) (p - ai r) (by omega) (by omega)]
theorem qf {r p : Nat} (h : r ≤ 1) : bw r r p = [] := by
 cases r with
 | zero => rfl
 | succ r => rw [bw, if_pos h]
theorem oz {r p : Nat} (h2 : 2 ≤ r) (h1 : p < ai r) : bw r r p = 0 :: bw (ai r) (ai r) p := by
 obtain ⟨g1, g2⟩ := bQ h2
 rw [fI r (r + 1) r p (Nat.le_refl _) (by omega), bw, if_neg (by omega), if_pos h1, fI r (ai r) _ _ (by omega) (Nat.le_refl _)]
theorem oH {r p : Nat} (h2 : 2 ≤ r) (h1 : ¬ p < ai r) : bw r r p = 1 :: bw (r - ai r) (r - ai r) (p - ai r) := by
 obtain ⟨g1, g2⟩ := bQ h2
 rw [fI r (r + 1) r p (Nat.le_refl _) (by omega), bw, if_neg (by omega), if_neg h1, fI r (r - ai r) _ _ (by omega) (Nat.le_refl _)]
theorem fD : ∀ (n m : Nat) (s : List Key) (p : Nat), s.length ≤ n → s.length ≤ m → cR n s p = cR m s p := by
  have zero : ∀ (m : Nat) (s : List Key) (p : Nat), s.length ≤ 1 → cR m s p = [] := by
    intro m s p h
    cases m with
    | zero => rfl
    | succ m => rw [cR, if_pos h]
  intro n
  induction n with
  | zero => intro m s p h1 h2; rw [zero 0 s p (by omega), zero m s p (by omega)]
  | succ n ih =>
    intro m s p h1 h2
    cases m with
    | zero => rw [zero (n + 1) s p (by omega), zero 0 s p (by omega)]
    | succ m =>
      rw [cR, cR]
      by_cases c : s.length ≤ 1
      · rw [if_pos c, if_pos c]
      · rw [if_neg c, if_neg c]
        obtain ⟨g1, g2⟩ := bQ (n := s.length) (by omega)
        rw [ih m (s.take (ai s.length)) p (by rw [List.length_take]; omega) (by rw [List.length_take]; omega), ih m (s.drop (ai s.length)) (p - ai s.length) (by rw [List.length_drop]; omega) (by rw [List.length_drop]; omega)]
abbrev wy (s : List Key) (p : Nat) : List (List Key) := cR s.length s p
theorem je {s : List Key} {p : Nat} (h : s.length ≤ 1) : wy s p = [] := by
 unfold wy
 cases e : s.length with
 | zero => rfl
 | succ n => rw [cR, if_pos h]
theorem oR {s : List Key} {p : Nat} (h2 : 2 ≤ s.length) (h1 : p < ai s.length) : wy s p = s.drop (ai s.length) :: wy (s.take (ai s.length)) p := by
 obtain ⟨g1, g2⟩ := bQ h2
 have tl : (s.take (ai s.length)).length = ai s.length := by rw [List.length_take]; omega
 unfold wy
 rw [fD s.length (s.length + 1) s p (Nat.le_refl _) (by omega), cR, if_neg (by omega), if_pos h1, fD s.length (s.take (ai s.length)).length _ _ (by rw [tl]; omega) (Nat.le_refl _)]
theorem oi {s : List Key} {p : Nat} (h2 : 2 ≤ s.length) (h1 : ¬ p < ai s.length) : wy s p = s.take (ai s.length) :: wy (s.drop (ai s.length)) (p - ai s.length) := by
 obtain ⟨g1, g2⟩ := bQ h2
 unfold wy
 rw [fD s.length (s.length + 1) s p (Nat.le_refl _) (by omega), cR, if_neg (by omega), if_neg h1, fD s.length (s.drop (ai s.length)).length _ _ (by rw [List.length_drop]; omega) (Nat.le_refl _)]
theorem vT : ∀ (k : Nat) (s : List Key) (p : Nat), s.length ≤ 2 ^ k → (wy s p).length ≤ k := by
  intro k
  induction k with
  | zero =>
    intro s p h
    have h : s.length ≤ 1 := h
    rw [je h]; exact Nat.le_refl _
  | succ k ih =>
    intro s p h
    by_cases c : s.length ≤ 1
    · rw [je c]; exact Nat.zero_le _
    · have h2 : 2 ≤ s.length := by omega
      obtain ⟨g1, g2⟩ := bQ h2
      have g3 := qY h2
      have hk : ai s.length ≤ 2 ^ k := by
        unfold ai
        refine Nat.pow_le_pow_right (by decide) ?_
        have : Nat.log2 (s.length - 1) < k + 1 := (Nat.log2_lt (by omega)).mpr (by omega)
        omega
      by_cases c2 : p < ai s.length
      · rw [oR h2 c2, List.length_cons]
        have := ih (s.take (ai s.length)) p (by rw [List.length_take]; omega)
        omega
      · rw [oi h2 c2, List.length_cons]
        have := ih (s.drop (ai s.length)) (p - ai s.length) (by rw [List.length_drop]; omega)
        omega
variable {K : W.Frag} {mg : Str → Option Value} {A : Adr}
theorem vZ (K : W.Frag) (A : Adr) : Ln (iW K A) 2 := by rintro vs H Q E ⟨c, e, rfl, _⟩; rfl
theorem zO (T : Txt K mg A) : Rd (iW K A) (BK K A) ["place", "many", "turns", "first", "rest", "ahead"] := by
 intro vs H Q E h
 obtain ⟨c, p, rfl, hpc, hc, q⟩ := h
 refine ⟨Nat.zero_le _, fun L hL => ?_⟩
 refine ⟨fun k σ H' => ∃ (acc : List Int) (fi r : Nat) (x5 : Option V), σ = [some (.int (p : Int)), some (.int (c : Int)), some (.ref L), some (.int (fi : Int)), some (.int (r : Int)), x5] ∧ k = r ∧ H' = upd H L (.lst (acc.map V.int)) ∧ acc ++ bw r r (p - fi) = bw c c p ∧ fi ≤ p ∧ p - fi < r ∧ acc.length + r ≤ c, ⟨_, [], 0, c, none, rfl, rfl, rfl, rfl, Nat.zero_le _, hpc, by simp⟩, ?_⟩
 rintro k σ H' ⟨acc, fi, r, x5, rfl, rfl, rfl, ht, hf, hr, hl⟩
 have lt : (acc.map V.int).length < sizeLine := by rw [List.length_map]; exact cm (by omega)
 have ap : ∀ t : Int, upd (upd H L (.lst (acc.map V.int))) L (.lst (acc.map V.int ++ [.int t])) = upd H L (.lst ((acc ++ [t]).map V.int)) := fun t => by rw [fX, List.map_append]; rfl
 refine cq (Sel.dec (fun h1 => ?_) (fun h1 => ?_))
 · have h2 : 2 ≤ k := by have h1 : (k : Int) > 1 := h1; omega
   obtain ⟨g1, g2⟩ := bQ h2
   refine ⟨fun σ H' => ∃ j, j < k ∧ ∃ (acc : List Int) (fi r : Nat) (x5 : Option V), σ = [some (.int (p : Int)), some (.int (c : Int)), some (.ref L), some (.int (fi : Int)), some (.int (r : Int)), x5] ∧ j = r ∧ H' = upd H L (.lst (acc.map V.int)) ∧ acc ++ bw r r (p - fi) = bw c c p ∧ fi ≤ p ∧ p - fi < r ∧ acc.length + r ≤ c, fun σ' H' hh => hh, ?_⟩
   refine ⟨k, rfl, h2, by omega, Sel.dec (fun h => ?_) (fun h => ?_)⟩
   · have h : (p : Int) < (fi : Int) + ((ai k : Nat) : Int) := h
     refine ⟨.inl ⟨rfl, _, SqL.of af⟩, L, _, _, rfl, rfl, af, lt, ?_⟩
     refine ⟨ai k, g2, acc ++ [0], fi, ai k, _, rfl, rfl, ap 0, ?_, hf, by omega, by rw [List.length_append]; show _ + 1 + _ ≤ _; omega⟩
     rw [oz h2 (by omega)] at ht
     rw [List.append_assoc]; exact ht
   · have h : ¬ (p : Int) < (fi : Int) + ((ai k : Nat) : Int) := h
     refine ⟨.inl ⟨rfl, _, SqL.of af⟩, L, _, _, rfl, rfl, af, lt, ?_⟩
     refine ⟨k - ai k, by omega, acc ++ [1], fi + ai k, k - ai k, some (.int ((ai k : Nat) : Int)), ?_, rfl, ap 1, ?_, by omega, by omega, by rw [List.length_append]; show _ + 1 + _ ≤ _; omega⟩
     · rw [Int.ofNat_sub (by omega), Int.natCast_add]; rfl
     · rw [oH h2 (by omega)] at ht
       rw [List.append_assoc, show p - (fi + ai k) = p - fi - ai k by omega]; exact ht
 · have h1 : ¬ (k : Int) > 1 := h1
   rw [qf (by omega), List.append_nil] at ht
   exact q L _ hL (am.upd hL) (by rw [ht]; exact af)
theorem bZ.setM {H : Hp} {x f L D b M : Addr} {es : List Key} {kvs : List (List Key × Key)} {g : List Key → Option Key} {n : Nat} {xs ys : List V} (r : bZ A H x f L D b es kvs g n) (hM : H M = some (.lst xs)) (ne : L ≠ M) : bZ A (upd H M (.lst ys)) x f L D b es kvs g n := by
 obtain ⟨dx, hx⟩ := r.r.ob
 exact ⟨⟨⟨dx, by rw [ae (aS hx hM (fun z => nomatch z))]; exact hx⟩, by rw [ae ne]; exact r.r.hl, by rw [ae (aS r.r.hd hM (fun z => nomatch z))]; exact r.r.hd, r.r.en, r.r.le⟩, r.s.setL hM, r.c, r.db, r.kl⟩
structure Pp (A : Adr) (H H' : Hp) (x f L D b M W : Addr) (es : List Key) (c p fi m i : Nat) (g g' : List Key → Option Key) (n : Nat) (ks : List Key) : Prop where
 fp : fi ≤ p
 pm : p - fi < m
 fm : fi + m ≤ c
 tr : (bw c c p).drop i = bw m m (p - fi)
 hM : H' M = some (.lst (ks.map kV))
 hW : H' W = some (.lst ((bw c c p).map V.int))
 k2 : aY b D H H'
 r : ∃ kvs N, bZ A H' x f L D b es kvs g' N ∧ N + 2 * m ≤ n + 2 * c
 sub : Sub g g'
 ss : ∃ ss, Mks g' ss ks ∧ cR c (es.take c) p = ss ++ wy ((es.drop fi).take m) (p - fi)
 kl : ks.length + m ≤ c
theorem AQ (K : W.Frag) (A : Adr) : Ln (gQ K A) 3 := by rintro vs H Q E ⟨x, f, L, D, b, es, kvs, g, n, c, e, rfl, _⟩; rfl
theorem By (T : Txt K mg A) : Rd (gQ K A) (T_5 K A) ["self", "count", "place", "marks", "first", "many", "turn", "ahead"] := by
 intro vs H Q E h
 obtain ⟨x, f, L, D, b, es, kvs, g, n, c, p, rfl, r, hc, hpc, hn, q⟩ := h
 obtain ⟨dx, hx⟩ := r.r.ob
 have l60 := r.r.le
 have tl : (es.take c).length = c := by rw [List.length_take]; omega
 refine ⟨x, dx, _, rfl, hx, rfl, x, f, L, D, es, kvs, _, _, rfl, r.r, by omega, by omega, by omega, Sel.no rfl ⟨Nat.zero_le _, fun M hM => ?_⟩⟩
 have LM : L ≠ M := aj r.r.hl hM
 have S1 : am H (upd H M (.lst [])) := am.upd hM
 have hM1 : upd H M (.lst []) M = some (.lst (([] : List Key).map kV)) := af
 generalize upd H M (.lst []) = H1 at S1 hM1
 refine ⟨c, p, rfl, hpc, by omega, fun W H2 hWn S2 hW => ⟨W, rfl, .inl ⟨⟨_, SqL.of hW⟩, ?_⟩⟩⟩
 have MW : W ≠ M := Ne.symm (aj hM1 hWn)
 refine iK (xs := (bw c c p).map V.int) (fun i σ H' => ∃ (fi m : Nat) (ks : List Key) (g' : List Key → Option Key) (x6 x7 : Option V), σ = [some (.ref x), some (.int (c : Int)), some (.int (p : Int)), some (.ref M), some (.int (fi : Int)), some (.int (m : Int)), x6, x7] ∧ Pp A H H' x f L D b M W es c p fi m i g g' n ks)
   ⟨0, c, [], g, none, none, rfl, Nat.zero_le _, hpc, by omega, rfl, S2 _ _ hM1, hW, aY.same (S1.trans S2), ⟨kvs, n, r.same (S1.trans S2) (Nat.le_refl _), Nat.le_refl _⟩, Sub.rfl', ⟨[], .nil, by rw [List.drop_zero, Nat.sub_zero]; unfold wy; rw [tl]; rfl⟩, by simp⟩
   (fun i σ H' _ h => ?_) (fun i v σ H' hx' h => ?_) (fun σ H' h => ?_)
 · obtain ⟨_, _, _, _, _, _, _, pp⟩ := h
   exact SqL.of pp.hW
 · obtain ⟨fi, m, ks, g', x6, x7, rfl, pp⟩ := h
   obtain ⟨fp, pm, fm, tr, hM', hW', k2, ⟨kv, N, r', hN⟩, sub, ⟨ss, ms, es'⟩, kl⟩ := pp
   obtain ⟨t, ht, rfl⟩ := dY hx'
   have hi := (List.getElem?_eq_some_iff.mp ht).1
   have ed : (bw c c p).drop i = t :: (bw c c p).drop (i + 1) := by rw [List.drop_eq_getElem_cons hi, (List.getElem?_eq_some_iff.mp ht).2]
   rw [ed] at tr
   have m2 : 2 ≤ m := by
     rcases Nat.lt_or_ge m 2 with h | h
     · rw [qf (r := m) (by omega)] at tr; cases tr
     · exact h
   obtain ⟨g1, g2⟩ := bQ m2
   obtain ⟨dx', hxx⟩ := r'.r.ob
   have sl : ((es.drop fi).take m).length = m := by rw [List.length_take, List.length_drop]; omega
   have tk : ((es.drop fi).take m).take (ai m) = (es.drop fi).take (ai m) := by rw [List.take_take, Nat.min_eq_left (by omega)]
   have dp : ((es.drop fi).take m).drop (ai m) = (es.drop (fi + ai m)).take (m - ai m) := by rw [List.drop_take, List.drop_drop]
   have l1 : ((es.drop fi).take (ai m)).length = ai m := by rw [List.length_take, List.length_drop]; omega
   have l2 : ((es.drop (fi + ai m)).take (m - ai m)).length = m - ai m := by rw [List.length_take, List.length_drop]; omega
   have lt : (ks.map kV).length < sizeLine := by rw [List.length_map]; exact cm (by omega)
   obtain ⟨nM, nM2⟩ := r'.n2 hM' (fun _ z => nomatch z) (fun _ z => nomatch z)
   obtain ⟨nW, nW2⟩ := r'.n2 hW' (fun _ z => nomatch z) (fun _ z => nomatch z)
   have app : ∀ v : Key, ks.map kV ++ [kV v] = (ks ++ [v]).map kV := fun v => by rw [List.map_append]; rfl
   refine ⟨m, rfl, m2, by omega, ?_⟩
   by_cases hp : p - fi < ai m
   · rw [oz m2 hp] at tr
     have tr2 := (List.cons.inj tr).2
     obtain rfl := (List.cons.inj tr).1
     rw [oR (by rw [sl]; exact m2) (by rw [sl]; exact hp), sl, tk, dp] at es'
     refine Sel.dec (fun _ => ?_) (fun h => absurd rfl h)
     refine ⟨.inl ⟨rfl, _, SqL.of hM'⟩, x, dx', _, rfl, hxx, rfl, x, f, L, D, b, es, kv, g', N, fi + ai m, m - ai m, ?_, r', by omega, by omega, by omega, fun v kv2 g2' H3 k3 r3 sub3 okv szv ev => ?_⟩
     · rw [Int.natCast_add, Int.ofNat_sub (by omega)]
     have hM3 := k3 _ _ nM nM2 hM'
     refine ⟨M, _, kV v, rfl, rfl, hM3, lt, ?_⟩
     rw [app]
     refine ⟨fi, ai m, ks ++ [v], g2', _, _, rfl, fp, hp, by omega, tr2, af, by rw [ae MW]; exact k3 _ _ nW nW2 hW', fun z o n1 n2 e => ?_, ⟨kv2, _, r3.setM hM3 LM, by omega⟩, sub.trans sub3, ⟨ss ++ [(es.drop (fi + ai m)).take (m - ai m)], Paired.snoc (Mks.mono ms sub3) ⟨okv, by rw [l2]; exact szv, ev⟩, by rw [es']; simp⟩, by rw [List.length_append]; show ks.length + 1 + _ ≤ _; omega⟩
     rw [ae (aj e hM)]; exact k3 _ _ n1 n2 (k2 _ _ n1 n2 e)
   · rw [oH m2 hp] at tr
     have tr2 := (List.cons.inj tr).2
     obtain rfl := (List.cons.inj tr).1
     rw [oi (by rw [sl]; exact m2) (by rw [sl]; exact hp), sl, tk, dp] at es'
     refine Sel.dec (fun h => absurd h (by decide)) (fun _ => ?_)
     refine ⟨.inl ⟨rfl, _, SqL.of hM'⟩, x, dx', _, rfl, hxx, rfl, x, f, L, D, b, es, kv, g', N, fi, ai m, rfl, r', by omega, by omega, by omega, fun v kv2 g2' H3 k3 r3 sub3 okv szv ev => ?_⟩
     have hM3 := k3 _ _ nM nM2 hM'
     refine ⟨M, _, kV v, rfl, rfl, hM3, lt, ?_⟩
     rw [app]
     refine ⟨fi + ai m, m - ai m, ks ++ [v], g2', some (.int 1), some (.int ((ai m : Nat) : Int)), ?_, by omega, by omega, by omega, by rw [show p - (fi + ai m) = p - fi - ai m by omega]; exact tr2, af, by rw [ae MW]; exact k3 _ _ nW nW2 hW', fun z o n1 n2 e => ?_, ⟨kv2, _, r3.setM hM3 LM, by omega⟩, sub.trans sub3, ⟨ss ++ [(es.drop fi).take (ai m)], Paired.snoc (Mks.mono ms sub3) ⟨okv, by rw [l1]; exact szv, ev⟩, by rw [es', show p - (fi + ai m) = p - fi - ai m by omega]; simp⟩, by rw [List.length_append]; show ks.length + 1 + _ ≤ _; omega⟩
     · rw [Int.ofNat_sub (by omega), Int.natCast_add]; rfl
     · rw [ae (aj e hM)]; exact k3 _ _ n1 n2 (k2 _ _ n1 n2 e)
 · obtain ⟨fi, m, ks, g', x6, x7, rfl, pp⟩ := h
   obtain ⟨fp, pm, fm, tr, hM', hW', k2, ⟨kv, N, r', hN⟩, sub, ⟨ss, ms, es'⟩, kl⟩ := pp
   rw [List.length_map, List.drop_length] at tr
   have m1 : m ≤ 1 := by
     rcases Nat.lt_or_ge m 2 with h | h
     · omega
     · by_cases hp : p - fi < ai m
       · rw [oz h hp] at tr; cases tr
       · rw [oH h hp] at tr; cases tr
   rw [je (by rw [List.length_take]; omega), List.append_nil] at es'
   obtain ⟨dx', hxx⟩ := r'.r.ob
   obtain ⟨e, he⟩ : ∃ e, es[p]? = some e := ⟨_, List.getElem?_eq_getElem (by omega)⟩
   refine ⟨x, A.c_Row, dx', _, .ref L, rfl, hxx, T.cl_Row, T.na_Row_entries, rfl, ixL r'.r.hl rfl (by rw [List.getElem?_map, he]; rfl) ?_⟩
   refine ⟨M, _, rfl, .inl ⟨SqL.of hM', fun T hT => ⟨aG (show 2 ≤ 1000000 by decide), fun P hP => ?_⟩⟩⟩
   have S5 := (am.upd (o := .tup (ks.map kV)) hT).trans (am.upd (o := .tup [kV e, .ref T]) hP)
   exact q P T e ks kv g' _ (k2.trans (aY.same S5)) (r'.same S5 (by omega)) sub ⟨af, am.upd hP _ _ af⟩ he (by rw [es']; exact ms)
end Rs
namespace Rs
open PySem PySem.Spec PyProof.Rows L2
inductive Plc (g : List Key → Option Key) (es : List Key) : List (Int × Key) → List Key → Prop
 | nil : Plc g es [] es
 | lo {st s k} : Plc g es st s → 2 ≤ s.length → Cur g (s.drop (ai s.length)) k → Plc g es (st ++ [(0, k)]) (s.take (ai s.length))
 | hi {st s k} : Plc g es st s → 2 ≤ s.length → Cur g (s.take (ai s.length)) k → Plc g es (st ++ [(1, k)]) (s.drop (ai s.length))
theorem Plc.mono {g g' : List Key → Option Key} {es : List Key} {st : List (Int × Key)} {s : List Key} (p : Plc g es st s) (sub : Sub g g') : Plc g' es st s := by
 induction p with
 | nil => exact .nil
 | lo _ h c ih => exact .lo ih h (c.mono sub)
 | hi _ h c ih => exact .hi ih h (c.mono sub)
theorem Plc.len {g : List Key → Option Key} {es : List Key} {st : List (Int × Key)} {s : List Key} (p : Plc g es st s) : s.length ≤ es.length := by
 induction p with
 | nil => exact Nat.le_refl _
 | lo _ h c ih => rw [List.length_take]; omega
 | hi _ h c ih => rw [List.length_drop]; omega
theorem tF {g : List Key → Option Key} {es : List Key} {st : List (Int × Key)} {t : Int} {k : Key} {s : List Key} (p : Plc g es (st ++ [(t, k)]) s) :
    (t = 0 ∧ ∃ s0, Plc g es st s0 ∧ 2 ≤ s0.length ∧ s = s0.take (ai s0.length) ∧ Cur g (s0.drop (ai s0.length)) k) ∨
    (t = 1 ∧ ∃ s0, Plc g es st s0 ∧ 2 ≤ s0.length ∧ s = s0.drop (ai s0.length) ∧ Cur g (s0.take (ai s0.length)) k) := by
  generalize h : st ++ [(t, k)] = u at p
  cases p with
  | nil => simp at h
  | @lo st' s0 k' p h2 c =>
    obtain ⟨e1, e2⟩ := List.append_inj' h rfl
    have e2 : (t, k) = ((0 : Int), k') := by simpa using e2
    cases e2
    subst e1
    exact .inl ⟨rfl, s0, p, h2, rfl, c⟩
  | @hi st' s0 k' p h2 c =>
    obtain ⟨e1, e2⟩ := List.append_inj' h rfl
    have e2 : (t, k) = ((1 : Int), k') := by simpa using e2
    cases e2
    subst e1
    exact .inr ⟨rfl, s0, p, h2, rfl, c⟩
theorem uF {g : List Key → Option Key} {es : List Key} {e : Key} : ∀ (n : Nat) (s : List Key) (p : Nat) (st0 : List (Int × Key)) (ks : List Key), s.length ≤ n → s[p]? = some e → Plc g es st0 s → Mks g (cR n s p) ks →
    ∃ st, st.map (·.2) = ks ∧ st.map (·.1) = bw n s.length p ∧ Plc g es (st0 ++ st) [e] ∧ st.length + 1 ≤ s.length := by
  intro n
  induction n with
  | zero =>
    intro s p st0 ks h1 h2
    rw [List.eq_nil_of_length_eq_zero (l := s) (by omega)] at h2; cases h2
  | succ n ih =>
    intro s p st0 ks h1 h2 pl m
    rw [cR] at m
    have hl := (List.getElem?_eq_some_iff.mp h2).1
    by_cases c : s.length ≤ 1
    · rw [if_pos c] at m
      cases m
      refine ⟨[], rfl, by rw [bw, if_pos c]; rfl, ?_, by simp; omega⟩
      have es1 : s = [e] := by
        match s, c, hl, h2 with
        | [x], _, hl, h2 =>
          have : p = 0 := by simp at hl; omega
          subst this
          cases h2; rfl
      rw [List.append_nil, ← es1]; exact pl
    · rw [if_neg c] at m
      have l2 : 2 ≤ s.length := by omega
      obtain ⟨g1, g2⟩ := bQ l2
      have tl : (s.take (ai s.length)).length = ai s.length := by rw [List.length_take]; omega
      have dl : (s.drop (ai s.length)).length = s.length - ai s.length := List.length_drop
      by_cases c2 : p < ai s.length
      · rw [if_pos c2] at m
        cases m with
        | cons ck m1 =>
          obtain ⟨st, e1, e2, e3, e4⟩ := ih _ p _ _ (by omega) (by rw [List.getElem?_take, if_pos c2]; exact h2) (Plc.lo pl l2 ck) m1
          refine ⟨(0, _) :: st, by rw [List.map_cons, e1], ?_, by rw [List.append_assoc] at e3; exact e3, by rw [tl] at e4; simp; omega⟩
          rw [bw, if_neg c, if_pos c2, List.map_cons, e2, tl]
      · rw [if_neg c2] at m
        cases m with
        | cons ck m1 =>
          obtain ⟨st, e1, e2, e3, e4⟩ := ih _ (p - ai s.length) _ _ (by omega) (by rw [List.getElem?_drop, show ai s.length + (p - ai s.length) = p by omega]; exact h2) (Plc.hi pl l2 ck) m1
          refine ⟨(1, _) :: st, by rw [List.map_cons, e1], ?_, by rw [List.append_assoc] at e3; exact e3, by rw [dl] at e4; simp; omega⟩
          rw [bw, if_neg c, if_neg c2, List.map_cons, e2, dl]
structure Trm (g : List Key → Option Key) (s k : List Key) : Prop where
 ok : okT k = true
 sz : szT k + 62 ≤ szB s.length
 eq : ∀ h, Ext g h → k = cS h s
theorem Trm.mono {g g' : List Key → Option Key} {s k : List Key} (t : Trm g s k) (sub : Sub g g') : Trm g' s k := ⟨t.ok, t.sz, fun h eh => t.eq h (Ext.of sub eh)⟩
theorem Trm.cur {g : List Key → Option Key} {s k : List Key} {v : Key} (t : Trm g s k) (l60 : s.length ≤ 60) (gv : g k = some v) (st : lW k v) : Cur g s v := by
 have z := t.sz
 exact ⟨fQ st (by unfold szB at z; omega), Nat.le_trans (hV st) z, fun h eh => by rw [← t.eq h eh]; exact (eh _ _ gv).symm⟩
theorem Trm.entry {g : List Key → Option Key} {e : Key} (en : enK e) : Trm g [e] [.inr "entry", e] := ⟨gL en.1, by have := en.2; rw [sz2, szW.2.1]; show _ ≤ 200; omega, fun h _ => rfl⟩
theorem Trm.joint {g : List Key → Option Key} {s : List Key} {x y : Key} (h2 : 2 ≤ s.length) (cx : Cur g (s.take (ai s.length)) x) (cy : Cur g (s.drop (ai s.length)) y) : Trm g s [.inr "joint", x, y] := by
 obtain ⟨g1, g2⟩ := bQ h2
 have tl : (s.take (ai s.length)).length = ai s.length := by rw [List.length_take]; omega
 have dl : (s.drop (ai s.length)).length = s.length - ai s.length := List.length_drop
 have sx := cx.sz
 have sy := cy.sz
 rw [tl] at sx
 rw [dl] at sy
 refine ⟨gJ cx.ok cy.ok, ?_, fun h eh => by rw [gI h h2, ← cx.eq h eh, ← cy.eq h eh]⟩
 rw [sz3, szW.2.2.1]
 unfold szB at sx sy ⊢
 omega
theorem dQ.same {H H' : Hp} {P T : Addr} {e : Key} {ks : List Key} (w : dQ H P T e ks) (S : am H H') : dQ H' P T e ks := ⟨S _ _ w.hP, S _ _ w.hT⟩
variable {K : W.Frag} {mg : Str → Option Value} {A : Adr}
theorem dQ.kb {H H' : Hp} {P T f b : Addr} {e : Key} {ks : List Key} {g : List Key → Option Key} {n : Nat} (w : dQ H P T e ks) (s : Stp A H f b g n) (k : aD b H H') : dQ H' P T e ks :=
 ⟨k _ _ (s.nb w.hP (fun _ z => nomatch z) (fun _ z => nomatch z)) w.hP, k _ _ (s.nb w.hT (fun _ z => nomatch z) (fun _ z => nomatch z)) w.hT⟩
theorem ym (K : W.Frag) (A : Adr) : Ln (kW K A) 2 := by rintro vs H Q E ⟨L, P, T, ts, e, ks, rfl, _⟩; rfl
theorem AF (T : Txt K mg A) : Rd (kW K A) (BE K A) ["turns", "thing"] := by
 intro vs H Q E h
 obtain ⟨L, P, TT, ts, e, ks, rfl, hL, w, oke, okk, hl, l5, q⟩ := h
 have ty : tyN H (.ref P) = some "tuple" := by unfold tyN; dsimp only; rw [w.hP]
 refine ⟨by decide, "tuple", ty, Sel.no rfl (.inl (.inr (.inl ⟨_, SqT.of w.hP, Sel.no (by simp) (ixT (j := 0) w.hP rfl rfl ⟨_, _, rfl, mh e, ?_⟩)⟩)))⟩
 rw [fE oke]
 refine Sel.t (.inl (.inl ⟨_, SqL.of hL, ixT (j := 1) w.hP rfl rfl ⟨TT, ks, ?_, w.hT, okk, l5, q⟩⟩))
 rw [List.length_map, hl]
theorem yo (K : W.Frag) (A : Adr) : Ln (kH K A) 4 := by rintro vs H Q E ⟨f, b, P, T, es, ks, p, e, g, n, rfl, _⟩; rfl
structure Pt (A : Adr) (H H' : Hp) (f b Z L : Addr) (ps : List Addr) (st : List (Int × Key)) (es : List Key) (i : Nat) (g g' : List Key → Option Key) (n : Nat) : Prop where
 kb : aD b H H'
 s : Stp A H' f b g' (n + i)
 sub : Sub g g'
 hZ : H' Z = some (.lst (ps.map V.ref))
 hp : ∀ (j : Nat) (p : Addr) (s : Int × Key), ps[j]? = some p → st[j]? = some s → H' p = some (.tup [.int s.1, kV s.2])
 l : ∃ (qs : List V) (pr : Addr) (k s : List Key), H' L = some (.lst (qs ++ [.ref pr])) ∧ qs.length = i ∧ H' pr = some (.tup (k.map kV)) ∧ Plc g' es (st.take (st.length - i)) s ∧ Trm g' s k
theorem zV (T : Txt K mg A) : Rd (kH K A) (AU K A) ["stamper", "count", "place", "paper", "turns", "terms", "step"] := by
 intro vs H Q E h
 obtain ⟨f, b, P, TT, es, ks, p, e, g, n, rfl, pp, q⟩ := h
 obtain ⟨s, hn, l60, lt, ge, en, w, ms⟩ := pp
 have okk := Mks.ok ms
 obtain ⟨st, e1, e2, pl, sl⟩ := uF es.length es p [] ks (Nat.le_refl _) ge .nil ms
 have kl : ks.length = st.length := by rw [← e1, List.length_map]
 have tl : (bw es.length es.length p).length = st.length := by rw [← e2, List.length_map]
 refine ⟨_, _, rfl, by omega, by omega, by omega, Sel.no rfl ⟨es.length, p, rfl, lt, by omega, fun W H1 _ S1 hW => ?_⟩⟩
 refine ⟨W, P, TT, _, e, ks, rfl, hW, w.same S1, en.1, okk, by rw [kl, tl], by omega, fun H2 S2 => Sel.no rfl ?_⟩
 have w2 := (w.same S1).same S2
 refine ixT (j := 0) w2.hP rfl rfl ⟨aG (show 2 ≤ 1000000 by decide), fun t ht => ⟨aG (show 1 ≤ 1000000 by decide), fun L hL => ?_⟩⟩
 have S3 : am H2 (upd (upd H2 t (.tup [.str "entry", kV e])) L (.lst [.ref t])) := (am.upd ht).trans (am.upd hL)
 have hL3 : upd (upd H2 t (.tup [.str "entry", kV e])) L (.lst [.ref t]) L = some (.lst [.ref t]) := af
 have ht3 : upd (upd H2 t (.tup [.str "entry", kV e])) L (.lst [.ref t]) t = some (.tup (([.inr "entry", e] : List Key).map kV)) := am.upd hL _ _ af
 have hLn : H2 L = none := (aR hL).2
 generalize upd (upd H2 t (.tup [.str "entry", kV e])) L (.lst [.ref t]) = H3 at S3 hL3 ht3
 have w3 := w2.same S3
 have hLH : H L = none := by
   cases z : H L with
   | none => rfl
   | some o => rw [S2 _ _ (S1 _ _ z)] at hLn; cases hLn
 refine ixT (j := 1) w3.hP rfl rfl ⟨W, TT, _, _, rfl, SqL.of (S3 _ _ (S2 _ _ hW)), SqT.of w3.hT, by rw [List.length_map, List.length_map, tl, kl], fun Z ps H4 hZn S4 lp hps hZ => ⟨Z, _, rfl, .inl ⟨SqL.of hZ, ?_⟩⟩⟩
 have S : am H H4 := S1.trans (S2.trans (S3.trans S4))
 have lps : ps.length = st.length := by rw [lp, List.length_map, tl]
 have hp4 : ∀ (j : Nat) (p : Addr) (s : Int × Key), ps[j]? = some p → st[j]? = some s → H4 p = some (.tup [.int s.1, kV s.2]) := fun j p' s' h1 h2 => hps j p' _ _ h1 (by rw [← e2, List.map_map, List.getElem?_map, h2]; rfl) (by rw [← e1, List.map_map, List.getElem?_map, h2]; rfl)
 have LZ : Z ≠ L := Ne.symm (aj hL3 hZn)
 have hZz : SqL K H4 Z (ps.map V.ref) := SqL.of hZ
 have s4 := s.same (Nat.le_refl _) S
 refine pS (cg.revL (xs := ps.map V.ref) .non) (fun i σ H' => ∃ x6 g', σ = [some (.ref f), some (.int (es.length : Int)), some (.int (p : Int)), some (.ref P), some (.ref W), some (.ref L), x6] ∧ Pt A H H' f b Z L ps st es i g g' n)
   ⟨none, g, rfl, aD.same S, s4, Sub.rfl', hZ, hp4, ⟨[], t, _, [e], S4 _ _ hL3, rfl, S4 _ _ ht3, by rw [Nat.sub_zero, List.take_length]; exact pl, Trm.entry en⟩⟩
   (fun i σ H' _ h => ?_) (fun i σ H5 hi h => ?_) (fun σ H5 h => ?_)
 · obtain ⟨_, _, _, x⟩ := h
   exact SqL.of x.hZ
 · obtain ⟨x6, g5, rfl, kb, s5, sub, hZ5, hp5, qs, pr, k, sg, hL5, hq, hpr, pl5, tm⟩ := h
   have hi : i < st.length := by rw [List.length_map, lps] at hi; exact hi
   have hj : st.length - 1 - i < st.length := by omega
   obtain ⟨sp, hsp⟩ : ∃ sp, st[st.length - 1 - i]? = some sp := ⟨_, List.getElem?_eq_getElem hj⟩
   obtain ⟨pj, hpj⟩ : ∃ pj, ps[st.length - 1 - i]? = some pj := ⟨_, List.getElem?_eq_getElem (by omega)⟩
   have hg : (ps.map V.ref).reverse.getD i .non = .ref pj := by
     rw [List.getD_eq_getElem?_getD, List.getElem?_reverse (by rw [List.length_map]; omega), List.length_map, lps, List.getElem?_map, hpj]; rfl
   rw [hg]
   have hpp := hp5 _ _ _ hpj hsp
   obtain ⟨t, kk⟩ := sp
   have tk : st.take (st.length - i) = st.take (st.length - (i + 1)) ++ [(t, kk)] := by
     rw [show st.length - i = st.length - 1 - i + 1 by omega, List.take_add_one, hsp, show st.length - (i + 1) = st.length - 1 - i by omega]; rfl
   rw [tk] at pl5
   have npj : pj ≠ b := s5.nb hpp (fun _ z => nomatch z) (fun _ z => nomatch z)
   have nL : L ≠ b := s5.nb hL5 (fun _ z => nomatch z) (fun _ z => nomatch z)
   have nZ : Z ≠ b := s5.nb hZ5 (fun _ z => nomatch z) (fun _ z => nomatch z)
   have pjL : pj ≠ L := aS hpp hL5 (fun z => nomatch z)
   refine ⟨.inl ⟨rfl, _, SqL.of hL5⟩, ixT (j := 0) hpp rfl rfl ⟨f, rfl, s5.clo, hU hL5 ?_⟩⟩
   dsimp only [ag]
   refine dX s5 (by omega) hpr tm.ok fun v H6 g6 kb6 s6 sub6 gv st6 => ?_
   have len6 := pl5.len
   have cv : Cur g6 sg v := (tm.mono sub6).cur (by omega) gv st6
   have hL6 := kb6 _ _ nL hL5
   refine ixT (j := 1) (kb6 _ _ npj hpp) rfl rfl ⟨t, v, kk, rfl, fun p7 hp7 => ⟨L, _, .ref p7, rfl, rfl, am.upd hp7 _ _ hL6, ?_, ?_⟩⟩
   · rw [List.length_append, hq]; exact cm (by show i + 1 ≤ _; omega)
   have L7 : p7 ≠ L := Ne.symm (aj hL6 hp7)
   have Sx : ∀ z o, z ≠ L → H6 z = some o → upd (upd H6 p7 (.tup ((jtT t v kk).map kV))) L (.lst (qs ++ [.ref pr] ++ [.ref p7])) z = some o := fun z o nz ez => by rw [ae nz]; exact am.upd hp7 _ _ ez
   have hn7 : upd (upd H6 p7 (.tup ((jtT t v kk).map kV))) L (.lst (qs ++ [.ref pr] ++ [.ref p7])) p7 = some (.tup ((jtT t v kk).map kV)) := by rw [ae L7]; exact af
   have sx : Stp A (upd (upd H6 p7 (.tup ((jtT t v kk).map kV))) L (.lst (qs ++ [.ref pr] ++ [.ref p7]))) f b g6 (n + i + 1) := (s6.same (Nat.le_refl _) (am.upd hp7)).setL (am.upd hp7 _ _ hL6)
   refine ⟨_, g6, rfl, fun z o nz ez => Sx z o (aj ez hLH) (kb6 _ _ nz (kb _ _ nz ez)), sx, sub.trans sub6, Sx _ _ LZ (kb6 _ _ nZ hZ5), fun j p' s' h1 h2 => ?_, ?_⟩
   · have h5 := hp5 j p' s' h1 h2
     exact Sx _ _ (aS h5 hL5 (fun z => nomatch z)) (kb6 _ _ (s5.nb h5 (fun _ z => nomatch z) (fun _ z => nomatch z)) h5)
   · rcases tF pl5 with ⟨rfl, s0, p0, h2, rfl, ck⟩ | ⟨rfl, s0, p0, h2, rfl, ck⟩
     · exact ⟨qs ++ [.ref pr], p7, jtT 0 v kk, s0, af, by rw [List.length_append, hq]; rfl, hn7, p0.mono sub6, Trm.joint h2 cv (ck.mono sub6)⟩
     · exact ⟨qs ++ [.ref pr], p7, jtT 1 v kk, s0, af, by rw [List.length_append, hq]; rfl, hn7, p0.mono sub6, Trm.joint h2 (ck.mono sub6) cv⟩
 · obtain ⟨x6, g5, rfl, kb, s5, sub, hZ5, hp5, qs, pr, k, sg, hL5, hq, hpr, pl5, tm⟩ := h
   rw [List.length_map, lps] at *
   rw [Nat.sub_self, List.take_zero] at pl5
   obtain rfl : es = sg := by
     generalize hu : ([] : List (Int × Key)) = u at pl5
     cases pl5 with
     | nil => rfl
     | lo _ _ _ => simp at hu
     | hi _ _ _ => simp at hu
   have nL : L ≠ b := s5.nb hL5 (fun _ z => nomatch z) (fun _ z => nomatch z)
   refine ⟨.inl ⟨rfl, _, SqL.of hL5⟩, f, rfl, s5.clo, hU hL5 ?_⟩
   dsimp only [ag]
   refine dX s5 (by omega) hpr tm.ok fun v H6 g6 kb6 s6 sub6 gv st6 => ?_
   have cv : Cur g6 es v := (tm.mono sub6).cur (by omega) gv st6
   have hL6 := kb6 _ _ nL hL5
   refine ⟨aG (show 3 ≤ 1000000 by decide), fun p7 hp7 => ⟨L, _, .ref p7, rfl, rfl, am.upd hp7 _ _ hL6, ?_, ?_⟩⟩
   · rw [List.length_append, hq]; exact cm (by show st.length + 1 ≤ _; omega)
   have L7 : p7 ≠ L := Ne.symm (aj hL6 hp7)
   refine q L p7 (qs ++ [.ref pr]) v g6 _ (fun z o nz ez => ?_) (((s6.same (by omega) (am.upd hp7)).setL (am.upd hp7 _ _ hL6))) (sub.trans sub6) af (by rw [ae L7]; exact af) cv
   rw [ae (aj ez hLH)]; exact am.upd hp7 _ _ (kb6 _ _ nz (kb _ _ nz ez))
theorem wF (K : W.Frag) (A : Adr) : Ln (lf K A) 4 := by rintro vs H Q E ⟨f, b, P, T, es, ks, p, e, g, n, rfl, _⟩; rfl
theorem zk (T : Txt K mg A) : Rd (lf K A) (Bx K A) ["stamper", "count", "place", "paper"] := by
 intro vs H Q E h
 obtain ⟨f, b, P, TT, es, ks, p, e, g, n, rfl, pp, q⟩ := h
 have hn := pp.hn
 have l60 := pp.l60
 refine ⟨f, rfl, pp.s.clo, f, b, P, TT, es, ks, p, e, g, n, rfl, pp, fun L pr qs top g1 H1 k1 s1 sub1 hL hpr ct => hU hL ?_⟩
 dsimp only [ag]
 refine dX s1 (by omega) (k := [.inr "row", .inl (es.length : Int), top]) hpr (mF (by omega) ct.ok) fun v H2 g2 kb s2 sub2 gv st => ?_
 refine q v g2 H2 (k1.trans kb) s2 (sub1.trans sub2) fun h eh => ?_
 rw [← eh _ _ gv, ct.eq h (Ext.of sub2 eh)]; rfl
theorem xZ (K : W.Frag) (A : Adr) : Ln (lc K A) 4 := by rintro vs H Q E ⟨f, b, hd, P, T, es, ks, p, e, mk, g, n, rfl, _⟩; rfl
theorem Av (T : Txt K mg A) : Rd (lc K A) (BX K A) ["stamper", "head", "place", "paper", "came"] := by
 intro vs H Q E h
 obtain ⟨f, b, hd, P, TT, es, ks, p, e, mk, g, n, rfl, pp, hh, okm, em, q⟩ := h
 have l60 := pp.l60
 have nh : hd ≠ b := pp.s.nb hh (fun _ z => nomatch z) (fun _ z => nomatch z)
 refine ⟨hd, es.length, mk, rfl, hh, by omega, okm, ixT (j := 0) hh rfl rfl ?_⟩
 refine ⟨f, b, P, TT, es, ks, p, e, g, n, rfl, pp, fun w g1 H1 k1 s1 sub1 ew => ?_⟩
 have e1 : w = mk := by
  have x := mI g1
  rw [ew _ x, em _ (Ext.of sub1 x)]
 subst e1
 refine ixT (j := 1) (k1 _ _ nh hh) rfl rfl ?_
 refine rP (Sel.f ?_)
 exact ixT (j := 0) (pp.w.kb pp.s k1).hP rfl rfl (q g1 H1 k1 s1 sub1)
end Rs
namespace Rs
open PySem PySem.Spec PyProof.Rows L2
variable {K : W.Frag} {mg : Str → Option Value} {A : Adr}
theorem xh (K : W.Frag) (A : Adr) : Ln (la K A) 2 := by rintro vs H Q E ⟨P, T, P', T', e, ks, rfl, _⟩; rfl
theorem zJ (T : Txt K mg A) : Rd (la K A) (Ba K A) ["_law_found", "_law_due_here", "_law_one", "_law_other"] := by
 intro vs H Q E h
 obtain ⟨P, T1, P', T2, e, ks, rfl, w, w', q⟩ := h
 have ty : tyN H (.ref P) = some "tuple" := by unfold tyN; dsimp only; rw [w.hP]
 have ty2 : tyN H (.ref T1) = some "tuple" := by unfold tyN; dsimp only; rw [w.hT]
 refine ⟨by decide, "tuple", ty, Sel.no rfl (.inl (.inr (.inl ⟨_, SqT.of w.hP, Sel.no (by simp) (ixT (j := 1) w.hP rfl rfl ⟨by decide, "tuple", ty2, Sel.no rfl ?_⟩)⟩)))⟩
 refine ixT (j := 1) w.hP rfl rfl (.inl (.inr (.inl ⟨_, SqT.of w.hT, ixT (j := 1) w'.hP rfl rfl (.inl (.inr (.inl ⟨_, SqT.of w'.hT, Sel.no (by simp) ?_⟩)))⟩)))
 refine ixT (j := 0) w.hP rfl rfl (ixT (j := 0) w'.hP rfl rfl ⟨e, rfl, Sel.no rfl ?_⟩)
 refine ixT (j := 1) w.hP rfl rfl (ixT (j := 1) w'.hP rfl rfl (.inl ⟨T1, T2, ks.map kV, ks.map kV, rfl, SqT.of w.hT, SqT.of w'.hT, ?_⟩))
 refine vj (xs := ks.map kV) (ys := ks.map kV) (fun i σ H' => ∃ x2 x3, σ = [some (.ref P), some (.ref P'), x2, x3] ∧ am H H') ⟨none, none, rfl, am.rfl'⟩ (fun i σ H' _ h => ?_) rfl (fun i x y σ H' t hx hy h ht => ?_) (fun σ H' h => ?_)
 · obtain ⟨_, _, _, S⟩ := h
   exact ⟨SqT.of (S _ _ w.hT), SqT.of (S _ _ w'.hT)⟩
 · obtain ⟨x2, x3, rfl, S⟩ := h
   obtain rfl : x = y := Option.some.inj (hx.symm.trans hy)
   obtain ⟨k, _, rfl⟩ := dY hx
   exact ⟨t, _, rfl, SqT.of af, rfl, _, _, rfl, _, _, rfl, rfl, k, rfl, Sel.no rfl ⟨_, _, rfl, S.trans (am.upd ht)⟩⟩
 · obtain ⟨x2, x3, rfl, S⟩ := h
   exact q H' S
structure Du (A : Adr) (H H' : Hp) (f b M : Addr) (es : List Key) (p lo hi : Nat) (g g' : List Key → Option Key) (n : Nat) (ks : List Key) : Prop where
 lp : lo ≤ p
 ph : p < hi
 hl : hi ≤ es.length
 hM : H' M = some (.lst (ks.map kV))
 kb : aD b H H'
 s : ∃ N, Stp A H' f b g' N ∧ N + 3 * (hi - lo) ≤ n + 3 * es.length
 sub : Sub g g'
 ss : ∃ ss, Mks g' ss ks ∧ wy es p = ss ++ wy ((es.drop lo).take (hi - lo)) (p - lo)
 kl : ks.length + (hi - lo) ≤ es.length
theorem vL (K : W.Frag) (A : Adr) : Ln (lm K A) 3 := by rintro vs H Q E ⟨f, b, E, es, e, g, n, rfl, _⟩; rfl
theorem yw (T : Txt K mg A) : Rd (lm K A) (Ci K A) ["_law_stamper_here", "_law_entries", "_law_place", "_law_marks", "_law_low", "_law_high", "_law_cut"] := by
 intro vs H Q E h
 obtain ⟨f, b, F, es, p, g, n, rfl, hF, en, l60, hpe, s, hn, q⟩ := h
 have nF : F ≠ b := s.nb hF (fun _ z => nomatch z) (fun _ z => nomatch z)
 refine ⟨Nat.zero_le _, fun M hM => ?_⟩
 have S1 : am H (upd H M (.lst [])) := am.upd hM
 have hM1 : upd H M (.lst []) M = some (.lst (([] : List Key).map kV)) := af
 generalize upd H M (.lst []) = H1 at S1 hM1
 refine .inl (.inl ⟨_, SqL.of (S1 _ _ hF), ?_⟩)
 rw [List.length_map]
 refine ⟨fun k σ H' => ∃ (lo hi : Nat) (ks : List Key) (g' : List Key → Option Key) (x6 : Option V), σ = [some (.ref f), some (.ref F), some (.int (p : Int)), some (.ref M), some (.int (lo : Int)), some (.int (hi : Int)), x6] ∧ k = hi - lo ∧ Du A H H' f b M es p lo hi g g' n ks,
   ⟨_, 0, es.length, [], g, none, rfl, rfl, Nat.zero_le _, hpe, Nat.le_refl _, hM1, aD.same S1, ⟨n, s.same (Nat.le_refl _) S1, by omega⟩, Sub.rfl', ⟨[], .nil, by rw [List.drop_zero, Nat.sub_zero, Nat.sub_zero, List.take_length]; rfl⟩, by simp⟩, ?_⟩
 rintro k σ H' ⟨lo, hi, ks, g', x6, rfl, rfl, d⟩
 obtain ⟨lp, ph, hl, hM', kb, ⟨N, s', hN⟩, sub, ⟨ss, ms, es'⟩, kl⟩ := d
 have sl : ((es.drop lo).take (hi - lo)).length = hi - lo := by rw [List.length_take, List.length_drop]; omega
 have hF' := kb _ _ nF hF
 have nM : M ≠ b := s'.nb hM' (fun _ z => nomatch z) (fun _ z => nomatch z)
 have enS : ∀ a c x, x ∈ (es.drop a).take c → enK x := fun a c x hx => en x (List.mem_of_mem_drop (List.mem_of_mem_take hx))
 have app : ∀ v : Key, ks.map kV ++ [kV v] = (ks ++ [v]).map kV := fun v => by rw [List.map_append]; rfl
 have lt : (ks.map kV).length < sizeLine := by rw [List.length_map]; exact cm (by omega)
 refine cq (Sel.dec (fun h1 => ?_) (fun h1 => ?_))
 · have m2 : 2 ≤ hi - lo := by have h1 : (hi : Int) - (lo : Int) > 1 := h1; omega
   obtain ⟨g1, g2⟩ := bQ m2
   refine ⟨fun σ H' => ∃ j, j < hi - lo ∧ ∃ (lo hi : Nat) (ks : List Key) (g' : List Key → Option Key) (x6 : Option V), σ = [some (.ref f), some (.ref F), some (.int (p : Int)), some (.ref M), some (.int (lo : Int)), some (.int (hi : Int)), x6] ∧ j = hi - lo ∧ Du A H H' f b M es p lo hi g g' n ks, fun σ' H' hh => hh, ?_⟩
   refine ⟨fun k σ H'' => ∃ a : Nat, σ = [some (.ref f), some (.ref F), some (.int (p : Int)), some (.ref M), some (.int (lo : Int)), some (.int (hi : Int)), some (.int ((2 ^ a : Nat) : Int))] ∧ H'' = H' ∧ k = hi - lo - 2 ^ a ∧ 2 ^ a < hi - lo, ⟨_, 0, rfl, rfl, rfl, by show 1 < hi - lo; omega⟩, ?_⟩
   rintro k σ H'' ⟨a, rfl, rfl, rfl, ha⟩
   have hp2 : 0 < 2 ^ a := Nat.two_pow_pos a
   refine ⟨oy (by decide) (by decide), ?_⟩
   refine cq (Sel.dec (fun h => ?_) (fun h => ?_))
   · have h : (2 : Int) * ((2 ^ a : Nat) : Int) < (hi : Int) - (lo : Int) := h
     have e : (2 : Int) * ((2 ^ a : Nat) : Int) = ((2 ^ (a + 1) : Nat) : Int) := by rw [Nat.pow_succ, Int.natCast_mul]; omega
     refine ⟨fun σ H3 => ∃ c : Nat, σ = [some (.ref f), some (.ref F), some (.int (p : Int)), some (.ref M), some (.int (lo : Int)), some (.int (hi : Int)), some (.int ((2 ^ c : Nat) : Int))] ∧ H3 = H'' ∧ hi - lo - 2 ^ (a + 1) = hi - lo - 2 ^ c ∧ 2 ^ c < hi - lo, fun σ' H3 hh => ⟨_, ?_, hh⟩, oy (by decide) (by decide), a + 1, ?_, rfl, rfl, by omega⟩
     · rw [Nat.pow_succ]; omega
     · rw [← e]; rfl
   · have h : ¬ (2 : Int) * ((2 ^ a : Nat) : Int) < (hi : Int) - (lo : Int) := h
     have e : ai (hi - lo) = 2 ^ a := by
       have := lu (a := a) (c := hi - lo - 2 ^ a) (by omega) (by omega)
       rw [show 2 ^ a + (hi - lo - 2 ^ a) = hi - lo by omega] at this
       exact this
     have tk : ((es.drop lo).take (hi - lo)).take (ai (hi - lo)) = (es.drop lo).take (ai (hi - lo)) := by rw [List.take_take, Nat.min_eq_left (by omega)]
     have dp : ((es.drop lo).take (hi - lo)).drop (ai (hi - lo)) = (es.drop (lo + ai (hi - lo))).take (hi - lo - ai (hi - lo)) := by rw [List.drop_take, List.drop_drop]
     rw [← e]
     refine Sel.dec (fun h3 => ?_) (fun h3 => ?_)
     · have h3 : (p : Int) < ((lo + ai (hi - lo) : Nat) : Int) := h3
       rw [oR (s := (es.drop lo).take (hi - lo)) (by rw [sl]; exact m2) (by rw [sl]; omega), sl, tk, dp] at es'
       refine ⟨.inl ⟨rfl, _, SqL.of hM'⟩, ((lo + ai (hi - lo) : Nat) : Int), rfl, (hi : Int), rfl, qA hF' hl (by omega) fun p1 hp1 => ?_⟩
       rw [show hi - (lo + ai (hi - lo)) = hi - lo - ai (hi - lo) by omega]
       have sl2 : ((es.drop (lo + ai (hi - lo))).take (hi - lo - ai (hi - lo))).length = hi - lo - ai (hi - lo) := by rw [List.length_take, List.length_drop]; omega
       refine ⟨f, b, p1, (es.drop (lo + ai (hi - lo))).take (hi - lo - ai (hi - lo)), g', N, rfl, af, enS _ _, by omega, by omega, s'.same (Nat.le_refl _) (am.upd hp1), by omega, fun v g2 H3 kb3 s3 sub3 okv szv ev => ?_⟩
       rw [sl2] at s3 szv
       have hM3 := kb3 _ _ nM (am.upd hp1 _ _ hM')
       refine ⟨M, _, kV v, rfl, rfl, hM3, lt, ?_⟩
       rw [app]
       refine ⟨ai (hi - lo), by omega, lo, lo + ai (hi - lo), ks ++ [v], g2, _, rfl, by omega, lp, by omega, by omega, af, fun z o nz ez => ?_, ⟨_, s3.setL hM3, by omega⟩, sub.trans sub3, ⟨ss ++ [(es.drop (lo + ai (hi - lo))).take (hi - lo - ai (hi - lo))], Paired.snoc (Mks.mono ms sub3) ⟨okv, by rw [sl2]; exact szv, ev⟩, ?_⟩, by rw [List.length_append]; show ks.length + 1 + _ ≤ _; omega⟩
       · rw [ae (aj ez hM)]; exact kb3 _ _ nz (am.upd hp1 _ _ (kb _ _ nz ez))
       · rw [es', show lo + ai (hi - lo) - lo = ai (hi - lo) by omega]; simp
     · have h3 : ¬ (p : Int) < ((lo + ai (hi - lo) : Nat) : Int) := h3
       rw [oi (s := (es.drop lo).take (hi - lo)) (by rw [sl]; exact m2) (by rw [sl]; omega), sl, tk, dp] at es'
       refine ⟨.inl ⟨rfl, _, SqL.of hM'⟩, (lo : Int), rfl, ((lo + ai (hi - lo) : Nat) : Int), rfl, qA hF' (by omega) (by omega) fun p1 hp1 => ?_⟩
       rw [show lo + ai (hi - lo) - lo = ai (hi - lo) by omega]
       have sl2 : ((es.drop lo).take (ai (hi - lo))).length = ai (hi - lo) := by rw [List.length_take, List.length_drop]; omega
       refine ⟨f, b, p1, (es.drop lo).take (ai (hi - lo)), g', N, rfl, af, enS _ _, by omega, by omega, s'.same (Nat.le_refl _) (am.upd hp1), by omega, fun v g2 H3 kb3 s3 sub3 okv szv ev => ?_⟩
       rw [sl2] at s3 szv
       have hM3 := kb3 _ _ nM (am.upd hp1 _ _ hM')
       refine ⟨M, _, kV v, rfl, rfl, hM3, lt, ?_⟩
       rw [app]
       refine ⟨hi - (lo + ai (hi - lo)), by omega, lo + ai (hi - lo), hi, ks ++ [v], g2, _, rfl, rfl, by omega, ph, hl, af, fun z o nz ez => ?_, ⟨_, s3.setL hM3, by omega⟩, sub.trans sub3, ⟨ss ++ [(es.drop lo).take (ai (hi - lo))], Paired.snoc (Mks.mono ms sub3) ⟨okv, by rw [sl2]; exact szv, ev⟩, ?_⟩, by rw [List.length_append]; show ks.length + 1 + _ ≤ _; omega⟩
       · rw [ae (aj ez hM)]; exact kb3 _ _ nz (am.upd hp1 _ _ (kb _ _ nz ez))
       · rw [es', show hi - (lo + ai (hi - lo)) = hi - lo - ai (hi - lo) by omega, show p - (lo + ai (hi - lo)) = p - lo - ai (hi - lo) by omega]; simp
 · have h1 : ¬ (hi : Int) - (lo : Int) > 1 := h1
   rw [je (s := (es.drop lo).take (hi - lo)) (by rw [sl]; omega), List.append_nil] at es'
   obtain ⟨e, he⟩ : ∃ e, es[p]? = some e := ⟨_, List.getElem?_eq_getElem hpe⟩
   refine ixL (j := p) hF' rfl (by rw [List.getElem?_map, he]; rfl) ⟨M, _, rfl, .inl ⟨SqL.of hM', fun T hT => ⟨aG (show 2 ≤ 1000000 by decide), fun P hP => ?_⟩⟩⟩
   have S5 := (am.upd (o := .tup (ks.map kV)) hT).trans (am.upd (o := .tup [kV e, .ref T]) hP)
   exact q P T e ks g' _ (kb.trans (aD.same S5)) (s'.same (by omega) S5) sub ⟨af, am.upd hP _ _ af⟩ he (by show Mks g' (wy es p) ks; rw [es']; exact ms)
theorem ou (c : Nat) (h : 1 ≤ c) : c ≤ 2 ^ Builtin.Int.intBits ((c : Int) - 1) := by
 by_cases h1 : c = 1
 · subst h1
   exact Nat.two_pow_pos _
 · unfold Builtin.Int.intBits
   rw [if_neg (by simp; omega), show ((c : Int) - 1).natAbs = c - 1 by omega]
   have := Nat.lt_log2_self (n := c - 1)
   omega
theorem xy (K : W.Frag) (A : Adr) : Ln (dM K A) 4 := by rintro vs H Q E ⟨x, f, L, D, b, F, es, kvs, g, n, c, e, rfl, _⟩; rfl
theorem AJ (T : Txt K mg A) : Rd (dM K A) (Ca K A) ["_law_stamper_here", "_law_row", "_law_entries", "_law_place", "_law_count", "_law_found", "_law_mark"] := by
 intro vs H Q E h
 obtain ⟨x, f, L, D, b, F, es, kvs, g, n, c, p, rfl, r, hF, hc, hpc, hn, q⟩ := h
 have l60 := r.r.le
 have tl : (es.take c).length = c := by rw [List.length_take]; omega
 have en : ∀ y ∈ es.take c, enK y := fun y hy => r.r.en y (List.mem_of_mem_take hy)
 obtain ⟨dx, hx⟩ := r.r.ob
 obtain ⟨nF, nF2⟩ := r.n2 hF (fun _ z => nomatch z) (fun _ z => nomatch z)
 refine .inl (.inl ⟨_, SqL.of hF, ?_⟩)
 rw [List.length_map, tl]
 refine ⟨x, dx, _, rfl, hx, rfl, x, f, L, D, b, es, kvs, g, n, c, p, rfl, r, hc, hpc, by omega, fun P TT e ks kvs1 g1 H1 k1 r1 s1 w1 he mk => ?_⟩
 have hF1 := k1 _ _ nF nF2 hF
 have ge : (es.take c)[p]? = some e := by rw [List.getElem?_take, if_pos hpc]; exact he
 refine ⟨f, b, F, es.take c, p, g1, n + 200, rfl, hF1, en, by omega, by omega, r1.s, by omega, fun P2 T2 e2 ks2 g2 H2 k2 s2 sub2 w2 he2 mk2 => ?_⟩
 rw [tl] at mk2
 obtain rfl : ks = ks2 := Mks.eq mk mk2 sub2
 obtain rfl : e = e2 := Option.some.inj (ge.symm.trans he2)
 refine ⟨P, TT, P2, T2, e, ks, rfl, w1.kb r1.s k2, w2, fun H3 S3 => Sel.no rfl ?_⟩
 have r3 := (r1.call k2 s2 sub2 (by omega)).same S3 (Nat.le_refl _)
 have w3 := (w1.kb r1.s k2).same S3
 have hF3 := S3 _ _ (k2 _ _ nF hF1)
 have kk3 : aY b D H H3 := k1.trans ((aY.kb k2).trans (aY.same S3))
 have ss3 : Sub g g2 := s1.trans sub2
 refine ixT (j := 1) w3.hP rfl rfl (.inl (.inr (.inl ⟨_, SqT.of w3.hT, rfl, Sel.dec (fun h => ?_) (fun _ => ?_)⟩)))
 · have := Paired.length mk2
   have h3 := vT _ (es.take c) p (Nat.le_trans (Nat.le_of_eq tl) (ou c (by omega)))
   unfold wy at h3
   rw [tl] at h3
   have h : ((ks.map kV).length : Int) > (Builtin.Int.intBits ((c : Int) - 1) : Int) := h
   rw [List.length_map] at h
   omega
 refine ⟨f, rfl, r3.s.clo, f, b, F, es.take c, g2, _, rfl, hF3, en, by omega, by omega, r3.s, by omega, fun v g4 H4 k4 s4 sub4 okv szv ev => ⟨aG (show 3 ≤ 1000000 by decide), fun t ht => ?_⟩⟩
 rw [tl] at s4
 have r5 := (r3.call k4 s4 sub4 (by omega)).same (am.upd (o := .tup [.str "row", .int (c : Int), kV v]) ht) (Nat.le_refl _)
 have ht5 : upd H4 t (.tup [.str "row", .int (c : Int), kV v]) t = some (.tup (([.inr "row", .inl (c : Int), v] : List Key).map kV)) := af
 have S5 : am H4 (upd H4 t (.tup [.str "row", .int (c : Int), kV v])) := am.upd ht
 generalize upd H4 t (.tup [.str "row", .int (c : Int), kV v]) = H5 at S5 ht5 r5
 dsimp only [ag]
 refine dX r5.s (by omega) ht5 (mF (by omega) okv) fun w H6 g6 kb6 s6 sub6 gv6 st6 => ?_
 have r6 := r5.call kb6 s6 sub6 (Nat.le_succ _)
 have kb : aD b H3 H6 := k4.trans ((aD.same S5).trans kb6)
 have hF6 := kb _ _ nF hF3
 have w6 := w3.kb r3.s kb
 have sw : okP w = true := fQ st6 (by rw [sz3, szW.2.2.2]; unfold szB at szv; rw [tl] at szv; show 65 + (62 + _) ≤ _; omega)
 have kk6 : aY b D H H6 := kk3.trans (aY.kb kb)
 have ss6 : Sub g g6 := ss3.trans (sub4.trans sub6)
 have ew : ∀ h, Ext g6 h → w = h (nI h (es.take c)) := fun h eh => by
   rw [← eh _ _ gv6, ev h (Ext.of sub6 eh)]; unfold nI; rw [tl]
 refine ⟨aG (show 2 ≤ 1000000 by decide), fun hd hhd => ?_⟩
 have S11 : am H6 (upd H6 hd (.tup [.int (c : Int), kV w])) := am.upd hhd
 have h11 : upd H6 hd (.tup [.int (c : Int), kV w]) hd = some (.tup [.int (((es.take c).length : Nat) : Int), kV w]) := by rw [tl]; exact af
 generalize upd H6 hd (.tup [.int (c : Int), kV w]) = H11 at S11 h11
 have r11 := r6.same S11 (Nat.le_refl _)
 refine ⟨f, b, hd, P, TT, es.take c, ks, p, e, w, g6, _, rfl, ⟨r11.s, by omega, by omega, by omega, ge, en e (List.mem_of_getElem? ge), w6.same S11, by rw [tl]; exact Mks.mono mk2 (sub4.trans sub6)⟩, h11, sw, ew, fun g12 H12 k12 s12 sub12 => ?_⟩
 refine ixL (j := p) (k12 _ _ nF (S11 _ _ hF6)) rfl (by rw [List.getElem?_map, ge]; rfl) ⟨e, rfl, ?_⟩
 exact q kvs1 g12 H12 (kk6.trans ((aY.same S11).trans (aY.kb k12))) ((r11.call k12 s12 sub12 (by omega)).same am.rfl' (by omega)) (ss6.trans sub12)
end Rs
namespace Rs
open PySem PySem.Spec PyProof.Rows L2
def pyK : Key → PyData
 | .inl i => .int i
 | .inr z => .str z
theorem gq {K : W.Frag} {H : Hp} : ∀ ks : List Key, DatVs K H (ks.map kV) (ks.map pyK)
 | [] => .nil
 | .inl i :: r => .cons (.int i) (gq r)
 | .inr z :: r => .cons (.str z) (gq r)
theorem iq : ∀ {ks : List Key}, (∀ k ∈ ks, okP k = true) → PyData.canLayAll0 (ks.map pyK) = true ∧ PyData.depthAll (ks.map pyK) ≤ 1
  | [], _ => ⟨rfl, by simp [PyData.depthAll]⟩
  | k :: r, h => by
    obtain ⟨h1, h2⟩ := iq fun x hx => h x (List.mem_cons_of_mem _ hx)
    have hk : (pyK k).canLay0 = true ∧ (pyK k).depth ≤ 1 := by
      cases k with
      | inl i => exact ⟨rfl, by simp [pyK, PyData.depth]⟩
      | inr z => exact ⟨wN (Bool.and_eq_true_iff.mp (h _ List.mem_cons_self)).1, by simp [pyK, PyData.depth]⟩
    refine ⟨?_, ?_⟩
    · show ((pyK k).canLay0 && PyData.canLayAll0 (r.map pyK)) = true
      rw [hk.1, h1]; rfl
    · rw [List.map_cons, PyData.depthAll]; exact Nat.max_le.mpr ⟨hk.2, h2⟩
theorem mN {K : W.Frag} {H : Hp} {P T : Addr} {e : Key} {ks : List Key} (w : dQ H P T e ks) : dt K H (.ref P) (.tuple [pyK e, .tuple (ks.map pyK)]) := by
 refine .tup (SqT.of w.hP) (.cons ?_ (.cons (.tup (SqT.of w.hT) (gq ks)) .nil))
 cases e with
 | inl i => exact .int i
 | inr z => exact .str z
theorem uC {e : Key} {ks : List Key} (oke : okP e = true) (ok : ∀ k ∈ ks, okP k = true) : (PyData.tuple [pyK e, .tuple (ks.map pyK)]).canLay0 = true ∧ (PyData.tuple [pyK e, .tuple (ks.map pyK)]).depth ≤ 150 := by
 obtain ⟨h1, h2⟩ := iq ok
 obtain ⟨h3, h4⟩ := iq (ks := [e]) (fun k hk => by rw [List.mem_singleton.mp hk]; exact oke)
 have h3 : ((pyK e).canLay0 && true) = true := h3
 rw [Bool.and_true] at h3
 have h4 : max (pyK e).depth 0 ≤ 1 := by simpa [PyData.depthAll] using h4
 refine ⟨?_, ?_⟩
 · show ((pyK e).canLay0 && (PyData.canLayAll0 (ks.map pyK) && true)) = true
   rw [h3, h1]; rfl
 · rw [PyData.depth, PyData.depthAll, PyData.depthAll, PyData.depth, PyData.depthAll]
   omega
variable {K : W.Frag} {mg : Str → Option Value} {A : Adr}
structure Fy (H1 : Hp) (L1 L3 D1 D3 : Addr) : Prop where
 d13 : D1 ≠ D3
 l13 : L1 ≠ L3
 f1 : H1 D1 = none
 f3 : H1 D3 = none
 m1 : H1 L1 = none
 m3 : H1 L3 = none
structure Zt (A : Adr) (H1 H : Hp) (f b : Addr) (g : List Key → Option Key) (n : Nat) (x1 L1 D1 : Addr) (e1 : List Key) (x3 L3 D3 : Addr) (e3 : List Key) (O : Addr) (os : List Key) (P T : Addr) (e : Key) (ks : List Key) : Prop where
 kb : aD b H1 H
 r1 : cC A H f b g n x1 L1 D1 e1
 r3 : cC A H f b g n x3 L3 D3 e3
 o : H O = some (.lst (os.map kV))
 w : dQ H P T e ks
section
variable {H1 H H' : Hp} {f b x1 L1 D1 x3 L3 D3 O P T : Addr} {e : Key} {g g' : List Key → Option Key} {n m : Nat} {e1 e3 os ks : List Key} {kvs : List (List Key × Key)}
theorem Zt.same (z : Zt A H1 H f b g n x1 L1 D1 e1 x3 L3 D3 e3 O os P T e ks) (S : am H H') (hn : n ≤ m) : Zt A H1 H' f b g m x1 L1 D1 e1 x3 L3 D3 e3 O os P T e ks := ⟨z.kb.trans (aD.same S), z.r1.same S hn, z.r3.same S hn, S _ _ z.o, z.w.same S⟩
theorem Zt.op1 (z : Zt A H1 H f b g n x1 L1 D1 e1 x3 L3 D3 e3 O os P T e ks) (F : Fy H1 L1 L3 D1 D3) (k : aY b D1 H H') (r : bZ A H' x1 f L1 D1 b e1 kvs g' m) (sub : Sub g g') (hn : n ≤ m) : Zt A H1 H' f b g' m x1 L1 D1 e1 x3 L3 D3 e3 O os P T e ks := by
 obtain ⟨_, r0⟩ := z.r1
 obtain ⟨n1, n2⟩ := r0.n2 z.o (fun _ z => nomatch z) (fun _ z => nomatch z)
 obtain ⟨n3, n4⟩ := r0.n2 z.w.hP (fun _ z => nomatch z) (fun _ z => nomatch z)
 obtain ⟨n5, n6⟩ := r0.n2 z.w.hT (fun _ z => nomatch z) (fun _ z => nomatch z)
 exact ⟨z.kb.k2 k F.f1, ⟨_, r⟩, z.r3.other z.r1 ⟨_, r⟩ k sub hn (Ne.symm F.d13), k _ _ n1 n2 z.o, ⟨k _ _ n3 n4 z.w.hP, k _ _ n5 n6 z.w.hT⟩⟩
theorem Zt.op3 (z : Zt A H1 H f b g n x1 L1 D1 e1 x3 L3 D3 e3 O os P T e ks) (F : Fy H1 L1 L3 D1 D3) (k : aY b D3 H H') (r : bZ A H' x3 f L3 D3 b e3 kvs g' m) (sub : Sub g g') (hn : n ≤ m) : Zt A H1 H' f b g' m x1 L1 D1 e1 x3 L3 D3 e3 O os P T e ks := by
 obtain ⟨_, r0⟩ := z.r3
 obtain ⟨n1, n2⟩ := r0.n2 z.o (fun _ z => nomatch z) (fun _ z => nomatch z)
 obtain ⟨n3, n4⟩ := r0.n2 z.w.hP (fun _ z => nomatch z) (fun _ z => nomatch z)
 obtain ⟨n5, n6⟩ := r0.n2 z.w.hT (fun _ z => nomatch z) (fun _ z => nomatch z)
 exact ⟨z.kb.k2 k F.f3, z.r1.other z.r3 ⟨_, r⟩ k sub hn F.d13, ⟨_, r⟩, k _ _ n1 n2 z.o, ⟨k _ _ n3 n4 z.w.hP, k _ _ n5 n6 z.w.hT⟩⟩
end
structure Cy (K : W.Frag) (a b E : Addr) (ns : List Int) (es os : List Key) (c p : Nat) (H1 : Hp) (g0 : List Key → Option Key) (e : Key) (ks : List Key) : Prop where
 hE : H1 E = some (.lst (es.map kV))
 nE : E ≠ b
 hs : ∀ H', aD b H1 H' → SqL K H' a (ns.map V.int)
 en : ∀ e ∈ es, enK e
 l60 : es.length ≤ 60
 hc : c ≤ es.length
 hp : p < c
 pz : bN ns 2 % (c : Int) = (p : Int)
 ho : os = es.take c ++ (es.drop c).reverse
 ge : es[p]? = some e
 ms : Mks g0 (cR c (es.take c) p) ks
section
variable {a f b E O P T x1 L1 D1 x3 L3 D3 : Addr} {ns : List Int} {es os ks : List Key} {e : Key} {c p : Nat} {H1 : Hp} {g0 : List Key → Option Key} {Q : VK}
theorem Cy.ol (C : Cy K a b E ns es os c p H1 g0 e ks) : os.length = es.length := by
 have := C.hc
 rw [C.ho, List.length_append, List.length_take, List.length_reverse, List.length_drop]; omega
theorem Cy.oen (C : Cy K a b E ns es os c p H1 g0 e ks) : ∀ x ∈ os, enK x := fun x hx => by
 rw [C.ho] at hx
 rcases List.mem_append.mp hx with h | h
 · exact C.en x (List.mem_of_mem_take h)
 · exact C.en x (List.mem_of_mem_drop (List.mem_reverse.mp h))
theorem y12 (C : Cy K a b E ns es os c p H1 g0 e ks) (F : Fy H1 L1 L3 D1 D3) (hq : ∀ H', Q (.bl true) H') {H : Hp} {g : List Key → Option Key} {n : Nat} {x5 x9 x10 x11 x12 : Option V} (z : Zt A H1 H f b g n x1 L1 D1 es x3 L3 D3 os O os P T e ks) (hn : n ≤ 20000) :
  ni K A { nx := fun _ H' => Q .non H', rt := Q } [some (.ref a), some (.ref f), some (.ref E), some (.int (c : Int)), some (.ref x1), x5, some (.ref P), some (.ref x3), some (.ref O), x9, x10, x11, x12] H := by
 have hE := z.kb _ _ C.nE C.hE
 have l60 := C.l60
 have hc := C.hc
 have hp := C.hp
 obtain ⟨k1, r1⟩ := z.r1
 refine .inl (.inl ⟨_, SqL.of hE, x1, f, L1, D1, b, E, es, k1, g, n, es.length, es.length - 1, ?_, r1, by rw [List.take_length]; exact hE, Nat.le_refl _, by omega, by omega, fun kv2 g2 H2 kk r2 sub => hq H2⟩)
 rw [List.length_map, Int.ofNat_sub (by omega)]; rfl
theorem y11 (C : Cy K a b E ns es os c p H1 g0 e ks) (F : Fy H1 L1 L3 D1 D3) (hq : ∀ H', Q (.bl true) H') {H : Hp} {g : List Key → Option Key} {n : Nat} {x5 x9 x10 x11 x12 : Option V} (z : Zt A H1 H f b g n x1 L1 D1 es x3 L3 D3 os O os P T e ks) (hn : n ≤ 10000) :
   mV K A { nx := fun _ H' => Q .non H', rt := Q } [some (.ref a), some (.ref f), some (.ref E), some (.int (c : Int)), some (.ref x1), x5, some (.ref P), some (.ref x3), some (.ref O), x9, x10, x11, x12] H := by
 have l60 := C.l60
 have hc := C.hc
 have hp := C.hp
 have ol := C.ol
 refine ⟨3, 7, 2, rfl, ⟨by decide, by decide +kernel, by decide +kernel, by decide +kernel⟩, ?_⟩
 rw [show (Builtin.Range.rangeSize 3 7 2).toNat = 2 by decide +kernel]
 refine pS cg.range3 (fun i σ H' => ∃ x10 x11 x12 g', σ = [some (.ref a), some (.ref f), some (.ref E), some (.int (c : Int)), some (.ref x1), x5, some (.ref P), some (.ref x3), some (.ref O), x9, x10, x11, x12] ∧ Zt A H1 H' f b g' (n + 2000 * i) x1 L1 D1 es x3 L3 D3 os O os P T e ks)
   ⟨_, _, _, g, rfl, z⟩ (fun _ _ _ _ _ => trivial) (fun i σ H' hi h => ?_) (fun σ H' h => ?_)
 · obtain ⟨x10, x11, x12, g', rfl, z'⟩ := h
   have hE := z'.kb _ _ C.nE C.hE
   refine ⟨a, ns, 3 + (i : Int) * 2, rfl, C.hs _ z'.kb, by omega, .inl (.inl ⟨_, SqL.of hE, ?_⟩)⟩
   rw [List.length_map]
   refine ⟨by omega, ?_⟩
   generalize bN ns (3 + (i : Int) * 2) = w
   obtain ⟨c0, e2⟩ := Int.eq_ofNat_of_zero_le (Int.emod_nonneg w (show (es.length : Int) ≠ 0 by omega))
   have l2 := Int.emod_lt_of_pos w (show 0 < (es.length : Int) by omega)
   rw [e2] at l2 ⊢
   obtain ⟨c2, rfl⟩ : ∃ c2, c2 = 1 + c0 := ⟨_, rfl⟩
   refine ⟨a, ns, 3 + (i : Int) * 2 + 1, rfl, C.hs _ z'.kb, by omega, show (0 : Int) < 1 + (c0 : Int) by omega, ?_⟩
   generalize bN ns (3 + (i : Int) * 2 + 1) = w2
   obtain ⟨c3, e3⟩ := Int.eq_ofNat_of_zero_le (Int.emod_nonneg w2 (show (1 : Int) + (c0 : Int) ≠ 0 by omega))
   have l3 := Int.emod_lt_of_pos w2 (show (0 : Int) < 1 + (c0 : Int) by omega)
   rw [e3] at l3 ⊢
   refine ⟨((1 + c0 : Nat) : Int), rfl, jo hE (by omega) fun q1 hq1 => ?_⟩
   have z2 := z'.same (am.upd (o := .lst ((es.take (1 + c0)).map kV)) hq1) (Nat.le_refl _)
   have hq2 : upd H' q1 (.lst ((es.take (1 + c0)).map kV)) q1 = some (.lst ((es.take (1 + c0)).map kV)) := af
   generalize upd H' q1 (.lst ((es.take (1 + c0)).map kV)) = H2 at z2 hq2
   obtain ⟨k1, r1⟩ := z2.r1
   refine ⟨x1, f, L1, D1, b, q1, es, k1, g', _, 1 + c0, c3, rfl, r1, hq2, by omega, by omega, by omega, fun kv4 g4 H4 kk4 r4 sub4 => Sel.no rfl ?_⟩
   have z4 := z2.op1 F kk4 r4 sub4 (by omega)
   refine ⟨((1 + c0 : Nat) : Int), rfl, jo z4.o (by omega) fun q3 hq3 => ?_⟩
   have z5 := z4.same (am.upd (o := .lst ((os.take (1 + c0)).map kV)) hq3) (Nat.le_refl _)
   have hq4 : upd H4 q3 (.lst ((os.take (1 + c0)).map kV)) q3 = some (.lst ((os.take (1 + c0)).map kV)) := af
   generalize upd H4 q3 (.lst ((os.take (1 + c0)).map kV)) = H5 at z5 hq4
   obtain ⟨k3, r3⟩ := z5.r3
   exact ⟨x3, f, L3, D3, b, q3, os, k3, g4, _, 1 + c0, c3, rfl, r3, hq4, by omega, by omega, by omega, fun kv6 g6 H6 kk6 r6 sub6 => Sel.no rfl ⟨_, _, _, g6, rfl, (z5.op3 F kk6 r6 sub6 (by omega)).same am.rfl' (by omega)⟩⟩
 · obtain ⟨x10, x11, x12, g', rfl, z'⟩ := h
   exact y12 C F hq z' (by omega)
theorem y10 (C : Cy K a b E ns es os c p H1 g0 e ks) (F : Fy H1 L1 L3 D1 D3) (hq : ∀ H', Q (.bl true) H') {H : Hp} {g : List Key → Option Key} {n : Nat} {x5 x9 x10 x11 x12 : Option V} (z : Zt A H1 H f b g n x1 L1 D1 es x3 L3 D3 os O os P T e ks) (sub : Sub g0 g) (hn : n ≤ 5000) :
  qr K A { nx := fun _ H' => Q .non H', rt := Q } [some (.ref a), some (.ref f), some (.ref E), some (.int (c : Int)), some (.ref x1), x5, some (.ref P), some (.ref x3), some (.ref O), x9, x10, x11, x12] H := by
 have l60 := C.l60
 have hc := C.hc
 have hp := C.hp
 obtain ⟨k1, r1⟩ := z.r1
 obtain ⟨dx, hx⟩ := r1.r.ob
 refine ⟨x1, dx, _, rfl, hx, rfl, a, ns, 2, rfl, C.hs _ z.kb, by decide, by omega, x1, f, L1, D1, b, es, k1, g, n, c, p, by rw [C.pz], r1, hc, hp, by omega, fun P2 T2 e2 ks2 kv2 g2 H2 kk r2 sub2 w2 he2 mk2 => ?_⟩
 obtain rfl : ks = ks2 := Mks.eq C.ms mk2 (sub.trans sub2)
 obtain rfl : e = e2 := Option.some.inj (C.ge.symm.trans he2)
 have z2 := z.op1 F kk r2 sub2 (by omega)
 obtain ⟨y1, y2⟩ := uC (e := e) (C.en e (List.mem_of_getElem? C.ge)).1 (Mks.ok mk2)
 refine ⟨_, _, mN w2, mN z2.w, y1, y1, y2, Sel.no (by rw [SeqAt.eqv_refl _ y1]; rfl) ⟨c, rfl, jo (z2.kb _ _ C.nE C.hE) hc fun q1 hq1 => ?_⟩⟩
 have z3 := z2.same (am.upd (o := .lst ((es.take c).map kV)) hq1) (Nat.le_refl _)
 have hq2 : upd H2 q1 (.lst ((es.take c).map kV)) q1 = some (.lst ((es.take c).map kV)) := af
 generalize upd H2 q1 (.lst ((es.take c).map kV)) = H3 at z3 hq2
 obtain ⟨k3, r3⟩ := z3.r1
 exact ⟨a, ns, 2, rfl, C.hs _ z3.kb, by decide, by omega, x1, f, L1, D1, b, q1, es, k3, g2, _, c, p, by rw [C.pz], r3, hq2, hc, hp, by omega, fun kv4 g4 H4 kk4 r4 sub4 => Sel.no rfl (y11 C F hq (z3.op1 F kk4 r4 sub4 (by omega)) (by omega))⟩
end
end Rs
namespace Rs
open PySem PySem.Spec PyProof.Rows L2
theorem AI (ns : List Int) : ∃ zs : List Int, df (ns.map V.int) (some 8) (some 40) = zs.map V.int ∧ zs.length ≤ 32 := by
 refine ⟨(ns.drop (HT.sIx ns.length 0 (some 8))).take (HT.sIx ns.length ns.length (some 40) - HT.sIx ns.length 0 (some 8)), ?_, ?_⟩
 · unfold df
   rw [List.length_map, List.map_take, List.map_drop]
 · have h1 := HT.eX ns.length 0 8
   have h2 := HT.eX ns.length ns.length 40
   rw [List.length_take, show (some 8 : Option Int) = some ((8 : Nat) : Int) from rfl, show (some 40 : Option Int) = some ((40 : Nat) : Int) from rfl, h1, h2]; omega
variable {K : W.Frag} {mg : Str → Option Value} {A : Adr}
theorem aD.free {b z : Addr} {H H' : Hp} (k : aD b H H') (h : H' z = none) (n : z ≠ b) : H z = none := by
 cases e : H z with
 | none => rfl
 | some o => rw [k z o n e] at h; cases h
theorem Stp.fresh {H : Hp} {f b z : Addr} {g : List Key → Option Key} {n : Nat} (s : Stp A H f b g n) (h : H z = none) : z ≠ b := by
 rcases s.bb with ⟨φ, e⟩ | ⟨kvs, e⟩
 · exact Ne.symm (aj e h)
 · exact Ne.symm (aj e h)
theorem cC.add {H : Hp} {f b x L D : Addr} {g : List Key → Option Key} {n : Nat} {es : List Key} {e : Key} (r : cC A H f b g n x L D es) (en : enK e) (lt : es.length < 60) : cC A (upd H L (.lst ((es ++ [e]).map kV))) f b g n x L D (es ++ [e]) := by
 obtain ⟨kvs, r⟩ := r
 obtain ⟨dx, hx⟩ := r.r.ob
 refine r.grow (fun z o n h => by rw [ae n]; exact h) ⟨⟨dx, by rw [ae (aS hx r.r.hl (fun z => nomatch z))]; exact hx⟩, af, by rw [ae (aS r.r.hd r.r.hl (fun z => nomatch z))]; exact r.r.hd, fun y hy => ?_, by rw [List.length_append]; show _ + 1 ≤ _; omega⟩ ⟨[e], rfl⟩
 rcases List.mem_append.mp hy with h | h
 · exact r.r.en y h
 · rw [List.mem_singleton.mp h]; exact en
section
variable {H1 H : Hp} {f b x1 L1 D1 x3 L3 D3 O P T : Addr} {g : List Key → Option Key} {n : Nat} {e1 e3 os ks : List Key} {e ee : Key}
theorem Zt.add1 (z : Zt A H1 H f b g n x1 L1 D1 e1 x3 L3 D3 e3 O os P T ee ks) (F : Fy H1 L1 L3 D1 D3) (oL : O ≠ L1) (en : enK e) (lt : e1.length < 60) : Zt A H1 (upd H L1 (.lst ((e1 ++ [e]).map kV))) f b g n x1 L1 D1 (e1 ++ [e]) x3 L3 D3 e3 O os P T ee ks := by
 obtain ⟨_, r0⟩ := z.r1
 have k : ∀ y o, y ≠ L1 → H y = some o → upd H L1 (.lst ((e1 ++ [e]).map kV)) y = some o := fun y o n h => by rw [ae n]; exact h
 exact ⟨z.kb.kl k F.m1, z.r1.add en lt, z.r3.keepL k r0.r.hl (Ne.symm F.l13), k _ _ oL z.o, ⟨k _ _ (aS z.w.hP r0.r.hl (fun z => nomatch z)) z.w.hP, k _ _ (aS z.w.hT r0.r.hl (fun z => nomatch z)) z.w.hT⟩⟩
theorem Zt.add3 (z : Zt A H1 H f b g n x1 L1 D1 e1 x3 L3 D3 e3 O os P T ee ks) (F : Fy H1 L1 L3 D1 D3) (oL : O ≠ L3) (en : enK e) (lt : e3.length < 60) : Zt A H1 (upd H L3 (.lst ((e3 ++ [e]).map kV))) f b g n x1 L1 D1 e1 x3 L3 D3 (e3 ++ [e]) O os P T ee ks := by
 obtain ⟨_, r0⟩ := z.r3
 have k : ∀ y o, y ≠ L3 → H y = some o → upd H L3 (.lst ((e3 ++ [e]).map kV)) y = some o := fun y o n h => by rw [ae n]; exact h
 exact ⟨z.kb.kl k F.m3, z.r1.keepL k r0.r.hl F.l13, z.r3.add en lt, k _ _ oL z.o, ⟨k _ _ (aS z.w.hP r0.r.hl (fun z => nomatch z)) z.w.hP, k _ _ (aS z.w.hT r0.r.hl (fun z => nomatch z)) z.w.hT⟩⟩
end
section
variable {a f b E O P T x1 L1 D1 x3 L3 D3 : Addr} {ns : List Int} {es os ks : List Key} {e : Key} {c p : Nat} {H1 : Hp} {g0 : List Key → Option Key} {Q : VK}
theorem y9 (C : Cy K a b E ns es os c p H1 g0 e ks) (F : Fy H1 L1 L3 D1 D3) (o1 : O ≠ L1) (o3 : O ≠ L3) (hq : ∀ H', Q (.bl true) H') {H : Hp} {g : List Key → Option Key} {n : Nat} {x5 x9 x10 x11 x12 : Option V} (z : Zt A H1 H f b g n x1 L1 D1 (es.take c) x3 L3 D3 (es.take c) O os P T e ks) (sub : Sub g0 g) (hn : n ≤ 5000) :
   pY K A { nx := fun _ H' => Q .non H', rt := Q } [some (.ref a), some (.ref f), some (.ref E), some (.int (c : Int)), some (.ref x1), x5, some (.ref P), some (.ref x3), some (.ref O), x9, x10, x11, x12] H := by
 have l60 := C.l60
 have hc := C.hc
 have ol := C.ol
 have tc : os.take c = es.take c := by rw [C.ho, List.take_append_of_le_length (by rw [List.length_take]; omega), List.take_take, Nat.min_self]
 refine ⟨c, rfl, jG (z.kb _ _ C.nE C.hE) hc fun q1 hq1 => ⟨c, rfl, jG (am.upd hq1 _ _ z.o) (by omega) fun q2 hq2 => ?_⟩⟩
 have S1 : am H (upd (upd H q1 (.lst ((es.drop c).map kV))) q2 (.lst ((os.drop c).map kV))) := (am.upd hq1).trans (am.upd hq2)
 have h1 : upd (upd H q1 (.lst ((es.drop c).map kV))) q2 (.lst ((os.drop c).map kV)) q1 = some (.lst ((es.drop c).map kV)) := am.upd hq2 _ _ af
 have h2 : upd (upd H q1 (.lst ((es.drop c).map kV))) q2 (.lst ((os.drop c).map kV)) q2 = some (.lst ((os.drop c).map kV)) := af
 obtain ⟨_, ra⟩ := z.r1
 obtain ⟨_, rb⟩ := z.r3
 have n11 : q1 ≠ L1 := Ne.symm (aj ra.r.hl hq1)
 have n13 : q1 ≠ L3 := Ne.symm (aj rb.r.hl hq1)
 have n21 : q2 ≠ L1 := Ne.symm (aj ra.r.hl (aR hq2).2)
 have n23 : q2 ≠ L3 := Ne.symm (aj rb.r.hl (aR hq2).2)
 have z1 := z.same S1 (Nat.le_refl _)
 generalize upd (upd H q1 (.lst ((es.drop c).map kV))) q2 (.lst ((os.drop c).map kV)) = H2 at S1 h1 h2 z1
 refine .inr ⟨q1, q2, _, _, rfl, SqL.of h1, SqL.of h2, sE (xs := (es.drop c).map kV) (ys := (os.drop c).map kV) (fun i σ H' => ∃ x5 x9, σ = [some (.ref a), some (.ref f), some (.ref E), some (.int (c : Int)), some (.ref x1), x5, some (.ref P), some (.ref x3), some (.ref O), x9, x10, x11, x12] ∧ Zt A H1 H' f b g n x1 L1 D1 (es.take (c + i)) x3 L3 D3 (os.take (c + i)) O os P T e ks ∧ H' q1 = some (.lst ((es.drop c).map kV)) ∧ H' q2 = some (.lst ((os.drop c).map kV)))
   ⟨_, _, rfl, by rw [Nat.add_zero, tc]; exact z1, h1, h2⟩ (fun i σ H' _ h => ?_) (by rw [List.length_map, List.length_map, List.length_drop, List.length_drop, ol]) (fun i x y σ H' t hx hy h ht => ?_) (fun σ H' h => ?_)⟩
 · obtain ⟨_, _, _, _, h1, h2⟩ := h
   exact ⟨SqL.of h1, SqL.of h2⟩
 · obtain ⟨x5, x9, rfl, z2, h1, h2⟩ := h
   obtain ⟨u, hu, rfl⟩ := dY hx
   obtain ⟨v, hv, rfl⟩ := dY hy
   rw [List.getElem?_drop] at hu hv
   have hi := (List.getElem?_eq_some_iff.mp hu).1
   have t1 : es.take (c + (i + 1)) = es.take (c + i) ++ [u] := by rw [← Nat.add_assoc, List.take_add_one, hu]; rfl
   have t3 : os.take (c + (i + 1)) = os.take (c + i) ++ [v] := by rw [← Nat.add_assoc, List.take_add_one, hv]; rfl
   have z3 := z2.same (am.upd (o := .tup [kV u, kV v]) ht) (Nat.le_refl _)
   have h1 := am.upd (o := .tup [kV u, kV v]) ht _ _ h1
   have h2 := am.upd (o := .tup [kV u, kV v]) ht _ _ h2
   have ht3 : upd H' t (.tup [kV u, kV v]) t = some (.tup [kV u, kV v]) := af
   generalize upd H' t (.tup [kV u, kV v]) = H3 at z3 h1 h2 ht3
   obtain ⟨k1, r1⟩ := z3.r1
   obtain ⟨dx, hx1⟩ := r1.r.ob
   have enu := C.en u (List.mem_of_getElem? hu)
   have env := C.oen v (List.mem_of_getElem? hv)
   have l1 : (es.take (c + i)).length < 60 := by rw [List.length_take]; omega
   have l3 : (os.take (c + i)).length < 60 := by rw [List.length_take]; omega
   refine ⟨t, _, rfl, SqT.of ht3, rfl, _, _, rfl, _, _, rfl, rfl, x1, dx, _, rfl, hx1, rfl, x1, f, L1, D1, _, k1, u, rfl, r1.r, enu, l1, ?_⟩
   have z4 := z3.add1 F o1 enu l1
   have h1 : upd H3 L1 (.lst ((es.take (c + i) ++ [u]).map kV)) q1 = some (.lst ((es.drop c).map kV)) := by rw [ae n11]; exact h1
   have h2 : upd H3 L1 (.lst ((es.take (c + i) ++ [u]).map kV)) q2 = some (.lst ((os.drop c).map kV)) := by rw [ae n21]; exact h2
   generalize upd H3 L1 (.lst ((es.take (c + i) ++ [u]).map kV)) = H4 at z4 h1 h2
   obtain ⟨k3, r3⟩ := z4.r3
   obtain ⟨dx3, hx3⟩ := r3.r.ob
   refine ⟨x3, dx3, _, rfl, hx3, rfl, x3, f, L3, D3, _, k3, v, rfl, r3.r, env, l3, ?_⟩
   have z5 := z4.add3 F o3 env l3
   refine ⟨_, _, rfl, by rw [t1, t3]; exact z5, ?_, ?_⟩
   · rw [ae n13]; exact h1
   · rw [ae n23]; exact h2
 · obtain ⟨x5, x9, rfl, z2, _, _⟩ := h
   rw [List.length_map, List.length_drop, show c + (es.length - c) = es.length by omega, List.take_length] at z2
   rw [List.take_of_length_le (by omega)] at z2
   exact y10 C F hq z2 sub hn
end
theorem wE (K : W.Frag) (A : Adr) : Ln (kO K A) 1 := by rintro vs H Q E ⟨a, ns, rfl, _⟩; rfl
theorem yT (T : Txt K mg A) : Rd (kO K A) (Bo K A) ["_law_script", "_law_stamper_here", "_law_entries", "_law_cut", "_law_row", "_law_entry", "_law_early", "_law_twin", "_law_others", "_law_other", "_law_k", "_law_count", "_law_place"] := by
 intro vs H Q E h
 obtain ⟨a, ns, rfl, hs, l63, tabs, q⟩ := h
 refine ⟨a, ns, 0, rfl, hs, by decide, _, rfl, tabs, fun f b g Ha kn s0 hb => ?_⟩
 have hsq : ∀ H1 H', am Ha H1 → aD b H1 H' → SqL K H' a (ns.map V.int) := by
   intro H1 H' S k
   rcases hs with (h | ⟨o, h⟩) | h
   · exact .inl (.inl (k _ _ (aj h hb) (S _ _ (kn _ _ h (fun _ z => nomatch z)))))
   · exact .inl (.inr ⟨o, k _ _ (aj h hb) (S _ _ (kn _ _ h (fun _ z => nomatch z)))⟩)
   · exact .inr h
 obtain ⟨zs, ez, lz⟩ := AI ns
 refine ⟨a, ns, 1, rfl, hsq Ha Ha am.rfl' aD.rfl', by decide, aG (show 1 ≤ 1000000 by decide), fun p0 hp0 => ?_⟩
 have S0 : am Ha (upd Ha p0 (.lst [.int (bN ns 1)])) := am.upd hp0
 have hp00 : upd Ha p0 (.lst [.int (bN ns 1)]) p0 = some (.lst [.int (bN ns 1)]) := af
 generalize upd Ha p0 (.lst [.int (bN ns 1)]) = Hx at S0 hp00
 refine ⟨8, rfl, 40, rfl, .inl (.inl ⟨a, _, rfl, hsq Hx Hx S0 aD.rfl', fun p1 hp1 => ?_⟩)⟩
 rw [ez]
 have Sy : am Hx (upd Hx p1 (.lst (zs.map V.int))) := am.upd hp1
 have hp11 : upd Hx p1 (.lst (zs.map V.int)) p1 = some (.lst (zs.map V.int)) := af
 generalize upd Hx p1 (.lst (zs.map V.int)) = Hy at Sy hp11
 refine .inl ⟨p0, p1, [.int (bN ns 1)], zs.map V.int, rfl, rfl, Sy _ _ hp00, hp11, by rw [List.length_map]; exact aG (by show 1 + _ ≤ _; omega), fun p hp => ?_⟩
 have ez1 : [V.int (bN ns 1)] ++ zs.map V.int = (bN ns 1 :: zs).map V.int := rfl
 rw [ez1]
 have lz1 : (bN ns 1 :: zs).length ≤ 33 := by rw [List.length_cons]; omega
 have lz2 : 1 ≤ (bN ns 1 :: zs).length := by rw [List.length_cons]; omega
 generalize bN ns 1 :: zs = zs at lz1 lz2
 have S1 : am Ha (upd Hy p (.lst (zs.map V.int))) := S0.trans (Sy.trans (am.upd hp))
 have hp1 : upd Hy p (.lst (zs.map V.int)) p = some (.lst (zs.map V.int)) := af
 generalize upd Hy p (.lst (zs.map V.int)) = Hb at S1 hp1
 refine ⟨p, rfl, .inl ⟨⟨_, SqL.of hp1⟩, fun D hD => ?_⟩⟩
 refine fV (cg.list (xs := zs.map V.int) .non) (fun i ys H' => ∃ es : List Key, ys = es.map kV ∧ es.length = i ∧ (∀ e ∈ es, enK e) ∧ H' D = some (.lst ys) ∧ am Hb H')
   (fun i ys H' _ h => ?_) ⟨[], rfl, rfl, (fun _ h => nomatch h), af, am.upd hD⟩ (fun i ys H2 hi h => ?_) (fun ys H2 h => ?_)
 · obtain ⟨_, _, _, _, _, S⟩ := h
   exact SqL.of (S _ _ hp1)
 · obtain ⟨es, e1, e2, e3, e4, S⟩ := h
   have hi' : i < zs.length := by rw [List.length_map] at hi; exact hi
   have hg : (zs.map V.int).getD i .non = .int zs[i] := by rw [List.getD_eq_getElem?_getD, List.getElem?_map, List.getElem?_eq_getElem hi']; rfl
   rw [hg]
   refine md ⟨_, rfl, fun e H5 S5 en => ⟨S5 _ _ e4, ?_, CWd.next hi ⟨es ++ [e], by rw [e1, List.map_append]; rfl, by rw [List.length_append, e2]; rfl, fun x hx => ?_, af, fun z o h => ?_⟩⟩⟩
   · rw [e1, List.length_map, e2]; exact cm (by omega)
   · rcases List.mem_append.mp hx with h | h
     · exact e3 x h
     · rw [List.mem_singleton.mp h]; exact en
   · rw [ae (aj h hD)]; exact S5 _ _ (S _ _ h)
 obtain ⟨es, rfl, l1, en, hE, S2⟩ := h
 have S2 : am Ha H2 := S1.trans S2
 rw [List.length_map] at l1
 have l60 : es.length ≤ 33 := by omega
 have l1e : 1 ≤ es.length := by omega
 clear hp1 S1 hD
 generalize hDE : D = EE at hE
 refine ⟨a, ns, 1, rfl, hsq H2 H2 S2 aD.rfl', by decide, ⟨by decide, by decide⟩, .inl (.inl ⟨_, SqL.of hE, ?_⟩)⟩
 rw [List.length_map]
 refine ⟨by omega, ?_⟩
 show xb K A _ [some (.ref a), some (.ref f), some (.ref EE), some (.int (1 + bN ns 1 / 3 % (es.length : Int))), none, none, none, none, none, none, none, none, none] H2
 generalize bN ns 1 / 3 = w
 obtain ⟨c0, e2⟩ := Int.eq_ofNat_of_zero_le (Int.emod_nonneg w (show (es.length : Int) ≠ 0 by omega))
 have l2 := Int.emod_lt_of_pos w (show 0 < (es.length : Int) by omega)
 rw [e2] at l2 ⊢
 obtain ⟨c, ec⟩ : ∃ c, c = 1 + c0 := ⟨_, rfl⟩
 rw [show (1 : Int) + (c0 : Int) = (c : Int) by omega]
 have hc : c ≤ es.length := by omega
 have c1 : 1 ≤ c := by omega
 have s1 := s0.same (Nat.le_refl _) S2
 have nE : EE ≠ b := s1.nb hE (fun _ z => nomatch z) (fun _ z => nomatch z)
 have hsq := fun H' k => hsq H2 H' S2 k
 have tl : (es.take c).length = c := by rw [List.length_take]; omega
 intro y1 dy1 hy1 hdy1 ny1
 refine wL (K := K) (A := A) (f := f) (Q := fun y H2 => qh K A { nx := fun _ H' => Q .non H', rt := Q } [some (.ref a), some (.ref f), some (.ref EE), some (.int (c : Int)), some (.ref y), none, none, none, none, none, none, none, none] H2) (fun x1 L1 D1 H5 S5 hx1 hL1 hD1 ra1 => ?_) y1 dy1 hy1 hdy1 ny1
 have s5 := s1.same (Nat.le_refl _) S5
 refine ⟨c, rfl, jo (S5 _ _ hE) hc fun p hp => ?_⟩
 have S6 : am H5 (upd H5 p (.lst ((es.take c).map kV))) := am.upd hp
 have hp6 : upd H5 p (.lst ((es.take c).map kV)) p = some (.lst ((es.take c).map kV)) := af
 have Lp : p ≠ L1 := Ne.symm (aj ra1.hl hp)
 generalize upd H5 p (.lst ((es.take c).map kV)) = H6 at S6 hp6
 have r6 : cC A H6 f b g 0 x1 L1 D1 [] := (ra1.same S6).toX (s5.same (Nat.le_refl _) S6) (s1.fresh hD1)
 refine ⟨p, rfl, .inl ⟨⟨_, SqL.of hp6⟩, ?_⟩⟩
 refine iK (xs := (es.take c).map kV) (fun i σ H' => ∃ x5, σ = [some (.ref a), some (.ref f), some (.ref EE), some (.int (c : Int)), some (.ref x1), x5, none, none, none, none, none, none, none] ∧ cC A H' f b g 0 x1 L1 D1 (es.take i) ∧ aD b H2 H' ∧ H' p = some (.lst ((es.take c).map kV)))
   ⟨_, rfl, r6, (aD.same S5).trans (aD.same S6), hp6⟩ (fun i σ H' _ h => ?_) (fun i v σ H' hx h => ?_) (fun σ H7 h => ?_)
 · obtain ⟨_, _, _, _, h⟩ := h
   exact SqL.of h
 · obtain ⟨x5, rfl, r7, kb7, hp7⟩ := h
   obtain ⟨u, hu, rfl⟩ := dY hx
   have hi : i < c := by have := (List.getElem?_eq_some_iff.mp hu).1; omega
   rw [List.getElem?_take, if_pos hi] at hu
   have t1 : es.take (i + 1) = es.take i ++ [u] := by rw [List.take_add_one, hu]; rfl
   obtain ⟨kk, r8⟩ := id r7
   obtain ⟨dx, hx1⟩ := r8.r.ob
   have enu := en u (List.mem_of_getElem? hu)
   have l1 : (es.take i).length < 60 := by rw [List.length_take]; omega
   refine ⟨x1, dx, _, rfl, hx1, rfl, x1, f, L1, D1, _, kk, u, rfl, r8.r, enu, l1, ?_⟩
   have r9 := r7.add enu l1
   refine ⟨_, rfl, by rw [t1]; exact r9, kb7.kl (fun z o n h => by rw [ae n]; exact h) hL1, by rw [ae Lp]; exact hp7⟩
 · obtain ⟨x5, rfl, r7, kb7, _⟩ := h
   rw [List.length_map, tl] at r7
   obtain ⟨pp, pz⟩ := Int.eq_ofNat_of_zero_le (Int.emod_nonneg (bN ns 2) (show (c : Int) ≠ 0 by omega))
   have l3 := Int.emod_lt_of_pos (bN ns 2) (show 0 < (c : Int) by omega)
   rw [pz] at l3
   have hpc : pp < c := by omega
   obtain ⟨kk, r8⟩ := r7
   obtain ⟨dx, hx⟩ := r8.r.ob
   refine ⟨x1, dx, _, rfl, hx, rfl, a, ns, 2, rfl, hsq H7 kb7, by decide, by omega, x1, f, L1, D1, b, es.take c, kk, g, 0, c, pp, by rw [pz], r8, by omega, hpc, by omega, fun pe TT e ks kvs9 g9 H9 k9 r9 sub9 w9 he9 mk9 => ?_⟩
   rw [List.take_take, Nat.min_self] at mk9
   have ge : es[pp]? = some e := by rw [List.getElem?_take, if_pos hpc] at he9; exact he9
   have kb9 : aD b H2 H9 := kb7.k2 k9 hD1
   obtain ⟨dx9, hx9⟩ := r9.r.ob
   refine ⟨x1, dx9, _, rfl, hx9, rfl, x1, f, L1, D1, es.take c, kvs9, rfl, r9.r, fun x3 L3 D3 H10 S10 hx3 hL3 hD3 r10 => ?_⟩
   have kb10 := kb9.trans (aD.same S10)
   have hE10 := kb10 _ _ nE hE
   refine ⟨c, rfl, jo hE10 hc fun p1 hp1 => ⟨c, rfl, jG (by rw [ae (aj hE10 hp1)]; exact hE10) hc fun p2 hp2 => ⟨p2, _, rfl, SqL.of af, fun p3 hp3 => .inl ⟨p1, p3, (es.take c).map kV, _, rfl, rfl, ?_, af, ?_, fun O hO => ?_⟩⟩⟩⟩
   · have n3 := (aR hp3).2
     rw [ae (Ne.symm (aR n3).1), ae (Ne.symm (aR hp2).1)]; exact af
   · rw [List.length_map, List.length_reverse, List.length_map, List.length_take, List.length_drop]; exact aG (by omega)
   have S11 : am H10 (upd (upd (upd H10 p1 (.lst ((es.take c).map kV))) p2 (.lst ((es.drop c).map kV))) p3 (.lst ((es.drop c).map kV).reverse)) := ((am.upd hp1).put (aR hp2).2).put (aR (aR hp3).2).2
   generalize upd (upd (upd H10 p1 (.lst ((es.take c).map kV))) p2 (.lst ((es.drop c).map kV))) p3 (.lst ((es.drop c).map kV).reverse) = H11 at S11 hO
   have eo : (es.take c).map kV ++ ((es.drop c).map kV).reverse = (es.take c ++ (es.drop c).reverse).map kV := by rw [List.map_append, List.map_reverse]
   rw [eo]
   generalize ho : es.take c ++ (es.drop c).reverse = os
   have S12 : am H11 (upd H11 O (.lst (os.map kV))) := am.upd hO
   have hO12 : upd H11 O (.lst (os.map kV)) O = some (.lst (os.map kV)) := af
   have r1 : cC A H11 f b g9 200 x1 L1 D1 (es.take c) := ⟨_, (r9.same S10 (by omega)).same S11 (Nat.le_refl _)⟩
   have r3 : cC A H11 f b g9 200 x3 L3 D3 (es.take c) := (r10.toX (r9.s.same (by omega) S10) (r9.s.fresh hD3)).same S11 (Nat.le_refl _)
   obtain ⟨_, r1'⟩ := id r1
   obtain ⟨_, r3'⟩ := id r3
   refine y9 (C := ⟨hE, nE, hsq, en, by omega, hc, hpc, pz, ho.symm, ge, mk9⟩) ⟨aj r9.r.hd hD3, aj r9.r.hl hL3, hD1, kb9.free hD3 (r9.s.fresh hD3), hL1, kb9.free hL3 (r9.s.fresh hL3)⟩ (Ne.symm (aj r1'.r.hl hO)) (Ne.symm (aj r3'.r.hl hO)) q ⟨(kb10.trans (aD.same S11)).trans (aD.same S12), r1.same S12 (Nat.le_refl _), r3.same S12 (Nat.le_refl _), hO12, ((w9.same S10).same S11).same S12⟩ Sub.rfl' (by omega)
end Rs
namespace Rs
open PySem PySem.Spec PyProof.Rows L2
structure TP (P : Program) (w : World) (K : W.Frag) (mg : Str → Option Value) (base : Heap) (A : Adr) : Prop extends Txt K mg A where
 B : BM mg base
 C_43 : W.CodeHd base A.k_43 A.t_43
 C_26 : W.CodeHd base A.k_26 A.t_26
 C_17 : W.CodeHd base A.k_17 A.t_17
 C_21 : W.CodeHd base A.k_21 A.t_21
variable {P : Program} {w : World} {K : W.Frag} {mg : Str → Option Value} {base : Heap} {A : Adr} (T : TP P w K mg base A)
include T
theorem kG : aJ P w K mg base (CX1 P w) 1 A.a_35 A.d_35 ["thing"] (gl K A) :=
 T.f_35.f.okS yt (xz K A) (yN T.1) fun _ _ _ _ _ _ hr =>
 ao (ay (de (aB dI T.z_isinstance boot_isinstance (ad (aa 0) (ad (dJ T.z_int boot_int) (ah)))) (dO (uc (aB dI T.z_isinstance boot_isinstance (ad (aa 0) (ad (dJ T.z_bool boot_bool) (ah))))))))
theorem jc : aJ P w K mg base (CX1 P w) 2 A.a_33 A.d_33 ["thing"] (fF K A) :=
 T.f_33.f.okS Ap (wq K A) (yA T.1) fun _ _ _ _ _ _ hr =>
 al (aU (bz (aL (kG T) hr.le T.f_35 (ad (aa 0) (ah)))) (ao (ay (jx oLe oLt (aq) (aa 0) (aA vY (aq) (aq))))) (aP)) (ao (ay (aB dI T.z_isinstance boot_isinstance (ad (aa 0) (ad (dJ T.z_str boot_str) (ah))))))
theorem tX : aJ P w K mg base (CX1 P w) 3 A.a_34 A.d_34 ["thing"] (iT K A) :=
 T.f_34.f.okS yJ (wM K A) (Ab T.1) fun _ _ _ _ _ _ hr =>
 al (aU (bO (bz (aB dI T.z_isinstance boot_isinstance (ad (aa 0) (ad (dJ T.z_tuple boot_tuple) (ah)))))) (ao (ay (dW))) (aP)) (al (aU (bO (sB oLe oLe (aq) (aB bC T.z_len PySem.boot_len (ad (aa 0) (ah))) (Bv T.c_MOST_PARTS))) (ao (ay (dW))) (aP)) (ao (ay (de (aB dI T.z_isinstance boot_isinstance (ad (bi (aN hr.units1) (aa 0) (aq) (fun _ _ => rfl)) (ad (dJ T.z_str boot_str) (ah)))) (dO (aB (vQ rfl) T.z_all L2.pJ (ad (jg (ys := []) (by exact ⟨rfl, by decide +kernel, by decide +kernel, rfl, by decide +kernel, by decide +kernel⟩) (by exact .nil) (eJ (aa 0)) (fun C s H fp => gP) (fun C s H fp => (aL (jc T) hr.le T.f_33 (ad (aa 0) (ah))))) (ah))))))))
theorem Af : aJ P w K mg base (CX1 P w) 2 A.a_38 A.d_38 ["part"] (ld K A) :=
 T.f_38.f.okS ul (xg K A) (zu T.1) fun _ _ _ _ _ _ hr =>
 al (aU (bz (aL (kG T) hr.le T.f_35 (ad (aa 0) (ah)))) (ao (ay (qM (.cons (nr (aa 0)) (.cons (cF) (.nil)))))) (aP)) (al (aF 1 ul.nd (aB bC T.z_len PySem.boot_len (ad (aa 0) (ah)))) (ao (ay (qM (.cons (nr (aa 1)) (.cons (cF) (.cons (nr (aa 0)) (.nil))))))))
theorem An : aJ P w K mg base (CX1 P w) 4 A.a_45 A.d_45 ["term"] (jb K A) :=
 T.f_45.f.okS Aw (vN K A) (yu T.1) fun _ _ _ _ _ _ hr =>
 al (aU (bO (bz (aL (tX T) hr.le T.f_34 (ad (aa 0) (ah))))) (ao (dE)) (aP)) (ao (ay (dZ PySem.F.plainAttrs_str PySem.F.slot_str_join PySem.F.type_str_join mQ (cF) (ad (jg (ys := []) (by exact ⟨rfl, by decide +kernel, by decide +kernel, rfl, by decide +kernel, by decide +kernel⟩) (by exact .nil) (eJ (aa 0)) (fun C s H fp => gP) (fun C s H fp => (aL (Af T) hr.le T.f_38 (ad (aa 0) (ah))))) (ah)))))
theorem yW (f c : Addr) (cl : List (Str × Addr)) (Ar : Around) (outer : List Env) (s : Shared) (H : Hp) (E : XK)
  (hr : aO 4 (Ar.deeper (W.envX eC.qual eC.scope s.heap.objs.size f (.ref c) cl))) : PE (fH P w K mg base ["term"] eC.qual eC.scope f c cl Ar outer s H E).nox (hJ sK) (vM K A) := QE.out (
 aL (An T) hr.le T.f_45 (ad (aa 0) (ah)))
theorem zn : eE P w K mg base 5 eC (oN K A) :=
 mW rfl yX (fun f c cl Ar outer s H vs cvs Q E hr hl hc h => by
  obtain ⟨a0, rfl⟩ := L2.dA hl
  obtain rfl := L2.nD hc
  exact ⟨_, (yW T f c cl Ar outer s H E hr).nox, zX T.1 a0 H Q E h⟩)
theorem Bu : aJ P w K mg base (CX1 P w) 4 A.a_1 A.d_1 ["self", "term"] (oS K A) :=
 T.f_1.okS Bd (yP K A) (AZ T.1) fun _ _ _ _ _ _ hr =>
 al (aU (bO (bz (aL (tX T) hr.le T.f_34 (ad (aa 1) (ah))))) (ao (dE)) (aP)) (al (aU (bf (mE hr.units150) (aa 1) (dc (aa 0))) (ao (lG hr.units1 (dc (aa 0)) (aa 1) (aB bC T.z_len PySem.boot_len (ad (dc (aa 0)) (ah))))) (aP)) (ao (ay (bi (aN hr.units1) (dc (aa 0)) (aa 1) (fun _ _ => rfl)))))
theorem yU (f c : Addr) (cl : List (Str × Addr)) (Ar : Around) (outer : List Env) (s : Shared) (H : Hp) (E : XK)
  (hr : aO 4 (Ar.deeper (W.envX eS.qual eS.scope s.heap.objs.size f (.ref c) cl))) : PE (fH P w K mg base ["term", "numbers"] eS.qual eS.scope f c cl Ar outer s H E).nox (hJ so) (wJ K A) := QE.out (
 cp (aa 1) T.cl_Numbers T.me_Numbers_number_of (Bu T) hr.le T.b_1 bh (ad (aa 0) (ah)))
theorem yZ : eE P w K mg base 5 eS (oO K A) :=
 mW rfl AR (fun f c cl Ar outer s H vs cvs Q E hr hl hc h => by
  obtain ⟨a0, rfl⟩ := L2.dA hl
  obtain ⟨b0, rfl⟩ := L2.dA hc
  exact ⟨_, (yU T f c cl Ar outer s H E hr).nox, zp T.1 a0 b0 H Q E h⟩)
theorem Ay (f c : Addr) (cl : List (Str × Addr)) (Ar : Around) (outer : List Env) (s : Shared) (H : Hp) (E : XK)
  (hr : aO 0 (Ar.deeper (W.envX eU.qual eU.scope s.heap.objs.size f (.ref c) cl))) : PSs (fH P w K mg base ["_law_term", "_law_step", "_law_known"] eU.qual eU.scope f c cl Ar outer s H E).nox (aK rO) (xm K A) := QSs.out (
 ao (ay (dZ PySem.F.plainAttrs_dict PySem.F.slot_dict_setdefault PySem.F.type_dict_setdefault (qH hr.units1) (aa 2) (ad (aa 0) (ad (aA bM (aA gj (aa 1) (aB bC T.z_len PySem.boot_len (ad (aa 2) (ah)))) (aq)) (ah))))))
theorem zi : eE P w K mg base 1 eU (ow K A) :=
 qz rfl yB (fun f c cl Ar outer s H vs cvs Q E hr hl hc h => by
  obtain ⟨a0, rfl⟩ := L2.dA hl
  obtain ⟨b0, b1, rfl⟩ := L2.oX hc
  exact ⟨_, (Ay T f c cl Ar outer s H E hr).nox, Ae T.1 a0 b0 b1 H Q E h⟩)
theorem yD (f c : Addr) (cl : List (Str × Addr)) (Ar : Around) (outer : List Env) (s : Shared) (H : Hp) (E : XK)
  (hr : aO 0 (Ar.deeper (W.envX eV.qual eV.scope s.heap.objs.size f (.ref c) cl))) : PSs (fH P w K mg base ["_law_term", "_law_total", "_law_part", "_law_many"] eV.qual eV.scope f c cl Ar outer s H E).nox (aK rM) (xA K A) := QSs.out (
 al (aF 1 iP.nd (aB bC T.z_len PySem.boot_len (ad (aa 0) (ah)))) (al (gZ 2 iP.nd (eJ (aa 0)) (ao (aU (bz (aB dI T.z_isinstance boot_isinstance (ad (aa 2) (ad (dJ T.z_str boot_str) (ah))))) (ao (aF 1 iP.nd (aA bM (aA gj (aq) (aa 1)) (aB bC T.z_len PySem.boot_len (ad (aa 2) (ah)))))) (ao (aF 1 iP.nd (aA bM (aA gj (aq) (aa 1)) (aa 2)))))) PassesOwn.never) (ao (ay (aA cV (aa 1) (aa 3))))))
theorem Aa : eE P w K mg base 1 eV (oM K A) :=
 qz rfl iP (fun f c cl Ar outer s H vs cvs Q E hr hl hc h => by
  obtain ⟨a0, rfl⟩ := L2.dA hl
  obtain ⟨b0, rfl⟩ := L2.dA hc
  exact ⟨_, (yD T f c cl Ar outer s H E hr).nox, zh T.1 a0 b0 H Q E h⟩)
theorem yL (B : BM mg base) (C : W.CodeHd base A.k_43 A.t_43) (Ar : Around) (outer : List Env) (s : Shared) (H : Hp) (E : XK)
  (hr : aO 0 (Ar.deeper (envOfC "writing" (ak iG) s.heap.objs.size A.a_43 (.ref A.k_43)))) : QMs (dL (CX1 P w) P w K mg base [] "writing" (ak iG) A.a_43 (.ref A.k_43) Ar outer s H E).nox (aK iG) (wt K A) := (
 lb (kL (uj B C rfl (by rfl) (by simp) rfl rfl rfl rfl (fun _ _ _ _ us hl => by obtain ⟨_, rfl⟩ := L2.dA hl; rfl))))
theorem Al : aJ P w K mg base (CX1 P w) 1 A.a_43 A.d_43 [] (kS K A) :=
 T.f_43.f.okM (caps := fun L => []) T.kc_43 At (wA K A) (fun L p hp => nomatch hp) (fun L => by simp) (fun Ar outer s H vs Q E hr h => ⟨_, QMs.nox (yL T T.B T.C_43 Ar outer s H E hr), AE T.1 (by simp) vs H Q E h⟩)
theorem BF : aJ P w K mg base (CX1 P w) 1 A.a_0 A.d_0 ["self"] (om K A) :=
 T.f_0.okS BO (yS K A) (Br T.1) fun _ _ _ _ _ _ hr =>
 ao (fj (aa 0) (jv))
theorem zc (B : BM mg base) (C : W.CodeHd base A.k_26 A.t_26) (Ar : Around) (outer : List Env) (s : Shared) (H : Hp) (E : XK)
  (hr : aO 2 (Ar.deeper (envOfC "counting" (ak iD) s.heap.objs.size A.a_26 (.ref A.k_26)))) : QMs (dL (CX1 P w) P w K mg base ["numbers"] "counting" (ak iD) A.a_26 (.ref A.k_26) Ar outer s H E).nox (aK iD) (wa K A (s.heap.objs.size + 1)) := (
 jk (iX (aF 0 tZ.nd (sj T.mk_Numbers (BF T) hr.le T.mc_Numbers T.b_0 bh))) (lb (kL (uj B C rfl (by rfl) (by simp) rfl rfl rfl rfl (fun _ _ _ _ us hl => by obtain ⟨_, rfl⟩ := L2.dA hl; rfl)))))
theorem yr : aJ P w K mg base (CX1 P w) 3 A.a_26 A.d_26 [] (kT K A) :=
 T.f_26.f.okM (caps := fun L => [(0, L + 1)]) T.kc_26 tZ (xS K A) (fun L p hp => by simp only [List.mem_cons, List.not_mem_nil, or_false] at hp; rcases hp with rfl <;> exact ⟨_, rfl, rfl, rfl⟩) (fun L => by simp) (fun Ar outer s H vs Q E hr h => ⟨_, QMs.nox (zc T T.B T.C_26 Ar outer s H E hr), Ah T.1 (s.heap.objs.size + 1) (by simp) vs H Q E h⟩)
theorem zT (B : BM mg base) (C : W.CodeHd base A.k_17 A.t_17) (Ar : Around) (outer : List Env) (s : Shared) (H : Hp) (E : XK)
  (hr : aO 0 (Ar.deeper (envOfC "_law_sure" (ak iI) s.heap.objs.size A.a_17 (.ref A.k_17)))) : QMs (dL (CX1 P w) P w K mg base ["_law_step", "_law_known", "_law_stamp"] "_law_sure" (ak iI) A.a_17 (.ref A.k_17) Ar outer s H E).nox (aK iI) (xI K A (s.heap.objs.size + 1) (s.heap.objs.size + 1 + 1)) := (
 jk (iX (aF 1 oq.nd (jv))) (jk (iX (uk 2 oq.nd B C rfl (by rfl) (by simp) rfl rfl rfl rfl (fun _ _ _ _ _ us hl => by obtain ⟨_, rfl⟩ := L2.dA hl; rfl))) (lb (kL (aa 2)))))
theorem zI : aJ P w K mg base (CX1 P w) 1 A.a_17 A.d_17 ["_law_step"] (kZ K A) :=
 T.f_17.f.okM (caps := fun L => [(0, L + 1), (1, L + 1 + 1)]) T.kc_17 oq (xO K A) (fun L p hp => by simp only [List.mem_cons, List.not_mem_nil, or_false] at hp; rcases hp with rfl | rfl <;> exact ⟨_, rfl, rfl, rfl⟩) (fun L => by simp) (fun Ar outer s H vs Q E hr h => ⟨_, QMs.nox (zT T T.B T.C_17 Ar outer s H E hr), Ao T.1 (s.heap.objs.size + 1) (s.heap.objs.size + 1 + 1) (by simp) vs H Q E h⟩)
theorem zq (B : BM mg base) (C : W.CodeHd base A.k_21 A.t_21) (Ar : Around) (outer : List Env) (s : Shared) (H : Hp) (E : XK)
  (hr : aO 0 (Ar.deeper (envOfC "_law_weak" (ak iB) s.heap.objs.size A.a_21 (.ref A.k_21)))) : QMs (dL (CX1 P w) P w K mg base ["_law_many", "_law_stamp"] "_law_weak" (ak iB) A.a_21 (.ref A.k_21) Ar outer s H E).nox (aK iB) (wl K A (s.heap.objs.size + 1)) := (
 jk (iX (uk 1 uu.nd B C rfl (by rfl) (by simp) rfl rfl rfl rfl (fun _ _ _ _ _ us hl => by obtain ⟨_, rfl⟩ := L2.dA hl; rfl))) (lb (kL (aa 1))))
theorem yQ : aJ P w K mg base (CX1 P w) 1 A.a_21 A.d_21 ["_law_many"] (kJ K A) :=
 T.f_21.f.okM (caps := fun L => [(0, L + 1)]) T.kc_21 uu (xp K A) (fun L p hp => by simp only [List.mem_cons, List.not_mem_nil, or_false] at hp; rcases hp with rfl <;> exact ⟨_, rfl, rfl, rfl⟩) (fun L => by simp) (fun Ar outer s H vs Q E hr h => ⟨_, QMs.nox (zq T T.B T.C_21 Ar outer s H E hr), AO T.1 (s.heap.objs.size + 1) (by simp) vs H Q E h⟩)
theorem zw : aJ P w K mg base (CX1 P w) 4 A.a_16 A.d_16 ["_law_cell"] (kP K A) :=
 T.f_16.f.okS zY (xq K A) (Aj T.1) fun _ _ _ _ _ _ hr =>
 al (aU (bf (ef hr.units150) (aA cV (aa 0) (aq)) (aq)) (ao (ay (lJ (Al T) hr.le T.f_43.m T.f_43.f.kp T.f_43.b bh))) (aP)) (al (aU (bf (ef hr.units150) (aA cV (aa 0) (aq)) (aq)) (ao (ay (lJ (yr T) hr.le T.f_26.m T.f_26.f.kp T.f_26.b bh))) (aP)) (al (aU (bf (ef hr.units150) (aA cV (aa 0) (aq)) (aq)) (ao (ay (aL (zI T) hr.le T.f_17 (ad (aA bM (aq) (aA cV (aA eF (aa 0) (aq)) (aq))) (ah))))) (aP)) (ao (ay (aL (yQ T) hr.le T.f_21 (ad (aA bM (aq) (aA cV (aA eF (aa 0) (aq)) (aq))) (ah)))))))
theorem fy : aJ P w K mg base (CX1 P w) 1 A.a_10 A.d_10 ["_law_script", "_law_k"] (cI K A) :=
 T.f_10.f.okS As (xn K A) (AA T.1) fun _ _ _ _ _ _ hr =>
 al (aU (bf oLt (aa 1) (aB bC T.z_len PySem.boot_len (ad (aa 0) (ah)))) (ao (ay (bi (aN hr.units1) (aa 0) (aa 1) (fun _ _ => rfl)))) (aP)) (ao (ay (aq)))
theorem Aq : aJ P w K mg base (CX1 P w) 1 A.a_19 A.d_19 ["_law_cell"] (kM K A) :=
 T.f_19.f.okS ny (ww K A) (zC T.1) fun _ _ _ _ _ _ hr =>
 al (aF 1 ny.nd (cF)) (al (aF 1 ny.nd (aA bM (aa 1) (cF))) (ao (ay (dZ PySem.F.plainAttrs_str PySem.F.slot_str_join PySem.F.type_str_join mQ (cF) (ad (jg (ys := ["_law_cell", "_law_some"]) (by exact ⟨rfl, by decide +kernel, by decide +kernel, rfl, by decide +kernel, by decide +kernel⟩) (by exact .cons rfl (by first | exact .inl rfl | exact .inr rfl) rfl (.cons rfl (by first | exact .inl rfl | exact .inr rfl) rfl (.nil))) (rY T.z_range (ad (aA cV (aa 0) (aq)) (ah))) (fun C s H fp => gP) (fun C s H fp => (bi (aN hr.units1) (aa 2) (aA cV (aA bM (aA eF (aa 1) (aq)) (aA gj (aa 0) (aA cV (aA eF (aa 1) (aq)) (aq)))) (aq)) (fun _ _ => rfl)))) (ah))))))
theorem zW : aJ P w K mg base (CX1 P w) 2 A.a_15 A.d_15 ["_law_cell"] (kR K A) :=
 T.f_15.f.okS zN (xk K A) (zf T.1) fun _ _ _ _ _ _ hr =>
 al (aU (bf (ef hr.units150) (aA cV (aa 0) (aq)) (aq)) (ao (ay (aL (Aq T) hr.le T.f_19 (ad (aA eF (aa 0) (aq)) (ah))))) (aP)) (al (aU (bf (ef hr.units150) (aA cV (aa 0) (aq)) (aq)) (ao (ay (aA cV (aA eF (aa 0) (aq)) (aA vY (aq) (aq))))) (aP)) (ao (ay (aA cV (aA eF (aa 0) (aq)) (aq)))))
theorem vE : aJ P w K mg base (CX1 P w) 1 A.a_2 A.d_2 ["self", "stamper"] (iJ K A) :=
 T.f_2.okS BD (AC K A) (BZ T.1) fun _ _ _ _ _ _ hr =>
 al (fj (aa 0) (aa 1)) (al (fj (aa 0) (gw (ah))) (ao (fj (aa 0) (jv))))
theorem sN : aJ P w K mg base (CX1 P w) 3 A.a_3 A.d_3 ["self", "entry"] (gh K A) :=
 T.f_3.okS Cg (Ai K A) (Bh T.1) fun _ _ _ _ _ _ hr =>
 al (aU (bO (bz (aL (jc T) hr.le T.f_33 (ad (aa 1) (ah))))) (ao (dE)) (aP)) (al (cG (dZ PySem.F.plainAttrs_list PySem.F.slot_list_append PySem.F.type_list_append bT (dc (aa 0)) (ad (aa 1) (ah)))) (ao (ay (aA ff (aB bC T.z_len PySem.boot_len (ad (dc (aa 0)) (ah))) (aq)))))
theorem ug : aJ P w K mg base (CX1 P w) 2 A.a_29 A.d_29 ["thing"] (ji K A) :=
 T.f_29.f.okS zG (vW K A) (yM T.1) fun _ _ _ _ _ _ hr =>
 ao (ay (de (aL (kG T) hr.le T.f_35 (ad (aa 0) (ah))) (dO (jx oLe oLt (aq) (aa 0) (aA yj (aq) (aq))))))
theorem uw : aJ P w K mg base (CX1 P w) 3 A.a_31 A.d_31 ["count", "place"] (jp K A) :=
 T.f_31.f.okS zd (wb K A) (yK T.1) fun _ _ _ _ _ _ hr =>
 ao (ay (de (aL (ug T) hr.le T.f_29 (ad (aa 0) (ah))) (de (aL (kG T) hr.le T.f_35 (ad (aa 1) (ah))) (dO (jx oLe oLt (aq) (aa 1) (aa 0))))))
theorem AY : aJ P w K mg base (CX1 P w) 1 A.a_6 A.d_6 ["self"] (nw K A) :=
 T.f_6.okS Cc (zt K A) (AT T.1) fun _ _ _ _ _ _ hr =>
 ao (ay (aB bC T.z_len PySem.boot_len (ad (dc (aa 0)) (ah))))
theorem Bl : aJ P w K mg base (CX1 P w) 4 A.a_4 A.d_4 ["self", "count", "place"] (nV K A) :=
 T.f_4.okS Bi (zE K A) (BJ T.1) fun _ _ _ _ _ _ hr =>
 ao (ay (de (aL (uw T) hr.le T.f_31 (ad (aa 1) (ad (aa 2) (ah)))) (dO (kX oLe (aa 1) (mf (aa 0) T.cl_Row T.me_Row_size (AY T) hr.le T.b_6 bh)))))
theorem oZ : aJ P w K mg base (CX1 P w) 1 A.a_28 A.d_28 ["many"] (gT K A) :=
 T.f_28.f.okS Au (vF K A) (yz T.1) fun _ _ _ _ _ _ hr =>
 ao (ay (aA yj (aq) (aA ff (iM PySem.F.plainAttrs_int PySem.F.slot_int_bit_length PySem.F.type_int_bit_length mG (aA ff (aa 0) (aq))) (aq))))
theorem ub : aJ P w K mg base (CX1 P w) 2 A.a_42 A.d_42 ["place", "many"] (iW K A) :=
 T.f_42.f.okS fz (vZ K A) (zO T.1) fun _ _ _ _ _ _ hr =>
 al (aF 2 fz.nd (gw (ah))) (al (aF 3 fz.nd (aq)) (al (aF 4 fz.nd (aa 1)) (al (fM (bf oGt (aa 4) (aq)) (al (aF 5 fz.nd (aL (oZ T) hr.le T.f_28 (ad (aa 4) (ah)))) (ao (aU (bf oLt (aa 0) (aA bM (aa 3) (aa 5))) (al (cG (dZ PySem.F.plainAttrs_list PySem.F.slot_list_append PySem.F.type_list_append bT (aa 2) (ad (aq) (ah)))) (ao (aF 4 fz.nd (aa 5)))) (al (cG (dZ PySem.F.plainAttrs_list PySem.F.slot_list_append PySem.F.type_list_append bT (aa 2) (ad (aq) (ah)))) (al (aF 3 fz.nd (aA bM (aa 3) (aa 5))) (ao (aF 4 fz.nd (aA ff (aa 4) (aa 5))))))))) PassesOwn.never) (ao (ay (aa 2))))))
theorem BH (n : Nat) (G : aJ P w K mg base (CX1 P w) (5 + 2 * n) A.a_7 A.d_7 ["self", "first", "many"] (fJ K A n)) : aJ P w K mg base (CX1 P w) (5 + 2 * n + 1) A.a_8 A.d_8 ["self", "first", "many"] (nv K A n) :=
 T.f_8.okS vR (zo K A n) (Bb T.1 n) fun _ _ _ _ _ _ (hr : aO (5 + 2 * n) _) =>
 al (aU (bf (ef hr.units150) (aa 2) (aq)) (ao (ay (cJ (ad (cF) (ah))))) (aP)) (al (aU (bf (ef hr.units150) (aa 2) (aq)) (ao (ay (cJ (ad (cF) (ad (bi (aN hr.units1) (dc (aa 0)) (aa 1) (fun _ _ => rfl)) (ah)))))) (aP)) (al (aF 3 vR.nd (aL (oZ T) hr.le T.f_28 (ad (aa 2) (ah)))) (ao (ay (cJ (ad (cF) (ad (cp (aa 0) T.cl_Row T.me_Row_top_of G hr.le T.b_7 bh (ad (aa 1) (ad (aa 3) (ah)))) (ad (cp (aa 0) T.cl_Row T.me_Row_top_of G hr.le T.b_7 bh (ad (aA bM (aa 1) (aa 3)) (ad (aA ff (aa 2) (aa 3)) (ah)))) (ah)))))))))
theorem eI : jJ P w K mg base 5 (er K A) := fun ts hts => by
 simp only [er, List.mem_cons, List.not_mem_nil, or_false] at hts
 rcases hts with rfl | rfl | rfl | rfl
 · exact (zn T).mono (by decide)
 · exact (yZ T).mono (by decide)
 · exact (zi T).mono (by decide)
 · exact (Aa T).mono (by decide)
theorem rQ : ∀ n : Nat, aJ P w K mg base (CX1 P w) (5 + 2 * n) A.a_7 A.d_7 ["self", "first", "many"] (fJ K A n)
 | 0 => ⟨fun vs H Q E h => (xj K A vs H Q E h).elim, fun _ _ _ H _ _ vs Q E _ _ _ _ h => (xj K A vs H Q E h).elim⟩
 | n + 1 => show aJ P w K mg base (CX1 P w) (5 + 2 * n + 1 + 1) A.a_7 A.d_7 ["self", "first", "many"] (fJ K A (n + 1)) from T.f_7.okS vU (yI K A (n + 1)) (Cj T.1 n) fun _ _ _ _ _ _ (hr : aO (5 + 2 * n + 1) _) =>
 al (aF 3 vU.nd (cJ (ad (aa 1) (ad (aa 2) (ah))))) (al (aU (bf (mE hr.units150) (aa 3) (dc (aa 0))) (ao (lG hr.units1 (dc (aa 0)) (aa 3) (uD (eI T) hr.le bh (aa 0) T.cl_Row T.na_Row_stamper (ad (cp (aa 0) T.cl_Row T.me_Row_top_term (BH T n (rQ n)) hr.le T.b_8 bh (ad (aa 1) (ad (aa 2) (ah)))) (ah))))) (aP)) (ao (ay (bi (aN hr.units1) (dc (aa 0)) (aa 3) (fun _ _ => rfl)))))
theorem rE : aJ P w K mg base (CX1 P w) 146 A.a_5 A.d_5 ["self", "count", "place"] (gQ K A) :=
 T.f_5.okS gd (AQ K A) (By T.1) fun _ _ _ _ _ _ hr =>
 al (aU (bO (bz (cp (aa 0) T.cl_Row T.me_Row_has_place (Bl T) hr.le T.b_4 bh (ad (aa 1) (ad (aa 2) (ah)))))) (ao (dE)) (aP)) (al (aF 3 gd.nd (gw (ah))) (al (aF 4 gd.nd (aq)) (al (aF 5 gd.nd (aa 1)) (al (gZ 6 gd.nd (eJ (aL (ub T) hr.le T.f_42 (ad (aa 2) (ad (aa 1) (ah))))) (al (aF 7 gd.nd (aL (oZ T) hr.le T.f_28 (ad (aa 5) (ah)))) (ao (aU (bf (ef hr.units150) (aa 6) (aq)) (al (cG (dZ PySem.F.plainAttrs_list PySem.F.slot_list_append PySem.F.type_list_append bT (aa 3) (ad (cp (aa 0) T.cl_Row T.me_Row_top_of (rQ T 70) hr.le T.b_7 bh (ad (aA bM (aa 4) (aa 7)) (ad (aA ff (aa 5) (aa 7)) (ah)))) (ah)))) (ao (aF 5 gd.nd (aa 7)))) (al (cG (dZ PySem.F.plainAttrs_list PySem.F.slot_list_append PySem.F.type_list_append bT (aa 3) (ad (cp (aa 0) T.cl_Row T.me_Row_top_of (rQ T 70) hr.le T.b_7 bh (ad (aa 4) (ad (aa 7) (ah)))) (ah)))) (al (aF 4 gd.nd (aA bM (aa 4) (aa 7))) (ao (aF 5 gd.nd (aA ff (aa 5) (aa 7))))))))) PassesOwn.never) (ao (ay (cJ (ad (bi (aN hr.units1) (dc (aa 0)) (aa 2) (fun _ _ => rfl)) (ad (iE pX T.z_tuple boot_tuple (ad (aa 3) (ah))) (ah))))))))))
theorem Ch : aJ P w K mg base (CX1 P w) 3 A.a_9 A.d_9 ["self"] (lF K A) :=
 T.f_9.okS wn (Ak K A) (Cd T.1) fun _ _ _ _ _ _ hr =>
 al (aF 1 wn.nd (mz T.mk_Row (vE T) hr.le T.mc_Row T.b_2 bh (ad (dc (aa 0)) (ah)))) (al (fj (aa 1) (iE AH T.z_list boot_list (ad (dc (aa 0)) (ah)))) (ao (ay (aa 1))))
theorem yG : aJ P w K mg base (CX1 P w) 1 A.a_23 A.d_23 ["_law_found"] (lg K A) :=
 T.f_23.f.okS zP (wD K A) (AD T.1) fun _ _ _ _ _ _ hr =>
 ao (ay (de (aB dI T.z_isinstance boot_isinstance (ad (aa 0) (ad (dJ T.z_int boot_int) (ah)))) (dO (uc (aB dI T.z_isinstance boot_isinstance (ad (aa 0) (ad (dJ T.z_bool boot_bool) (ah))))))))
theorem pb : aJ P w K mg base (CX1 P w) 2 A.a_14 A.d_14 ["_law_found", "_law_due_here"] (gX K A) :=
 T.f_14.f.okS zF (wP K A) (zZ T.1) fun _ _ _ _ _ _ hr =>
 ao (ay (de (BS (aB dI T.z_isinstance boot_isinstance (ad (aa 0) (ad (dJ T.z_str boot_str) (ah)))) (dO (aL (yG T) hr.le T.f_23 (ad (aa 0) (ah))))) (dO (kX (ef hr.units150) (aa 0) (aa 1)))))
theorem AL : aJ P w K mg base (CX1 P w) 3 A.a_13 A.d_13 ["_law_found", "_law_due_here"] (la K A) :=
 T.f_13.f.okS ux (xh K A) (zJ T.1) fun _ _ _ _ _ _ hr =>
 al (aU (x_w (lq (bO (bz (aB dI T.z_isinstance boot_isinstance (ad (aa 0) (ad (dJ T.z_tuple boot_tuple) (ah)))))) (lq (bf (lE hr.units150) (aB bC T.z_len PySem.boot_len (ad (aa 0) (ah))) (aq)) (lS (bO (bz (aB dI T.z_isinstance boot_isinstance (ad (bi (aN hr.units1) (aa 0) (aq) (fun _ _ => rfl)) (ad (dJ T.z_tuple boot_tuple) (ah)))))))))) (ao (ay (dW))) (aP)) (al (aU (x_w (lq (bf (lE hr.units150) (aB bC T.z_len PySem.boot_len (ad (bi (aN hr.units1) (aa 0) (aq) (fun _ _ => rfl)) (ah))) (aB bC T.z_len PySem.boot_len (ad (bi (aN hr.units1) (aa 1) (aq) (fun _ _ => rfl)) (ah)))) (lS (bO (bz (aL (pb T) hr.le T.f_14 (ad (bi (aN hr.units1) (aa 0) (aq) (fun _ _ => rfl)) (ad (bi (aN hr.units1) (aa 1) (aq) (fun _ _ => rfl)) (ah))))))))) (ao (ay (dW))) (aP)) (al (pL 2 3 ux.nd (qB T.z_zip (ad (bi (aN hr.units1) (aa 0) (aq) (fun _ _ => rfl)) (ad (bi (aN hr.units1) (aa 1) (aq) (fun _ _ => rfl)) (ah)))) (ao (aU (bO (bz (aL (pb T) hr.le T.f_14 (ad (aa 2) (ad (aa 3) (ah)))))) (ao (ay (dW))) (aP))) PassesOwn.never) (ao (ay (dW)))))
theorem oE : aJ P w K mg base (CX1 P w) 6 A.a_20 A.d_20 ["_law_stamper_here", "_law_entries"] (ig K A) :=
 T.f_20.f.okS eQ (vH K A) (zm T.1) fun _ _ _ _ _ _ hr =>
 al (aF 2 eQ.nd (gw (ah))) (al (gZ 3 eQ.nd (eJ (aa 1)) (al (aF 4 eQ.nd (aq)) (al (aF 5 eQ.nd (fw (eI T) hr.le bh (aa 0) (ad (cJ (ad (cF) (ad (aa 3) (ah)))) (ah)))) (al (fM (x_w (wv (bf oGt (aB bC T.z_len PySem.boot_len (ad (aa 2) (ah))) (aq)) (uX (bf (ef hr.units150) (bi (aN hr.units1) (bi (aN hr.units1) (aa 2) (kQ (aq)) (fun _ _ => rfl)) (aq) (fun _ _ => rfl)) (aa 4))))) (al (aF 5 eQ.nd (fw (eI T) hr.le bh (aa 0) (ad (cJ (ad (cF) (ad (bi (aN hr.units1) (iM PySem.F.plainAttrs_list PySem.F.slot_list_pop PySem.F.type_list_pop me (aa 2)) (aq) (fun _ _ => rfl)) (ad (aa 5) (ah))))) (ah)))) (ao (aF 4 eQ.nd (aA gj (aq) (aa 4))))) PassesOwn.never) (ao (cG (dZ PySem.F.plainAttrs_list PySem.F.slot_list_append PySem.F.type_list_append bT (aa 2) (ad (cJ (ad (aa 4) (ad (aa 5) (ah)))) (ah)))))))) PassesOwn.never) (al (aF 5 eQ.nd (bi (aN hr.units1) (iM PySem.F.plainAttrs_list PySem.F.slot_list_pop PySem.F.type_list_pop me (aa 2)) (aq) (fun _ _ => rfl))) (al (fM (bf oGt (aB bC T.z_len PySem.boot_len (ad (aa 2) (ah))) (aq)) (ao (aF 5 eQ.nd (fw (eI T) hr.le bh (aa 0) (ad (cJ (ad (cF) (ad (bi (aN hr.units1) (iM PySem.F.plainAttrs_list PySem.F.slot_list_pop PySem.F.type_list_pop me (aa 2)) (aq) (fun _ _ => rfl)) (ad (aa 5) (ah))))) (ah))))) PassesOwn.never) (ao (ay (aa 5))))))
theorem yq : aJ P w K mg base (CX1 P w) 7 A.a_11 A.d_11 ["_law_stamper_here", "_law_entries", "_law_place"] (lm K A) :=
 T.f_11.f.okS fG (vL K A) (yw T.1) fun _ _ _ _ _ _ hr =>
 al (aF 3 fG.nd (gw (ah))) (al (aF 4 fG.nd (aq)) (al (aF 5 fG.nd (aB bC T.z_len PySem.boot_len (ad (aa 1) (ah)))) (al (fM (bf oGt (aA ff (aa 5) (aa 4)) (aq)) (al (aF 6 fG.nd (aq)) (al (fM (bf oLt (aA gj (aq) (aa 6)) (aA ff (aa 5) (aa 4))) (ao (aF 6 fG.nd (aA gj (aq) (aa 6)))) PassesOwn.never) (ao (aU (bf oLt (aa 2) (aA bM (aa 4) (aa 6))) (al (cG (dZ PySem.F.plainAttrs_list PySem.F.slot_list_append PySem.F.type_list_append bT (aa 3) (ad (aL (oE T) hr.le T.f_20 (ad (aa 0) (ad (cM dm (aa 1) (bV (aA bM (aa 4) (aa 6))) (bV (aa 5))) (ah)))) (ah)))) (ao (aF 5 fG.nd (aA bM (aa 4) (aa 6))))) (al (cG (dZ PySem.F.plainAttrs_list PySem.F.slot_list_append PySem.F.type_list_append bT (aa 3) (ad (aL (oE T) hr.le T.f_20 (ad (aa 0) (ad (cM dm (aa 1) (bV (aa 4)) (bV (aA bM (aa 4) (aa 6)))) (ah)))) (ah)))) (ao (aF 4 fG.nd (aA bM (aa 4) (aa 6))))))))) PassesOwn.never) (ao (ay (cJ (ad (bi (aN hr.units1) (aa 1) (aa 2) (fun _ _ => rfl)) (ad (iE pX T.z_tuple boot_tuple (ad (aa 3) (ah))) (ah)))))))))
theorem zS : aJ P w K mg base (CX1 P w) 3 A.a_30 A.d_30 ["thing"] (kU K A) :=
 T.f_30.f.okS ze (vS K A) (yx T.1) fun _ _ _ _ _ _ hr =>
 ao (ay (de (aB dI T.z_isinstance boot_isinstance (ad (aa 0) (ad (dJ T.z_tuple boot_tuple) (ah)))) (de (kX (ef hr.units150) (aB bC T.z_len PySem.boot_len (ad (aa 0) (ah))) (aq)) (de (aL (ug T) hr.le T.f_29 (ad (bi (aN hr.units1) (aa 0) (aq) (fun _ _ => rfl)) (ah))) (dO (aL (jc T) hr.le T.f_33 (ad (bi (aN hr.units1) (aa 0) (aq) (fun _ _ => rfl)) (ah))))))))
theorem yV : aJ P w K mg base (CX1 P w) 4 A.a_25 A.d_25 ["thing"] (kC K A) :=
 T.f_25.f.okS zB (vG K A) (Am T.1) fun _ _ _ _ _ _ hr =>
 ao (aU (bO (bz (aL (zS T) hr.le T.f_30 (ad (aa 0) (ah))))) (ao (dE)) (aP))
theorem AB : aJ P w K mg base (CX1 P w) 3 A.a_24 A.d_24 ["many", "thing"] (kF K A) :=
 T.f_24.f.okS zj (xV K A) (AM T.1) fun _ _ _ _ _ _ hr =>
 ao (ay (de (aB dI T.z_isinstance boot_isinstance (ad (aa 1) (ad (dJ T.z_tuple boot_tuple) (ah)))) (de (kX (ef hr.units150) (aB bC T.z_len PySem.boot_len (ad (aa 1) (ah))) (aa 0)) (dO (aB (vQ rfl) T.z_all L2.pJ (ad (jg (ys := []) (by exact ⟨rfl, by decide +kernel, by decide +kernel, rfl, by decide +kernel, by decide +kernel⟩) (by exact .nil) (eJ (aa 1)) (fun C s H fp => gP) (fun C s H fp => (aL (jc T) hr.le T.f_33 (ad (aa 0) (ah))))) (ah)))))))
theorem Ax : aJ P w K mg base (CX1 P w) 4 A.a_32 A.d_32 ["turns", "thing"] (kW K A) :=
 T.f_32.f.okS zK (ym K A) (AF T.1) fun _ _ _ _ _ _ hr =>
 al (aU (x_w (lq (bO (bz (aB dI T.z_isinstance boot_isinstance (ad (aa 1) (ad (dJ T.z_tuple boot_tuple) (ah)))))) (lS (bf (lE hr.units150) (aB bC T.z_len PySem.boot_len (ad (aa 1) (ah))) (aq))))) (ao (ay (dW))) (aP)) (ao (ay (de (aL (jc T) hr.le T.f_33 (ad (bi (aN hr.units1) (aa 1) (aq) (fun _ _ => rfl)) (ah))) (dO (aL (AB T) hr.le T.f_24 (ad (aB bC T.z_len PySem.boot_len (ad (aa 0) (ah))) (ad (bi (aN hr.units1) (aa 1) (aq) (fun _ _ => rfl)) (ah))))))))
theorem zr : aJ P w K mg base (CX1 P w) 1 A.a_36 A.d_36 ["turn", "own", "aside"] (ln K A) :=
 T.f_36.f.okS Ad (yn K A) (zL T.1) fun _ _ _ _ _ _ hr =>
 ao (ay (BR (bf (ef hr.units150) (aa 0) (aq)) (cJ (ad (cF) (ad (aa 1) (ad (aa 2) (ah))))) (cJ (ad (cF) (ad (aa 2) (ad (aa 1) (ah)))))))
theorem yE : aJ P w K mg base (CX1 P w) 6 A.a_41 A.d_41 ["stamper", "count", "place", "paper"] (kH K A) :=
 T.f_41.f.okS lj (yo K A) (zV T.1) fun _ _ _ _ _ _ hr =>
 al (aU (bO (bz (aL (uw T) hr.le T.f_31 (ad (aa 1) (ad (aa 2) (ah)))))) (ao (dE)) (aP)) (al (aF 4 lj.nd (aL (ub T) hr.le T.f_42 (ad (aa 2) (ad (aa 1) (ah))))) (al (aU (bO (bz (aL (Ax T) hr.le T.f_32 (ad (aa 4) (ad (aa 3) (ah)))))) (ao (dE)) (aP)) (al (aF 5 lj.nd (gw (ad (cJ (ad (cF) (ad (bi (aN hr.units1) (aa 3) (aq) (fun _ _ => rfl)) (ah)))) (ah)))) (al (gZ 6 lj.nd (vX T.z_reversed (ad (pA T.z_list T.z_zip rfl (ad (aa 4) (ad (bi (aN hr.units1) (aa 3) (aq) (fun _ _ => rfl)) (ah)))) (ah))) (ao (cG (dZ PySem.F.plainAttrs_list PySem.F.slot_list_append PySem.F.type_list_append bT (aa 5) (ad (aL (zr T) hr.le T.f_36 (ad (bi (aN hr.units1) (aa 6) (aq) (fun _ _ => rfl)) (ad (fw (eI T) hr.le bh (aa 0) (ad (bi (aN hr.units1) (aa 5) (kQ (aq)) (fun _ _ => rfl)) (ah))) (ad (bi (aN hr.units1) (aa 6) (aq) (fun _ _ => rfl)) (ah))))) (ah))))) PassesOwn.never) (al (cG (dZ PySem.F.plainAttrs_list PySem.F.slot_list_append PySem.F.type_list_append bT (aa 5) (ad (cJ (ad (cF) (ad (aa 1) (ad (fw (eI T) hr.le bh (aa 0) (ad (bi (aN hr.units1) (aa 5) (kQ (aq)) (fun _ _ => rfl)) (ah))) (ah))))) (ah)))) (ao (ay (aa 5))))))))
theorem Ag : aJ P w K mg base (CX1 P w) 7 A.a_40 A.d_40 ["stamper", "count", "place", "paper"] (lf K A) :=
 T.f_40.f.okS zv (wF K A) (zk T.1) fun _ _ _ _ _ _ hr =>
 ao (ay (fw (eI T) hr.le bh (aa 0) (ad (bi (aN hr.units1) (aL (yE T) hr.le T.f_41 (ad (aa 0) (ad (aa 1) (ad (aa 2) (ad (aa 3) (ah)))))) (kQ (aq)) (fun _ _ => rfl)) (ah))))
theorem yH : aJ P w K mg base (CX1 P w) 8 A.a_39 A.d_39 ["stamper", "head", "place", "paper"] (lc K A) :=
 T.f_39.f.okS uf (xZ K A) (Av T.1) fun _ _ _ _ _ _ hr =>
 al (cG (aL (yV T) hr.le T.f_25 (ad (aa 1) (ah)))) (al (aF 4 uf.nd (aL (Ag T) hr.le T.f_40 (ad (aa 0) (ad (bi (aN hr.units1) (aa 1) (aq) (fun _ _ => rfl)) (ad (aa 2) (ad (aa 3) (ah))))))) (al (aU (bf (lE hr.units150) (aa 4) (bi (aN hr.units1) (aa 1) (aq) (fun _ _ => rfl))) (ao (dE)) (aP)) (ao (ay (bi (aN hr.units1) (aa 3) (aq) (fun _ _ => rfl))))))
theorem kD : aJ P w K mg base (CX1 P w) 147 A.a_12 A.d_12 ["_law_stamper_here", "_law_row", "_law_entries", "_law_place"] (dM K A) :=
 T.f_12.f.okS kN (xy K A) (AJ T.1) fun _ _ _ _ _ _ hr =>
 al (aF 4 kN.nd (aB bC T.z_len PySem.boot_len (ad (aa 2) (ah)))) (al (aF 5 kN.nd (cp (aa 1) T.cl_Row T.me_Row_place_paper (rE T) hr.le T.b_5 bh (ad (aa 4) (ad (aa 3) (ah))))) (al (aU (bO (bz (aL (AL T) hr.le T.f_13 (ad (aa 5) (ad (aL (yq T) hr.le T.f_11 (ad (aa 0) (ad (aa 2) (ad (aa 3) (ah))))) (ah)))))) (ao (ay (dW))) (aP)) (al (aU (bf oGt (aB bC T.z_len PySem.boot_len (ad (bi (aN hr.units1) (aa 5) (aq) (fun _ _ => rfl)) (ah))) (iM PySem.F.plainAttrs_int PySem.F.slot_int_bit_length PySem.F.type_int_bit_length mG (aA ff (aa 4) (aq)))) (ao (ay (dW))) (aP)) (al (aF 6 kN.nd (fw (eI T) hr.le bh (aa 0) (ad (cJ (ad (cF) (ad (aa 4) (ad (aL (oE T) hr.le T.f_20 (ad (aa 0) (ad (aa 2) (ah)))) (ah))))) (ah)))) (ao (ay (aL (pb T) hr.le T.f_14 (ad (aL (yH T) hr.le T.f_39 (ad (aa 0) (ad (cJ (ad (aa 4) (ad (aa 6) (ah)))) (ad (aa 3) (ad (aa 5) (ah)))))) (ad (bi (aN hr.units1) (aa 2) (aa 3) (fun _ _ => rfl)) (ah))))))))))
theorem zg : aJ P w K mg base (CX1 P w) 148 A.a_37 A.d_37 ["_law_script"] (kO K A) :=
 T.f_37.f.okS dn (wE K A) (yT T.1) fun _ _ _ _ _ _ hr =>
 al (aF 1 dn.nd (aL (zw T) hr.le T.f_16 (ad (aL (fy T) hr.le T.f_10 (ad (aa 0) (ad (aq) (ah)))) (ah)))) (al (qp (ys := []) 2 dn.nd (by exact ⟨rfl, by decide +kernel, by decide +kernel, rfl, by decide +kernel, by decide +kernel⟩) (by exact .nil) (eJ (aA bM (gw (ad (aL (fy T) hr.le T.f_10 (ad (aa 0) (ad (aq) (ah)))) (ah))) (cM dm (aa 0) (bV (aq)) (bV (aq))))) (fun C s H fp => gP) (fun C s H fp => (aL (zW T) hr.le T.f_15 (ad (aa 0) (ah))))) (al (aF 3 dn.nd (aA bM (aq) (aA cV (aA eF (aL (fy T) hr.le T.f_10 (ad (aa 0) (ad (aq) (ah)))) (aq)) (aB bC T.z_len PySem.boot_len (ad (aa 2) (ah)))))) (al (aF 4 dn.nd (mz T.mk_Row (vE T) hr.le T.mc_Row T.b_2 bh (ad (aa 1) (ah)))) (al (gZ 5 dn.nd (eJ (cM dm (aa 2) (dD) (bV (aa 3)))) (ao (cG (cp (aa 4) T.cl_Row T.me_Row_add (sN T) hr.le T.b_3 bh (ad (aa 5) (ah))))) PassesOwn.never) (al (aF 6 dn.nd (cp (aa 4) T.cl_Row T.me_Row_place_paper (rE T) hr.le T.b_5 bh (ad (aa 3) (ad (aA cV (aL (fy T) hr.le T.f_10 (ad (aa 0) (ad (aq) (ah)))) (aa 3)) (ah))))) (al (aF 7 dn.nd (mf (aa 4) T.cl_Row T.me_Row_twin (Ch T) hr.le T.b_9 bh)) (al (aF 8 dn.nd (aA bM (cM dm (aa 2) (dD) (bV (aa 3))) (qO T.z_list T.z_reversed rfl (ad (cM dm (aa 2) (bV (aa 3)) (dD)) (ah))))) (al (pL 5 9 dn.nd (qB T.z_zip (ad (cM dm (aa 2) (bV (aa 3)) (dD)) (ad (cM dm (aa 8) (bV (aa 3)) (dD)) (ah)))) (al (cG (cp (aa 4) T.cl_Row T.me_Row_add (sN T) hr.le T.b_3 bh (ad (aa 5) (ah)))) (ao (cG (cp (aa 7) T.cl_Row T.me_Row_add (sN T) hr.le T.b_3 bh (ad (aa 9) (ah)))))) PassesOwn.never) (al (aU (bf (lE hr.units150) (cp (aa 4) T.cl_Row T.me_Row_place_paper (rE T) hr.le T.b_5 bh (ad (aa 3) (ad (aA cV (aL (fy T) hr.le T.f_10 (ad (aa 0) (ad (aq) (ah)))) (aa 3)) (ah)))) (aa 6)) (ao (ay (dW))) (aP)) (al (aU (bO (bz (aL (kD T) hr.le T.f_12 (ad (aa 1) (ad (aa 4) (ad (cM dm (aa 2) (dD) (bV (aa 3))) (ad (aA cV (aL (fy T) hr.le T.f_10 (ad (aa 0) (ad (aq) (ah)))) (aa 3)) (ah)))))))) (ao (ay (dW))) (aP)) (al (gZ 10 dn.nd (tB T.z_range (ad (aq) (ad (aq) (ad (aq) (ah))))) (al (aF 11 dn.nd (aA bM (aq) (aA cV (aL (fy T) hr.le T.f_10 (ad (aa 0) (ad (aa 10) (ah)))) (aB bC T.z_len PySem.boot_len (ad (aa 2) (ah)))))) (al (aF 12 dn.nd (aA cV (aL (fy T) hr.le T.f_10 (ad (aa 0) (ad (aA bM (aa 10) (aq)) (ah)))) (aa 11))) (al (aU (bO (bz (aL (kD T) hr.le T.f_12 (ad (aa 1) (ad (aa 4) (ad (cM dm (aa 2) (dD) (bV (aa 11))) (ad (aa 12) (ah)))))))) (ao (ay (dW))) (aP)) (ao (aU (bO (bz (aL (kD T) hr.le T.f_12 (ad (aa 1) (ad (aa 7) (ad (cM dm (aa 8) (dD) (bV (aa 11))) (ad (aa 12) (ah)))))))) (ao (ay (dW))) (aP)))))) PassesOwn.never) (ao (ay (aL (kD T) hr.le T.f_12 (ad (aa 1) (ad (aa 4) (ad (aa 2) (ad (aA ff (aB bC T.z_len PySem.boot_len (ad (aa 2) (ah))) (aq)) (ah)))))))))))))))))))
omit T
def nJ (P : Program) (w : World) (K : W.Frag) (mg : Str → Option Value) (fa : Addr) : Prop := ∃ (fd : FuncData) (tabs : List (Addr × Addr)) (sp : Sp), (∀ (s : Shared) (v : Value), BindsTo s fd ⟨[v], []⟩ [("_law_script", v)]) ∧ W.noTabs K = true ∧ (∀ t ∈ tabs, ∃ y ∈ (["writing", "counting", "_law_sure", "_law_weak"] : List Str), W.tabIn K y = some t) ∧ (∀ base : Heap, K.In base → base.Ns mainGlobals mg → BM mg base → (∀ t ∈ tabs, W.CodeHd base t.1 t.2) → aJ P w K mg base (CX1 P w) 148 fa fd ["_law_script"] sp) ∧ ∀ (H : Hp) (a : Addr) (ns : List Int), ns.length ≤ 63 → (∀ t ∈ tabs, H t.2 = some (.tbl #[])) → SqL K H a (ns.map V.int) → sp [.ref a] H (fun v _ => v = .bl true) fun _ _ _ => False
theorem yi (T : Txt K mg A) (nt : W.noTabs K = true) (tb_43 : W.tabIn K "writing" = some (A.k_43, A.t_43)) (tb_26 : W.tabIn K "counting" = some (A.k_26, A.t_26)) (tb_17 : W.tabIn K "_law_sure" = some (A.k_17, A.t_17)) (tb_21 : W.tabIn K "_law_weak" = some (A.k_21, A.t_21)) (tdn : ([A.t_43, A.t_26, A.t_17, A.t_21] : List Addr).Nodup) : nJ P w K mg A.a_37 := by
 refine ⟨A.d_37, [(A.k_43, A.t_43), (A.k_26, A.t_26), (A.k_17, A.t_17), (A.k_21, A.t_21)], kO K A, T.f_37.f.bt, nt, ?_, fun base _ _ B C => ?_, fun H a ns hl hO hS => ⟨a, ns, rfl, hS, hl, ⟨hO (A.k_43, A.t_43) (by simp), hO (A.k_26, A.t_26) (by simp), hO (A.k_17, A.t_17) (by simp), hO (A.k_21, A.t_21) (by simp), tdn⟩, fun _ => rfl⟩⟩
 · intro t ht
   simp only [List.mem_cons, List.not_mem_nil, or_false] at ht
   rcases ht with rfl | rfl | rfl | rfl
   · exact ⟨"writing", by simp, tb_43⟩
   · exact ⟨"counting", by simp, tb_26⟩
   · exact ⟨"_law_sure", by simp, tb_17⟩
   · exact ⟨"_law_weak", by simp, tb_21⟩
 · exact zg ⟨T, B, C (A.k_43, A.t_43) (by simp), C (A.k_26, A.t_26) (by simp), C (A.k_17, A.t_17) (by simp), C (A.k_21, A.t_21) (by simp)⟩
theorem xR {h : Heap} {fa : Addr} (X : K.In h) (G : h.Ns mainGlobals mg) (hfa : mg "law" = some (.ref fa)) {x_35 x_33 x_34 x_38 x_45 x_1 x_43 x_0 x_26 x_17 x_21 x_16 x_10 x_19 x_15 x_2 x_3 x_29 x_31 x_6 x_4 x_28 x_42 x_8 x_7 x_5 x_9 x_23 x_14 x_13 x_20 x_11 x_30 x_25 x_24 x_32 x_36 x_41 x_40 x_39 x_12 x_37 y_Numbers y_Row : Addr} {d0 d1 d2 d3 d4 d5 d6 d7 d8 d9 d10 d11 d12 d13 d14 d15 d16 d17 d18 d19 d20 d21 d22 d23 d24 d25 d26 d27 d28 d29 d30 d31 d32 d33 d34 d35 d36 d37 d38 d39 d40 d41 : FuncData} {tc0 : Tok}
  (bo_Numbers : W.nsIn K mainGlobals "Numbers" = some (some (.ref y_Numbers))) (bo_Row : W.nsIn K mainGlobals "Row" = some (some (.ref y_Row))) (h0 : Fa K "is_whole" "is_whole" sQ x_35 d0) (h1 : Fa K "is_stamp" "is_stamp" tD x_33 d1) (h2 : Fa K "is_term" "is_term" si x_34 d2) (h3 : Fa K "part_form" "part_form" rz x_38 d3) (h4 : Fa K "written" "written" rX x_45 d4) (a5 : W.findIn K (.ref y_Numbers) "number_of" = some (some (.ref x_1))) (h5 : Fun K "number_of" "Numbers.number_of" s_1 x_1 d5) (fn5 : W.isFn K (.ref x_1) = true) (h6 : Fa K "writing" "writing" iG x_43 d6) (tb_43 : (W.tabIn K "writing").isSome = true) (a7 : W.findIn K (.ref y_Numbers) "__init__" = some (some (.ref x_0))) (h7 : Fun K "__init__" "Numbers.__init__" s_0 x_0 d7) (fn7 : W.isFn K (.ref x_0) = true) (h8 : Fa K "counting" "counting" iD x_26 d8) (tb_26 : (W.tabIn K "counting").isSome = true) (h9 : Fa K "_law_sure" "_law_sure" iI x_17 d9) (tb_17 : (W.tabIn K "_law_sure").isSome = true) (h10 : Fa K "_law_weak" "_law_weak" iB x_21 d10) (tb_21 : (W.tabIn K "_law_weak").isSome = true) (h11 : Fa K "_law_stamper" "_law_stamper" sm x_16 d11) (h12 : Fa K "_law_cell_at" "_law_cell_at" qU x_10 d12) (h13 : Fa K "_law_text_by" "_law_text_by" rc x_19 d13) (h14 : Fa K "_law_stamp_by" "_law_stamp_by" tR x_15 d14) (a15 : W.findIn K (.ref y_Row) "__init__" = some (some (.ref x_2))) (h15 : Fun K "__init__" "Row.__init__" s_2 x_2 d15) (fn15 : W.isFn K (.ref x_2) = true) (a16 : W.findIn K (.ref y_Row) "add" = some (some (.ref x_3))) (h16 : Fun K "add" "Row.add" s_3 x_3 d16) (fn16 : W.isFn K (.ref x_3) = true) (h17 : Fa K "is_count" "is_count" sO x_29 d17) (h18 : Fa K "is_place" "is_place" rH x_31 d18) (a19 : W.findIn K (.ref y_Row) "size" = some (some (.ref x_6))) (h19 : Fun K "size" "Row.size" s_6 x_6 d19) (fn19 : W.isFn K (.ref x_6) = true) (a20 : W.findIn K (.ref y_Row) "has_place" = some (some (.ref x_4))) (h20 : Fun K "has_place" "Row.has_place" s_4 x_4 d20) (fn20 : W.isFn K (.ref x_4) = true) (h21 : Fa K "half" "half" tu x_28 d21) (h22 : Fa K "ways" "ways" sr x_42 d22) (a23 : W.findIn K (.ref y_Row) "top_term" = some (some (.ref x_8))) (h23 : Fun K "top_term" "Row.top_term" s_8 x_8 d23) (fn23 : W.isFn K (.ref x_8) = true) (a24 : W.findIn K (.ref y_Row) "top_of" = some (some (.ref x_7))) (h24 : Fun K "top_of" "Row.top_of" s_7 x_7 d24) (fn24 : W.isFn K (.ref x_7) = true) (a25 : W.findIn K (.ref y_Row) "place_paper" = some (some (.ref x_5))) (h25 : Fun K "place_paper" "Row.place_paper" s_5 x_5 d25) (fn25 : W.isFn K (.ref x_5) = true) (a26 : W.findIn K (.ref y_Row) "twin" = some (some (.ref x_9))) (h26 : Fun K "twin" "Row.twin" s_9 x_9 d26) (fn26 : W.isFn K (.ref x_9) = true) (h27 : Fa K "_law_whole" "_law_whole" tz x_23 d27) (h28 : Fa K "_law_same" "_law_same" tH x_14 d28) (h29 : Fa K "_law_is_paper" "_law_is_paper" tG x_13 d29) (h30 : Fa K "_law_top" "_law_top" tP x_20 d30) (h31 : Fa K "_law_due" "_law_due" rB x_11 d31) (h32 : Fa K "is_head" "is_head" rj x_30 d32) (h33 : Fa K "check_head" "check_head" sX x_25 d33) (h34 : Fa K "are_marks" "are_marks" tK x_24 d34) (h35 : Fa K "is_place_paper" "is_place_paper" rn x_32 d35) (h36 : Fa K "joint" "joint" tM x_36 d36) (h37 : Fa K "place_terms" "place_terms" sh x_41 d37) (h38 : Fa K "place_mark" "place_mark" sD x_40 d38) (h39 : Fa K "place_answer" "place_answer" qT x_39 d39) (h40 : Fa K "_law_good" "_law_good" sV x_12 d40) (h41 : Fa K "law" "law" rT x_37 d41) (pg_Numbers : W.plainGet K y_Numbers Str.empty = true) (hd_Numbers : W.hasDictIn K y_Numbers = true) (po_Numbers : W.plainOver K y_Numbers = true) (sa_Numbers : W.findIn K (.ref y_Numbers) "__setattr__" = some (some (.builtin "object.__setattr__"))) (na_Numbers_given : W.findIn K (.ref y_Numbers) "given" = some none) (pg_Row : W.plainGet K y_Row Str.empty = true) (hd_Row : W.hasDictIn K y_Row = true) (po_Row : W.plainOver K y_Row = true) (sa_Row : W.findIn K (.ref y_Row) "__setattr__" = some (some (.builtin "object.__setattr__"))) (na_Row_stamper : W.findIn K (.ref y_Row) "stamper" = some none) (na_Row_entries : W.findIn K (.ref y_Row) "entries" = some none) (na_Row_tops : W.findIn K (.ref y_Row) "tops" = some none) (mk_Numbers : W.makesIn K y_Numbers = true) (kc_Numbers : W.keepIn K (.ref y_Numbers) = true) (mk_Row : W.makesIn K y_Row = true) (kc_Row : W.keepIn K (.ref y_Row) = true) (z_all : W.nsIn K mainGlobals "all" = some none) (z_bool : W.nsIn K mainGlobals "bool" = some none) (z_int : W.nsIn K mainGlobals "int" = some none) (z_isinstance : W.nsIn K mainGlobals "isinstance" = some none) (z_len : W.nsIn K mainGlobals "len" = some none) (z_list : W.nsIn K mainGlobals "list" = some none) (z_range : W.nsIn K mainGlobals "range" = some none) (z_reversed : W.nsIn K mainGlobals "reversed" = some none) (z_str : W.nsIn K mainGlobals "str" = some none) (z_tuple : W.nsIn K mainGlobals "tuple" = some none) (z_zip : W.nsIn K mainGlobals "zip" = some none) (c_MOST_PARTS : W.nsIn K mainGlobals "MOST_PARTS" = some (some (.int 8 tc0))) (nt : W.noTabs K = true) (td : jW K ["writing", "counting", "_law_sure", "_law_weak"] = true) : nJ P w K mg fa := by
 cases hfa.symm.trans (W.mg_of X G h41.m)
 obtain ⟨⟨z_43, t_43⟩, tb_43⟩ := Option.isSome_iff_exists.mp tb_43
 obtain ⟨⟨z_26, t_26⟩, tb_26⟩ := Option.isSome_iff_exists.mp tb_26
 obtain ⟨⟨z_17, t_17⟩, tb_17⟩ := Option.isSome_iff_exists.mp tb_17
 obtain ⟨⟨z_21, t_21⟩, tb_21⟩ := Option.isSome_iff_exists.mp tb_21
 have tdn : ([t_43, t_26, t_17, t_21] : List Addr).Nodup := rA (by unfold jW at td; simp only [List.map_cons, List.map_nil, tb_43, tb_26, tb_17, tb_21, Option.map_some] at td; exact of_decide_eq_true td)
 exact yi (A := ⟨x_35, d0, x_33, d1, x_34, d2, x_38, d3, x_45, d4, x_1, d5, x_43, d6, x_0, d7, x_26, d8, x_17, d9, x_21, d10, x_16, d11, x_10, d12, x_19, d13, x_15, d14, x_2, d15, x_3, d16, x_29, d17, x_31, d18, x_6, d19, x_4, d20, x_28, d21, x_42, d22, x_8, d23, x_7, d24, x_5, d25, x_9, d26, x_23, d27, x_14, d28, x_13, d29, x_20, d30, x_11, d31, x_30, d32, x_25, d33, x_24, d34, x_32, d35, x_36, d36, x_41, d37, x_40, d38, x_39, d39, x_12, d40, fa, d41, z_43, t_43, z_26, t_26, z_17, t_17, z_21, t_21, y_Numbers, y_Row⟩) ⟨h0.fm1 X G, h1.fm1 X G, h2.fm1 X G, h3.fm1 X G, h4.fm1 X G, h5, h5.b2, h6.fm0 X G, h7, h7.b1, h8.fm0 X G, h9.fm1 X G, h10.fm1 X G, h11.fm1 X G, h12.fm2 X G, h13.fm1 X G, h14.fm1 X G, h15, h15.b2, h16, h16.b2, h17.fm1 X G, h18.fm2 X G, h19, h19.b1, h20, h20.b3, h21.fm1 X G, h22.fm2 X G, h23, h23.b3, h24, h24.b3, h25, h25.b3, h26, h26.b1, h27.fm1 X G, h28.fm2 X G, h29.fm2 X G, h30.fm2 X G, h31.fm3 X G, h32.fm1 X G, h33.fm1 X G, h34.fm2 X G, h35.fm2 X G, h36.fm3 X G, h37.fm4 X G, h38.fm4 X G, h39.fm4 X G, h40.fm4 X G, h41.fm1 X G, W.mg_none_of X G z_all, W.mg_none_of X G z_bool, W.mg_none_of X G z_int, W.mg_none_of X G z_isinstance, W.mg_none_of X G z_len, W.mg_none_of X G z_list, W.mg_none_of X G z_range, W.mg_none_of X G z_reversed, W.mg_none_of X G z_str, W.mg_none_of X G z_tuple, W.mg_none_of X G z_zip, ⟨_, W.mg_of X G c_MOST_PARTS⟩, h6.code X G tb_43, h8.code X G tb_26, h9.code X G tb_17, h10.code X G tb_21, W.mg_of X G bo_Numbers, ⟨pg_Numbers, hd_Numbers, po_Numbers, sa_Numbers⟩, na_Numbers_given, W.mg_of X G bo_Row, ⟨pg_Row, hd_Row, po_Row, sa_Row⟩, na_Row_stamper, na_Row_entries, na_Row_tops, ⟨a19, fn19, h19.kp⟩, ⟨a24, fn24, h24.kp⟩, ⟨a23, fn23, h23.kp⟩, ⟨a20, fn20, h20.kp⟩, ⟨a25, fn25, h25.kp⟩, ⟨a16, fn16, h16.kp⟩, ⟨a26, fn26, h26.kp⟩, ⟨a5, fn5, h5.kp⟩, ⟨mk_Numbers, a7, fn7, kc_Numbers⟩, ⟨mk_Row, a15, fn15, kc_Row⟩⟩ nt tb_43 tb_26 tb_17 tb_21 tdn
theorem AS {l : W.OpenLaw} {q : Program} {loose : List Str} {XP : (Str → Option Value) → Heap → Prop} {YP : World → Heap → Prop} {d : DefRec} {K : Params → W.Frag} (hn : l.most = some 63) (hdf : d.params.defaults = [])
  (hY : ∀ (w : World) (h : Heap), YP w h → (K w.params).In h) (hq : ∀ y ∈ (["writing", "counting", "_law_sure", "_law_weak"] : List Str), ((PyProof.Rows.recsOf q).find? fun e => e.name == y).isSome = true)
  (F : ∀ (w : World) (mg : Str → Option Value) (fa : Addr) (h : Heap), (K w.params).In h → h.Ns mainGlobals mg → mg d.name = some (.ref fa) → nJ l.prog w (K w.params) mg fa) :
  W.WalkO q loose XP YP l.row.toRowW d [] (fun f vs => PySem.call f vs) :=
 L2.tL (n := 63) (k := 148) (x := "_law_script") (CX := fun w => CX1 l.prog w) hn (by decide) hdf ⟨rfl, by decide, by decide⟩ hY hq F fun _ _ _ _ _ ⟨_, _, _, _, _, z⟩ => z
end Rs
def PySem.W.Fast.tw17265069787281200154 : Unit := ()
def PySem.W.Fast.tw716236703475919083 : Unit := ()
def PySem.W.Fast.tw9037925133308213684 : Unit := ()
def PySem.W.Fast.tw4750975875486623060 : Unit := ()
def PySem.W.Fast.tw17504281378670084065 : Unit := ()
def PySem.W.Fast.tw11360703212934072007 : Unit := ()
def PySem.W.Fast.tw12755300604227109932 : Unit := ()
def PySem.W.Fast.tw16166396434449824104 : Unit := ()
def PySem.W.Fast.tw8980733289262438941 : Unit := ()
def PySem.W.Fast.tw10456264456279764551 : Unit := ()
def PySem.W.Fast.tw18013710950057252708 : Unit := ()
def PySem.W.Fast.tw82557740629583576 : Unit := ()
def PySem.W.Fast.tw518005867146172130 : Unit := ()
def PySem.W.Fast.tw12066946991985637641 : Unit := ()
def PySem.W.Fast.tw13840282020507421986 : Unit := ()
def PySem.W.Fast.tw8079897090098169000 : Unit := ()
def PySem.W.Fast.tw4333959617150151981 : Unit := ()
open PySem PySem.W PyProof.Rows
set_option maxRecDepth 100000 in
set_option maxHeartbeats 0 in
theorem PySem.Challenge.cw_rootstamp_k43_papers_of_places_holds : PySem.Challenge.rw_rootstamp_k43_papers_of_places.Holds := by
 w_on; o_law; k_head; (case hw => w_witness2)
 k_fill
 refine Rs.AS (l := PySem.Challenge.rw_rootstamp_k43_papers_of_places) rfl rfl (fun w h Y => by first | exact PySem.W.kIn_of Y | exact PySem.W.km_in_of Y) (by decide +kernel) ?F
 case F =>
  intro w mg fa h KX G hmg
  refine' Rs.xR KX G hmg ?bo_Numbers ?bo_Row (L2.ba ?a0 ?l0 ?c0 ?k0) (L2.ba ?a1 ?l1 ?c1 ?k1) (L2.ba ?a2 ?l2 ?c2 ?k2) (L2.ba ?a3 ?l3 ?c3 ?k3) (L2.ba ?a4 ?l4 ?c4 ?k4) ?a5 (L2.dj ?l5 ?c5 ?k5) ?fn5 (L2.ba ?a6 ?l6 ?c6 ?k6) ?tb_43 ?a7 (L2.dj ?l7 ?c7 ?k7) ?fn7 (L2.ba ?a8 ?l8 ?c8 ?k8) ?tb_26 (L2.ba ?a9 ?l9 ?c9 ?k9) ?tb_17 (L2.ba ?a10 ?l10 ?c10 ?k10) ?tb_21 (L2.ba ?a11 ?l11 ?c11 ?k11) (L2.ba ?a12 ?l12 ?c12 ?k12) (L2.ba ?a13 ?l13 ?c13 ?k13) (L2.ba ?a14 ?l14 ?c14 ?k14) ?a15 (L2.dj ?l15 ?c15 ?k15) ?fn15 ?a16 (L2.dj ?l16 ?c16 ?k16) ?fn16 (L2.ba ?a17 ?l17 ?c17 ?k17) (L2.ba ?a18 ?l18 ?c18 ?k18) ?a19 (L2.dj ?l19 ?c19 ?k19) ?fn19 ?a20 (L2.dj ?l20 ?c20 ?k20) ?fn20 (L2.ba ?a21 ?l21 ?c21 ?k21) (L2.ba ?a22 ?l22 ?c22 ?k22) ?a23 (L2.dj ?l23 ?c23 ?k23) ?fn23 ?a24 (L2.dj ?l24 ?c24 ?k24) ?fn24 ?a25 (L2.dj ?l25 ?c25 ?k25) ?fn25 ?a26 (L2.dj ?l26 ?c26 ?k26) ?fn26 (L2.ba ?a27 ?l27 ?c27 ?k27) (L2.ba ?a28 ?l28 ?c28 ?k28) (L2.ba ?a29 ?l29 ?c29 ?k29) (L2.ba ?a30 ?l30 ?c30 ?k30) (L2.ba ?a31 ?l31 ?c31 ?k31) (L2.ba ?a32 ?l32 ?c32 ?k32) (L2.ba ?a33 ?l33 ?c33 ?k33) (L2.ba ?a34 ?l34 ?c34 ?k34) (L2.ba ?a35 ?l35 ?c35 ?k35) (L2.ba ?a36 ?l36 ?c36 ?k36) (L2.ba ?a37 ?l37 ?c37 ?k37) (L2.ba ?a38 ?l38 ?c38 ?k38) (L2.ba ?a39 ?l39 ?c39 ?k39) (L2.ba ?a40 ?l40 ?c40 ?k40) (L2.ba ?a41 ?l41 ?c41 ?k41) ?pg_Numbers ?hd_Numbers ?po_Numbers ?sa_Numbers ?na_Numbers_given ?pg_Row ?hd_Row ?po_Row ?sa_Row ?na_Row_stamper ?na_Row_entries ?na_Row_tops ?mk_Numbers ?kc_Numbers ?mk_Row ?kc_Row ?z_all ?z_bool ?z_int ?z_isinstance ?z_len ?z_list ?z_range ?z_reversed ?z_str ?z_tuple ?z_zip ?c_MOST_PARTS ?nt ?td
  case bo_Numbers | bo_Row | a0 | l0 | c0 | k0 | a1 | l1 | c1 | k1 | a2 | l2 | c2 | k2 | a3 | l3 | c3 | k3 | a4 | l4 | c4 | k4 | a5 | l5 | c5 | k5 | fn5 | a6 | l6 | c6 | k6 => k_is
  case tb_43 => kernel_rfl
  case a7 | l7 | c7 | k7 | fn7 | a8 | l8 | c8 | k8 => k_is
  case tb_26 => kernel_rfl
  case a9 | l9 | c9 | k9 => k_is
  case tb_17 => kernel_rfl
  case a10 | l10 | c10 | k10 => k_is
  case tb_21 => kernel_rfl
  case a11 | l11 | c11 | k11 | a12 | l12 | c12 | k12 | a13 | l13 | c13 | k13 | a14 | l14 | c14 | k14 | a15 | l15 | c15 | k15 | fn15 | a16 | l16 | c16 | k16 | fn16 | a17 | l17 | c17 | k17 | a18 | l18 | c18 | k18 | a19 | l19 | c19 | k19 | fn19 | a20 | l20 | c20 | k20 | fn20 | a21 | l21 | c21 | k21 | a22 | l22 | c22 | k22 | a23 | l23 | c23 | k23 | fn23 | a24 | l24 | c24 | k24 | fn24 | a25 | l25 | c25 | k25 | fn25 | a26 | l26 | c26 | k26 | fn26 | a27 | l27 | c27 | k27 | a28 | l28 | c28 | k28 | a29 | l29 | c29 | k29 | a30 | l30 | c30 | k30 | a31 | l31 | c31 | k31 | a32 | l32 | c32 | k32 | a33 | l33 | c33 | k33 | a34 | l34 | c34 | k34 | a35 | l35 | c35 | k35 | a36 | l36 | c36 | k36 | a37 | l37 | c37 | k37 | a38 | l38 | c38 | k38 | a39 | l39 | c39 | k39 | a40 | l40 | c40 | k40 | a41 | l41 | c41 | k41 | pg_Numbers | hd_Numbers | po_Numbers | sa_Numbers | na_Numbers_given | pg_Row | hd_Row | po_Row | sa_Row | na_Row_stamper | na_Row_entries | na_Row_tops | mk_Numbers | kc_Numbers | mk_Row | kc_Row | z_all | z_bool | z_int | z_isinstance | z_len | z_list | z_range | z_reversed | z_str | z_tuple | z_zip | c_MOST_PARTS => k_is
  case nt | td => kernel_rfl

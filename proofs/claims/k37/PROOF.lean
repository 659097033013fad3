import PyProof.Rows.All
import Wide.All
import OpenK.AllK
import Wide.FinOn
import Lean
import PyProof.EqAt
import PyProof.EqKinds
import PyProof.TupleCall
import PyProof.P3In
import KE.KDictLaws
import KE.KTabLook
import PySem.Challenge.RW_rootstamp_k37_whole_one_paper_or_a_clash
set_option Elab.async false
set_option linter.all false
set_option maxRecDepth 100000
set_option maxHeartbeats 4000000
namespace L2
open PySem PySem.Spec PyProof.Rows
abbrev Key := Sum Int Str
def keyIs : Key → Value → Bool
 | .inl k, v => Value.isInt k v
 | .inr x, v => Value.isStrOf x v
def keyH (w : World) : Key → Int
 | .inl k => hashInt k
 | .inr x => hashStr w x
theorem keyIs_shape : ∀ {k : Key} {v : Value}, keyIs k v = true → (∃ i t, k = Sum.inl i ∧ v = Value.int i t) ∨ (∃ x t, k = Sum.inr x ∧ v = Value.str x t)
  | .inl i, v, h => by
    obtain ⟨t, e⟩ := Value.isInt_shape (k := i) (v := v) h
    exact .inl ⟨i, t, rfl, e⟩
  | .inr x, v, h => by
    obtain ⟨t, e⟩ := Value.isStrOf_shape (x := x) (v := v) h
    exact .inr ⟨x, t, rfl, e⟩
theorem keyIs_int (i : Int) (t : Tok) : keyIs (.inl i) (.int i t) = true := by simp [keyIs, Value.isInt]
theorem keyIs_str (x : Str) (t : Tok) : keyIs (.inr x) (.str x t) = true := by simp [keyIs, Value.isStrOf]
theorem key_ll (a b : Int) : decide ((Sum.inl a : Key) = Sum.inl b) = (a == b) := by
 by_cases e : a = b
 · subst e; simp
 · have h : ¬ (Sum.inl a : Key) = Sum.inl b := fun q => e (Sum.inl.inj q)
   rw [decide_eq_false h]
   exact (beq_eq_false_iff_ne.mpr e).symm
theorem key_rr (a b : Str) : decide ((Sum.inr a : Key) = Sum.inr b) = decide (a = b) := by
 by_cases e : a = b
 · subst e; simp
 · have h : ¬ (Sum.inr a : Key) = Sum.inr b := fun q => e (Sum.inr.inj q)
   rw [decide_eq_false h, decide_eq_false e]
theorem key_lr (a : Int) (b : Str) : decide ((Sum.inl a : Key) = Sum.inr b) = false := decide_eq_false (fun q => nomatch q)
theorem key_rl (a : Str) (b : Int) : decide ((Sum.inr a : Key) = Sum.inl b) = false := decide_eq_false (fun q => nomatch q)
def mixKind (prog : Program) (w : World) : PySem.KeyKind prog w Key where
 is := keyIs
 hash := keyH w
 inj := fun v a b ha hb => by
  rcases keyIs_shape ha with ⟨i, t, rfl, rfl⟩ | ⟨x, t, rfl, rfl⟩
  · rcases keyIs_shape hb with ⟨j, u, rfl, e⟩ | ⟨y, u, rfl, e⟩
    · injection e with e1 _; rw [e1]
    · exact nomatch e
  · rcases keyIs_shape hb with ⟨j, u, rfl, e⟩ | ⟨y, u, rfl, e⟩
    · exact nomatch e
    · injection e with e1 _; rw [e1]
 byValue := fun k v h => by
  rcases keyIs_shape h with ⟨i, t, rfl, rfl⟩ | ⟨x, t, rfl, rfl⟩ <;> rfl
 pyHash := fun hv h => by
  rcases keyIs_shape hv with ⟨i, t, rfl, rfl⟩ | ⟨x, t, rfl, rfl⟩
  · exact wpAny_pyHash_int h
  · exact wpAny_pyHash_str h
 eqBool := fun hu hv h => by
  rcases keyIs_shape hu with ⟨i, t, rfl, rfl⟩ | ⟨x, t, rfl, rfl⟩
  · rcases keyIs_shape hv with ⟨j, u, rfl, rfl⟩ | ⟨y, u, rfl, rfl⟩
    · rw [key_ll] at h; exact wpAny_eqBool_int h
    · rw [key_lr] at h; exact SeqAt.EqAt.int_str i t y u _ _ _ _ h
  · rcases keyIs_shape hv with ⟨j, u, rfl, rfl⟩ | ⟨y, u, rfl, rfl⟩
    · rw [key_rl] at h; exact SeqAt.EqAt.str_int x t j u _ _ _ _ h
    · rw [key_rr] at h; exact wpAny_eqBool_str h
 «strs» := fun k x t v h => by
  rcases keyIs_shape h with ⟨i, u, rfl, e⟩ | ⟨y, u, rfl, e⟩
  · exact nomatch e
  · injection e with e1 _
    subst e1
    cases v <;> rfl
theorem mixKind_int (prog : Program) (w : World) (i : Int) (t : Tok) : (mixKind prog w).is (.inl i) (.int i t) = true := keyIs_int i t
theorem mixKind_str (prog : Program) (w : World) (x : Str) (t : Tok) : (mixKind prog w).is (.inr x) (.str x t) = true := keyIs_str x t
end L2
namespace L2
open PySem PySem.Spec PyProof.Rows
inductive V where
 | non | bl (b : Bool) | int (i : Int) | str (x : Str) | byt (b : Array UInt8) | flt (b : UInt64) | ref (a : Addr) | ty (n : String)
 deriving DecidableEq
def RelV : V → Value → Prop
 | .non, u => u = Value.none
 | .bl b, u => u = Value.bool b
 | .int i, u => ∃ t, u = Value.int i t
 | .str x, u => ∃ t, u = Value.str x t
 | .byt b, u => ∃ t, u = Value.bytes b t
 | .flt b, u => ∃ t, u = Value.float b t
 | .ref a, u => u = Value.ref a
 | .ty n, u => u = Value.type n
abbrev Vals : List V → List Value → Prop := Paired RelV
theorem Vals.length {xs : List V} {us : List Value} (r : Vals xs us) : xs.length = us.length := Paired.length r
theorem Vals.get : ∀ {xs : List V} {us : List Value} {i : Nat} {x : V}, Vals xs us → xs[i]? = some x → ∃ u, us[i]? = some u ∧ RelV x u
  | _, _, _, _, .nil, e => by simp at e
  | _, _, 0, _, .cons r _, e => by simp at e; subst e; exact ⟨_, rfl, r⟩
  | _, _, i + 1, x, .cons _ t, e => by
    obtain ⟨u, h1, h2⟩ := Vals.get (i := i) (x := x) t (by simpa using e)
    exact ⟨u, by simpa using h1, h2⟩
theorem Vals.append : ∀ {xs ys : List V} {us ws : List Value}, Vals xs us → Vals ys ws → Vals (xs ++ ys) (us ++ ws)
 | _, _, _, _, .nil, s => s
 | _, _, _, _, .cons r t, s => .cons r (Vals.append t s)
theorem Vals.take : ∀ {xs : List V} {us : List Value} (n : Nat), Vals xs us → Vals (xs.take n) (us.take n)
 | _, _, 0, _ => .nil
 | _, _, _ + 1, .nil => .nil
 | _, _, n + 1, .cons r t => .cons r (Vals.take n t)
theorem Vals.drop : ∀ {xs : List V} {us : List Value} (n : Nat), Vals xs us → Vals (xs.drop n) (us.drop n)
 | _, _, 0, r => r
 | _, _, _ + 1, .nil => .nil
 | _, _, n + 1, .cons _ t => Vals.drop n t
def RelO : Option V → Option Value → Prop
 | some v, some u => RelV v u
 | none, none => True
 | _, _ => False
def KV {κ : Type} : List (κ × V) → List (κ × Value) → Prop := Paired fun (p : κ × V) (q : κ × Value) => p.1 = q.1 ∧ RelV p.2 q.2
def kV : Key → V
 | .inl i => .int i
 | .inr x => .str x
inductive HO where
 | lst (xs : List V)
 | tup (xs : List V)
 | dK (kvs : List (Key × V)) | dT (kvs : List (List Key × V))
 | set (S : Int → Bool) (n : Nat)
 | ins (C dx : Addr) (fs : List (Str × V))
 | own (x : Addr)
 | xd (fs : List (Str × V))
 | met (f x : Addr)
 | rng (lo hi : Int)
 | frz (o : Obj) (u : HO)
 | tbl (ps : Array Value)
 | ext (φ : Heap → Prop)
abbrev Hp := Addr → Option HO
def upd (H : Hp) (a : Addr) (o : HO) : Hp := fun b => if b = a then some o else H b
theorem upd_same {H : Hp} {a : Addr} {o : HO} : upd H a o a = some o := by unfold upd; rw [if_pos rfl]
theorem upd_ne {H : Hp} {a b : Addr} {o : HO} (h : b ≠ a) : upd H a o b = H b := by unfold upd; rw [if_neg h]
theorem ne_of {H : Hp} {a b : Addr} {o u : HO} (h : H a = some o) (h' : H b = some u) (d : o ≠ u) : a ≠ b := by
 intro e; subst e; rw [h] at h'; exact d (Option.some.inj h')
theorem ne_of_none {H : Hp} {a b : Addr} {o : HO} (h : H a = some o) (h' : H b = none) : a ≠ b := by
 intro e; subst e; rw [h] at h'; cases h'
section
variable (P : Program) (w : World)
def ObjOk (H : Hp) (h : Heap) (a : Addr) : HO → Prop
 | .lst xs => xs.length ≤ sizeLine ∧ ∃ (its : List Value) (n : Nat), Vals xs its ∧ h.get? a = some { cls := .type "list", data := .seq its.toArray n }
 | .tup xs => xs.length ≤ sizeLine ∧ ∃ its : List Value, Vals xs its ∧ IsTup h a its.toArray
 | .dK kvs => kvs.length ≤ sizeLine ∧ (a == sysModules) = false ∧ ∃ vs, KV kvs vs ∧ h.DictOf (mixKind P w) a vs
 | .dT kvs => kvs.length ≤ sizeLine ∧ (a == sysModules) = false ∧ ∃ xs : List (List Key × Addr × Value),
  Paired (fun (p : List Key × V) (q : List Key × Addr × Value) => p.1 = q.1 ∧ H q.2.1 = some (.tup (p.1.map kV)) ∧ RelV p.2 q.2.2) kvs xs ∧
  ∃ o es ep, h.get? a = some o ∧ o.ExactDict ∧ o.data = .dict es ep ∧ es.toList = xs.map (entryOfKey (tupleKind (mixKind P w))) ∧ (xs.map (·.1)).Nodup
 | .set S n => h.SetOf (intKind P w) a S n
 | .ins C dx fs => H dx = some (.own a) ∧ fs.length ≤ 1000 ∧ dx ≠ a ∧ h.get? a = some (PySem.W.instObj C dx) ∧
  ∃ mA, h.Ns1 dx mA ∧ (∀ f, RelO (fs.lookup f) (mA f)) ∧ PySem.Within mA (fs.map (·.1))
 | .own _ => ∃ o, h.get? a = some o
 | .xd fs => ∃ mA, h.Ns1 a mA ∧ ∀ f, RelO (fs.lookup f) (mA f)
 | .rng lo hi => ∃ t u v, h.get? a = some { cls := .type "range", data := .fields #[.int lo t, .int hi u, .int 1 v] }
 | .frz o u => h.get? a = some o ∧ ObjOk H h a u
 | .tbl ps => h.get? a = some { cls := .none, data := .fields ps }
 | .met f x => h.get? a = some (PySem.W.methodObj (.ref f) (.ref x))
 | .ext φ => φ h ∧ (∃ o, h.get? a = some o) ∧ ∀ h1 h2 : Heap, φ h1 → (∀ o, h1.get? a = some o → h2.get? a = some o) → φ h2
def HOk (H : Hp) (h : Heap) : Prop := ∀ a o, H a = some o → ObjOk P w H h a o
end
section
variable {P : Program} {w : World} {H H' : Hp} {h h' : Heap} {a : Addr} {o : HO}
theorem ObjOk.lt (x : ObjOk P w H h a o) : a < h.objs.size := by
 cases o with
 | lst xs => obtain ⟨_, _, _, _, e⟩ := x; exact Heap.lt_size e
 | tup xs => obtain ⟨_, _, _, p⟩ := x; exact p.lt
 | dK kvs => obtain ⟨_, _, _, _, o, _, _, e, _⟩ := x; exact Heap.lt_size e
 | dT kvs => obtain ⟨_, _, _, _, o, _, _, e, _⟩ := x; exact Heap.lt_size e
 | set S n => obtain ⟨o, _, _, _, e, _⟩ := x; exact Heap.lt_size e
 | ins C dx fs => obtain ⟨_, _, _, e, _⟩ := x; exact Heap.lt_size e
 | own y => obtain ⟨_, e⟩ := x; exact Heap.lt_size e
 | xd fs => obtain ⟨_, ⟨_, _, _, e, _⟩, _⟩ := x; exact Heap.lt_size e
 | rng lo hi => obtain ⟨_, _, _, e⟩ := x; exact Heap.lt_size e
 | frz ob u => obtain ⟨e, _⟩ := x; exact Heap.lt_size e
 | tbl ps => exact Heap.lt_size (show h.get? a = some _ from x)
 | met f y => exact Heap.lt_size (show h.get? a = some _ from x)
 | ext φ => obtain ⟨_, ⟨_, e⟩, _⟩ := x; exact Heap.lt_size e
theorem Paired.mapP {α β : Type} {F G : α → β → Prop} : ∀ {l₁ : List α} {l₂ : List β}, Paired F l₁ l₂ → (∀ a b, F a b → G a b) → Paired G l₁ l₂
 | _, _, .nil, _ => .nil
 | _, _, .cons r t, f => .cons (f _ _ r) (Paired.mapP t f)
theorem Paired.imp' {α β : Type} {F G : α → β → Prop} (f : ∀ a b, F a b → G a b) {l₁ : List α} {l₂ : List β} (r : Paired F l₁ l₂) : Paired G l₁ l₂ := Paired.mapP r f
theorem ObjOk.stay (x : ObjOk P w H h a o) (k : ∀ b u, (b = a ∨ H b = some (.own a)) → h.get? b = some u → h'.get? b = some u)
    (ho : ∀ b, H b = some (.own a) → H' b = some (.own a)) (ht : ∀ b xs, H b = some (.tup xs) → H' b = some (.tup xs)) : ObjOk P w H' h' a o := by
  induction o with
  | lst xs => obtain ⟨z, its, n, r, e⟩ := x; exact ⟨z, its, n, r, k _ _ (.inl rfl) e⟩
  | tup xs => obtain ⟨z, its, r, ob, e, c⟩ := x; exact ⟨z, its, r, ob, k _ _ (.inl rfl) e, c⟩
  | dK kvs => obtain ⟨z, y, vs, r, ob, es, ep, e, c⟩ := x; exact ⟨z, y, vs, r, ob, es, ep, k _ _ (.inl rfl) e, c⟩
  | dT kvs =>
    obtain ⟨z, y, xs, r, ob, es, ep, e, c⟩ := x
    exact ⟨z, y, xs, Paired.mapP r fun p q z => ⟨z.1, ht _ _ z.2.1, z.2.2⟩, ob, es, ep, k _ _ (.inl rfl) e, c⟩
  | set S n => obtain ⟨ob, es, ep, t, e, c⟩ := x; exact ⟨ob, es, ep, t, k _ _ (.inl rfl) e, c⟩
  | ins C dx fs =>
    obtain ⟨d, z, ne, e, mA, ⟨od, es, ep, e2, c⟩, r⟩ := x
    exact ⟨ho _ d, z, ne, k _ _ (.inl rfl) e, mA, ⟨od, es, ep, k _ _ (.inr d) e2, c⟩, r⟩
  | own y => obtain ⟨ob, e⟩ := x; exact ⟨ob, k _ _ (.inl rfl) e⟩
  | xd fs => obtain ⟨mA, ⟨od, es, ep, e, c⟩, r⟩ := x; exact ⟨mA, ⟨od, es, ep, k _ _ (.inl rfl) e, c⟩, r⟩
  | rng lo hi => obtain ⟨t, u, v, e⟩ := x; exact ⟨t, u, v, k _ _ (.inl rfl) e⟩
  | frz ob u ih => obtain ⟨e, q⟩ := x; exact ⟨k _ _ (.inl rfl) e, ih q⟩
  | tbl ps =>
    have e : h.get? a = some { cls := .none, data := .fields ps } := x
    show h'.get? a = some { cls := .none, data := .fields ps }
    exact k a _ (.inl rfl) e
  | met f y =>
    have e : h.get? a = some (PySem.W.methodObj (.ref f) (.ref y)) := x
    show h'.get? a = some (PySem.W.methodObj (.ref f) (.ref y))
    exact k a _ (.inl rfl) e
  | ext φ => obtain ⟨p, ⟨o, e⟩, st⟩ := x; exact ⟨st _ _ p fun o q => k _ _ (.inl rfl) q, ⟨o, k _ _ (.inl rfl) e⟩, st⟩
theorem HOk.lt (x : HOk P w H h) (e : H a = some o) : a < h.objs.size := (x a o e).lt
theorem HOk.fresh (x : HOk P w H h) (e : h.objs.size ≤ a) : H a = none := by
 cases q : H a with
 | none => rfl
 | some u => exact absurd (Nat.lt_of_lt_of_le (x.lt q) e) (Nat.lt_irrefl _)
theorem HOk.kept (x : HOk P w H h) (k : ∀ b u, h.get? b = some u → h'.get? b = some u) : HOk P w H h' := fun a o e =>
 (x a o e).stay (fun b u _ q => k b u q) (fun _ q => q) fun _ _ q => q
theorem HOk.laid (x : HOk P w H h) (k : ∀ b u, h.get? b = some u → h'.get? b = some u) (hp : h.objs.size ≤ a) (new : ObjOk P w (upd H a o) h' a o) : HOk P w (upd H a o) h' := fun b u e => by
 have hn := x.fresh hp
 by_cases hb : b = a
 · subst hb; rw [upd_same] at e; cases e; exact new
 · rw [upd_ne hb] at e
   exact (x b u e).stay (fun c v _ q => k c v q) (fun c q => by rw [upd_ne (ne_of_none q hn)]; exact q) fun c xs q => by rw [upd_ne (ne_of_none q hn)]; exact q
end
def Rd (H : Hp) (a : Addr) (u : HO) : Prop := H a = some u ∨ ∃ o, H a = some (.frz o u)
theorem Rd.ok {P : Program} {w : World} {H : Hp} {h : Heap} {a : Addr} {u : HO} (r : Rd H a u) (x : HOk P w H h) : ObjOk P w H h a u := by
 rcases r with r | ⟨o, r⟩
 · exact x a u r
 · obtain ⟨_, q⟩ := x a _ r
   exact q
def Mut : Option HO → Prop
 | some (.lst _) => True
 | some (.dK _) => True
 | some (.dT _) => True
 | some (.set _ _) => True
 | some (.ins _ _ _) => True
 | some (.ext _) => True
 | _ => False
section
variable {P : Program} {w : World} {H : Hp} {h h' : Heap} {x e : Addr} {o' : HO}
theorem HOk.write (ok : HOk P w H h) (mu : Mut (H x)) (he : e = x ∨ H e = some (.own x)) (k : ∀ b u, b ≠ e → h.get? b = some u → h'.get? b = some u) (heo : ∃ u, h'.get? e = some u)
   (new : ObjOk P w (upd H x o') h' x o') : HOk P w (upd H x o') h' := fun b u q => by
 have nown : ∀ c y, H c = some (.own y) → c ≠ x := fun c y r z => by subst z; rw [r] at mu; exact mu
 have ntup : ∀ c xs, H c = some (.tup xs) → c ≠ x := fun c xs r z => by subst z; rw [r] at mu; exact mu
 by_cases hb : b = x
 · subst hb; rw [upd_same] at q; cases q; exact new
 · rw [upd_ne hb] at q
   by_cases hbe : b = e
   · have q' : H b = some (.own x) := by
       rcases he with z | z
       · exact absurd (hbe.trans z) hb
       · rw [hbe]; exact z
     rw [q] at q'; cases q'
     obtain ⟨v, hv⟩ := heo
     exact ⟨v, by rw [hbe]; exact hv⟩
   · refine (ok b u q).stay (fun c v hc r => k c v ?_ r) (fun c r => by rw [upd_ne (nown c b r)]; exact r) fun c xs r => by rw [upd_ne (ntup c xs r)]; exact r
     rcases hc with rfl | hc
     · exact hbe
     · rintro rfl
       rcases he with z | z
       · exact nown c b hc z
       · rw [hc] at z; cases z; exact hb rfl
end
structure Un (fs ex : List Addr) (H H' : Hp) (h h' : Heap) : Prop where
 keep : ∀ b o, h.get? b = some o → H b = none → b ∉ fs → b ∉ ex → h'.get? b = some o
 slot : ∀ b o, h.get? b = some o → H b = none → b ∈ fs → b ∉ ex → ∃ sl, h'.get? b = some { o with slots := sl }
 free : ∀ b o, h.get? b = some o → H b = none → b ∉ ex → H' b = none
 there : ∀ b o, h.get? b = some o → b ∉ ex → ∃ o', h'.get? b = some o'
 tups : ∀ b xs, H b = some (.tup xs) → H' b = some (.tup xs)
 frzs : ∀ b o u, H b = some (.frz o u) → H' b = some (.frz o u)
 tbls : ∀ b ps, H b = some (.tbl ps) → ∃ more, H' b = some (.tbl (ps ++ more))
section
variable {fs fs' ex ex' : List Addr} {H H1 H2 : Hp} {h h1 h2 h' : Heap} {a x e : Addr} {o : HO}
theorem Un.any (u : Un fs ex H H1 h h1) {b : Addr} {ob : Obj} (q : h.get? b = some ob) (n : H b = none) (hx : b ∉ ex) : ∃ sl, h1.get? b = some { ob with slots := sl } := by
 by_cases hb : b ∈ fs
 · exact u.slot b ob q n hb hx
 · exact ⟨ob.slots, u.keep b ob q n hb hx⟩
theorem Un.kept (k : ∀ b u, h.get? b = some u → h'.get? b = some u) : Un fs ex H H h h' :=
 ⟨fun b ob q _ _ _ => k b ob q, fun b ob q _ _ _ => ⟨ob.slots, k b ob q⟩, fun _ _ _ n _ => n, fun b ob q _ => ⟨ob, k b ob q⟩, fun _ _ q => q, fun _ _ _ q => q, fun _ ps q => ⟨#[], by rw [q]; simp⟩⟩
theorem Un.refl : Un fs ex H H h h := Un.kept fun _ _ q => q
theorem Un.laid (k : ∀ b u, h.get? b = some u → h'.get? b = some u) (hp : h.objs.size ≤ a) (hn : H a = none) : Un fs ex H (upd H a o) h h' where
 keep := fun b u q _ _ _ => k b u q
 slot := fun b u q _ _ _ => ⟨u.slots, k b u q⟩
 free := fun b u q n _ => by rw [upd_ne (Nat.ne_of_lt (Nat.lt_of_lt_of_le (Heap.lt_size q) hp))]; exact n
 there := fun b u q _ => ⟨u, k b u q⟩
 tups := fun b xs q => by rw [upd_ne (ne_of_none q hn)]; exact q
 frzs := fun b u xs q => by rw [upd_ne (ne_of_none q hn)]; exact q
 tbls := fun b ps q => ⟨#[], by rw [upd_ne (ne_of_none q hn), q]; simp⟩
theorem Un.write (mu : Mut (H x)) (he : e = x ∨ H e = some (.own x)) (k : ∀ b u, b ≠ e → h.get? b = some u → h'.get? b = some u) (heo : ∃ u, h'.get? e = some u) : Un fs ex H (upd H x o) h h' := by
 have hx : ∀ b, H b = none → b ≠ x := fun b n z => by subst z; rw [n] at mu; exact mu
 have hb : ∀ b, H b = none → b ≠ e := fun b n z => by
   subst z
   rcases he with r | r
   · exact hx b n r
   · rw [n] at r; cases r
 have hm : ∀ b u, H b = some u → ¬ Mut (some u) → b ≠ x := fun b u q nm z => by subst z; rw [q] at mu; exact nm mu
 refine ⟨fun b u q n _ _ => k b u (hb b n) q, fun b u q n _ _ => ⟨u.slots, k b u (hb b n) q⟩, fun b u q n _ => by rw [upd_ne (hx b n)]; exact n, fun b u q _ => ?_,
   fun b xs q => by rw [upd_ne (hm b _ q fun z => z)]; exact q, fun b u xs q => by rw [upd_ne (hm b _ q fun z => z)]; exact q, fun b ps q => ⟨#[], by rw [upd_ne (hm b _ q fun z => z), q]; simp⟩⟩
 by_cases hbe : b = e
 · subst hbe; exact heo
 · exact ⟨u, k b u hbe q⟩
end
def trk (h : Heap) (H : Hp) : List Addr := (List.range h.objs.size).filter fun a => (H a).isSome
def hidT (h : Heap) (H : Hp) : Heap := PySem.W.hideAll h (trk h H)
theorem hidT_size (h : Heap) (H : Hp) : (hidT h H).objs.size = h.objs.size := PySem.W.hideAll_size _ _
theorem hidT_get {h : Heap} {H : Hp} {b : Addr} {o : Obj} (e : h.get? b = some o) (n : H b = none) : (hidT h H).get? b = some o :=
 PySem.W.hideAll_get _ e fun hm => by
  have q : (H b).isSome = true := (List.mem_filter.mp hm).2
  rw [n] at q; simp at q
theorem of_hidT {h : Heap} {H : Hp} {b : Addr} {o : Obj} (e : (hidT h H).get? b = some o) : h.get? b = some o ∧ H b = none := by
  have e' : h.get? b = some o := PySem.W.of_hideAll (trk h H) e
  refine ⟨e', ?_⟩
  cases q : H b with
  | none => rfl
  | some x =>
    have hm : b ∈ trk h H := List.mem_filter.mpr ⟨List.mem_range.mpr (Heap.lt_size e'), by simp [q]⟩
    have z : (hidT h H).get? b = none := PySem.W.hideAll_none (trk h H) hm
    rw [z] at e; cases e
def allNews (g h : Heap) (L : Addr) : List (Addr × Obj) := (List.range h.objs.size).filterMap fun a => if a = L ∨ (g.get? a).isSome = true then none else (h.get? a).map fun o => (a, o)
def rest (g h : Heap) (L d : Addr) : List (Addr × Obj) := (allNews g h L).filter fun p => decide (p.1 ≠ d)
end L2
namespace L2
open PySem PySem.Spec PyProof.Rows
structure Mod (K : PySem.W.Frag) (mg : Str → Option Value) (base : Heap) : Prop where
 kin : K.In base
 glob : base.Ns mainGlobals mg
 blt : ∃ mb, base.Ns builtinsNs mb ∧ ∀ x : Str, x ≠ "__name__" → mb x = bootBuiltins x
 nolimit : base.NoLimit
set_option genInjectivity false in
set_option genSizeOf false in
structure Cx where
 prog : Program
 w : World
 K : PySem.W.Frag
 mg : Str → Option Value
 base : Heap
 A : Around
 N : List Str
 s₀ : Shared
 H₀ : Hp
 env : Env
 outer : List Env
 stack : List Env
 ex : List Addr
 fn : Str → Bool
 calm : Bool
 pn : List (Addr × Obj)
 xe : Value → Shared → Prop
def frs (l : List Env) : List Addr := l.filterMap (·.frame)
abbrev Cx.fs (X : Cx) : List Addr := frs X.outer
def Vis (sc : Scope) (x : Str) : Prop := sc.names.lookup x = some .local ∨ sc.names.lookup x = some .cell ∨ sc.names.lookup x = some .free
def Loc (sc : Scope) (x : Str) : Prop := sc.names.lookup x = some .local ∨ sc.names.lookup x = some .cell
def Look (env : Env) (h : Heap) (m : Str → Option Value) (x : Str) (u : Value) : Prop :=
 (env.kindOf x = some .local ∧ m x = some u) ∨ ((env.kindOf x = some .cell ∨ env.kindOf x = some .free) ∧ ∃ c, env.cells.lookup x = some c ∧ h.IsCell c (some u))
set_option genInjectivity false in
set_option genSizeOf false in
structure Cx.Ok (X : Cx) : Prop where
 mod : Mod X.K X.mg X.base
 kind : X.env.scope.kind = .function
 glob : X.env.globals = mainGlobals
 blt : X.env.builtins = builtinsNs
 above : X.s₀.heap.objs.size ≤ X.env.locals
 inj : ∀ x y c, X.env.cells.lookup x = some c → X.env.cells.lookup y = some c → x = y
 has : ∀ x, (X.env.kindOf x = some .cell ∨ X.env.kindOf x = some .free) → ∃ c, X.env.cells.lookup x = some c
 cab : ∀ x c, X.fn x = true → X.env.cells.lookup x = some c → X.s₀.heap.objs.size ≤ c
 hd : X.calm = true → X.A.handled = none
 frames : X.A.frames = some X.stack
 stk : X.stack = X.outer ∨ (X.stack = X.env :: X.outer ∧ X.env.frame = some X.env.locals)
 exf : ∀ b ∈ X.ex, b ≠ X.env.locals ∧ ∀ x c, X.env.cells.lookup x = some c → c ≠ b
 bs : ∀ b o, X.base.get? b = some o → X.s₀.heap.get? b = some o ∧ X.H₀ b = none
 bsz : X.base.objs.size ≤ X.s₀.heap.objs.size
 noex : ∀ b o, X.base.get? b = some o → b ∉ X.ex
 exfs : ∀ b ∈ X.ex, b ∉ X.fs
 funs : X.s₀.heap.FunFrames X.base X.outer
 frf : ∀ b ∈ X.fs, X.H₀ b = none
structure Inv (X : Cx) (pins : List (Addr × Obj)) (σ : List (Option V)) (H : Hp) (s : Shared) : Prop where
 ok : X.Ok
 os : s.os = X.s₀.os
 bare : AllBare s.gens
 base : Un X.fs X.ex X.H₀ H X.s₀.heap s.heap
 loc : ∃ m, s.heap.Ns X.env.locals m ∧ ∀ (i : Nat) (x : Str) (v : V), X.N[i]? = some x → σ[i]? = some (some v) → Vis X.env.scope x → ∃ u, RelV v u ∧ Look X.env s.heap m x u
 cell : ∀ x c, X.env.cells.lookup x = some c → ∃ v, s.heap.IsCell c v
 free : H X.env.locals = none
 freeC : ∀ x c, X.env.cells.lookup x = some c → H c = none
 pin : ∀ p ∈ X.pn ++ pins, s.heap.get? p.1 = some p.2 ∧ H p.1 = none ∧ p.1 ≠ X.env.locals ∧ p.1 ∉ X.fs ∧ ∀ v, p.2.data ≠ .cell v
 hok : HOk X.prog X.w H s.heap
 len : σ.length = X.N.length
section
variable {X : Cx} {pins : List (Addr × Obj)} {σ : List (Option V)} {H H' : Hp} {s : Shared} {h' : Heap}
theorem Cx.Ok.nofr (ok : X.Ok) {b : Addr} {o : Obj} (e : X.base.get? b = some o) : b ∉ X.fs := fun hb => by
 have := (ok.funs.mem hb).1
 rw [e] at this; cases this
theorem Inv.bs (I : Inv X pins σ H s) : ∀ b o, X.base.get? b = some o → s.heap.get? b = some o ∧ H b = none := fun b o e =>
 ⟨I.base.keep b o (I.ok.bs b o e).1 (I.ok.bs b o e).2 (I.ok.nofr e) (I.ok.noex b o e), I.base.free b o (I.ok.bs b o e).1 (I.ok.bs b o e).2 (I.ok.noex b o e)⟩
theorem Inv.bk (I : Inv X pins σ H s) : ∀ b o, X.base.get? b = some o → s.heap.get? b = some o := fun b o e => (I.bs b o e).1
theorem Inv.mod (I : Inv X pins σ H s) : Mod X.K X.mg X.base := I.ok.mod
theorem Inv.kIn (I : Inv X pins σ H s) : X.K.In s.heap := I.ok.mod.kin.keeps I.bk
theorem Inv.lt (I : Inv X pins σ H s) : X.env.locals < s.heap.objs.size := let ⟨_, hn, _⟩ := I.loc; hn.lt
theorem Inv.sz (I : Inv X pins σ H s) : X.s₀.heap.objs.size ≤ s.heap.objs.size := Nat.le_trans I.ok.above (Nat.le_of_lt I.lt)
theorem Inv.nofs (I : Inv X pins σ H s) {a : Addr} (h : s.heap.objs.size ≤ a) : a ∉ X.fs := fun hb => by
 obtain ⟨_, o, ho, _⟩ := I.ok.funs.mem hb
 exact absurd (Nat.lt_of_lt_of_le (Heap.lt_size ho) (Nat.le_trans I.sz h)) (Nat.lt_irrefl _)
theorem Inv.cne (I : Inv X pins σ H s) : ∀ x c, X.env.cells.lookup x = some c → c ≠ X.env.locals := fun x c e z => by
 obtain ⟨v, o, ho, hd⟩ := I.cell x c e
 obtain ⟨m, ⟨o', es, ep, ho', hd', _⟩, _⟩ := I.loc
 rw [z, ho'] at ho; cases ho; rw [hd'] at hd; cases hd
theorem Inv.funs (I : Inv X pins σ H s) : s.heap.FunFrames X.base X.outer := by
  have all : ∀ (l : List Env), (∀ b ∈ frs l, b ∈ X.fs) → X.s₀.heap.FunFrames X.base l → s.heap.FunFrames X.base l := by
    intro l
    induction l with
    | nil => intro _ _; trivial
    | cons env r ih =>
      intro hs hl
      obtain ⟨hk, ⟨L, o, hf, hn, ho, hd⟩, hr⟩ := hl
      have hL : L ∈ X.fs := hs L (by unfold frs; rw [List.filterMap_cons, hf]; exact List.mem_cons_self)
      obtain ⟨sl, e⟩ := I.base.slot L o ho (I.ok.frf L hL) hL fun z => I.ok.exfs L z hL
      exact ⟨hk, ⟨L, _, hf, hn, e, hd⟩, ih (fun b hb => hs b (by unfold frs; rw [List.filterMap_cons, hf]; exact List.mem_cons_of_mem _ hb)) hr⟩
  exact all X.outer (fun _ hb => hb) I.ok.funs
theorem Inv.stack (I : Inv X pins σ H s) : s.heap.FunFrames X.base X.stack := by
 rcases I.ok.stk with e | ⟨e, hf⟩
 · rw [e]; exact I.funs
 · rw [e]
   obtain ⟨m, hn, _⟩ := I.loc
   refine .cons (by rw [I.ok.kind]; decide) hf hn ?_ I.funs
   exact Heap.get?_none_of_le (Nat.le_trans I.ok.bsz I.ok.above)
theorem Inv.stkSub (I : Inv X pins σ H s) : ∀ b ∈ frs X.stack, b ∈ X.env.locals :: X.fs := fun b hb => by
 rcases I.ok.stk with e | ⟨e, hf⟩
 · rw [e] at hb; exact List.mem_cons_of_mem _ hb
 · rw [e] at hb
   unfold frs at hb
   rw [List.filterMap_cons, hf] at hb
   exact hb
theorem Inv.stkFree (I : Inv X pins σ H s) : ∀ b ∈ frs X.stack, H b = none := fun b hb => by
 rcases List.mem_cons.mp (I.stkSub b hb) with e | hb
 · rw [e]; exact I.free
 · obtain ⟨_, o, ho, _⟩ := I.ok.funs.mem hb
   exact I.base.free b o ho (I.ok.frf b hb) fun z => I.ok.exfs b z hb
theorem Inv.step {g' : Array GenState} {t' : Nat} {d' : Drawn} {ch : List Addr} (I : Inv X pins σ H s)
   (hch : ∀ b ∈ ch, (b ∈ X.ex ∨ X.s₀.heap.objs.size ≤ b) ∧ b ≠ X.env.locals ∧ (∀ x c, X.env.cells.lookup x = some c → c ≠ b) ∧ ∀ p ∈ X.pn ++ pins, p.1 ≠ b)
   (keep : ∀ b o, b ≠ X.env.locals → b ∉ X.fs → b ∉ ch → s.heap.get? b = some o → H b = none → h'.get? b = some o)
   (slot : ∀ b o, b ≠ X.env.locals → b ∈ X.fs → b ∉ ch → s.heap.get? b = some o → H b = none → ∃ sl, h'.get? b = some { o with slots := sl }) (free : ∀ b o, b ∉ ch → s.heap.get? b = some o → H b = none → H' b = none)
   (there : ∀ b o, b ∉ ch → s.heap.get? b = some o → ∃ o', h'.get? b = some o')
   (tups : ∀ b xs, H b = some (.tup xs) → H' b = some (.tup xs)) (frzs : ∀ b o u, H b = some (.frz o u) → H' b = some (.frz o u)) (tbls : ∀ b ps, H b = some (.tbl ps) → ∃ more, H' b = some (.tbl (ps ++ more)))
   (ns : ∀ m, s.heap.Ns X.env.locals m → h'.Ns X.env.locals m) (hok : HOk X.prog X.w H' h') (hg : AllBare g') :
   Inv X pins σ H' { s with heap := h', gens := g', drawn := d', toks := t' } := by
 have neL : ∀ b o, X.s₀.heap.get? b = some o → b ≠ X.env.locals := fun b o e => Nat.ne_of_lt (Nat.lt_of_lt_of_le (Heap.lt_size e) I.ok.above)
 have neC : ∀ b o, X.s₀.heap.get? b = some o → b ∉ X.ex → b ∉ ch := fun b o e hx hb => by
   rcases (hch b hb).1 with z | z
   · exact hx z
   · exact absurd (Nat.lt_of_lt_of_le (Heap.lt_size e) z) (Nat.lt_irrefl _)
 have cellK : ∀ x c, X.env.cells.lookup x = some c → ∀ v, s.heap.IsCell c v → h'.IsCell c v := fun x c e v ⟨o, ho, hd⟩ => by
   have nch : c ∉ ch := fun z => (hch c z).2.2.1 x c e rfl
   by_cases hc : c ∈ X.fs
   · obtain ⟨sl, q⟩ := slot c o (I.cne x c e) hc nch ho (I.freeC x c e)
     exact ⟨_, q, hd⟩
   · exact ⟨o, keep c o (I.cne x c e) hc nch ho (I.freeC x c e), hd⟩
 refine ⟨I.ok, I.os, hg, ⟨fun b o e n hb hx => ?_, fun b o e n hb hx => ?_, fun b o e n hx => ?_, fun b o e hx => ?_, fun b xs e => tups b xs (I.base.tups b xs e), fun b o xs e => frzs b o xs (I.base.frzs b o xs e), fun b ps e => ?_⟩, ?_, fun x c e => ?_, ?_, fun x c e => ?_, fun p hp => ?_, hok, I.len⟩
 · exact keep b o (neL b o e) hb (neC b o e hx) (I.base.keep b o e n hb hx) (I.base.free b o e n hx)
 · obtain ⟨sl, e1⟩ := I.base.slot b o e n hb hx
   obtain ⟨sl', e2⟩ := slot b _ (neL b o e) hb (neC b o e hx) e1 (I.base.free b o e n hx)
   exact ⟨sl', e2⟩
 · obtain ⟨o', e1⟩ := I.base.there b o e hx
   exact free b o' (neC b o e hx) e1 (I.base.free b o e n hx)
 · obtain ⟨o', e1⟩ := I.base.there b o e hx
   exact there b o' (neC b o e hx) e1
 · obtain ⟨m1, e1⟩ := I.base.tbls b ps e
   obtain ⟨m2, e2⟩ := tbls b _ e1
   exact ⟨m1 ++ m2, by rw [e2, Array.append_assoc]⟩
 · obtain ⟨m, hn, hl⟩ := I.loc
   refine ⟨m, ns m hn, fun i x v e1 e2 e3 => ?_⟩
   obtain ⟨u, r, l⟩ := hl i x v e1 e2 e3
   refine ⟨u, r, ?_⟩
   rcases l with l | ⟨k, c, e, z⟩
   · exact .inl l
   · exact .inr ⟨k, c, e, cellK x c e _ z⟩
 · obtain ⟨v, z⟩ := I.cell x c e
   exact ⟨v, cellK x c e v z⟩
 · obtain ⟨m, ⟨o, _, _, ho, _⟩, _⟩ := I.loc
   exact free _ o (fun z => (hch _ z).2.1 rfl) ho I.free
 · obtain ⟨v, o, ho, hd⟩ := I.cell x c e
   exact free c o (fun z => (hch c z).2.2.1 x c e rfl) ho (I.freeC x c e)
 · obtain ⟨e, n, ne, nf, d⟩ := I.pin p hp
   have nch : p.1 ∉ ch := fun z => (hch p.1 z).2.2.2 p hp rfl
   exact ⟨keep p.1 p.2 ne nf nch e n, free p.1 p.2 nch e n, ne, nf, d⟩
theorem Inv.un {t' : Nat} (I : Inv X pins σ H s) (u : Un X.fs [] H H' s.heap h') (hok : HOk X.prog X.w H' h') : Inv X pins σ H' { s with heap := h', toks := t' } := by
 obtain ⟨m, ⟨o, es, ep, ho, r⟩, _⟩ := id I.loc
 obtain ⟨sl, hL⟩ := u.any ho I.free (by simp)
 exact I.step (g' := s.gens) (d' := s.drawn) (ch := []) (fun _ z => nomatch z) (fun b o _ hb _ e n => u.keep b o e n hb (by simp)) (fun b o _ hb _ e n => u.slot b o e n hb (by simp)) (fun b o _ e n => u.free b o e n (by simp)) (fun b o _ e => u.there b o e (by simp)) u.tups u.frzs u.tbls (fun m' hm => by
  obtain ⟨o', es', ep', ho', r'⟩ := hm
  rw [ho] at ho'; cases ho'
  exact ⟨_, es', ep', hL, r'⟩) hok I.bare
theorem Inv.call {g' : Array GenState} {t' : Nat} {d' : Drawn} {ch : List Addr} (I : Inv X pins σ H s) (u : Un (frs X.stack) ch H H' s.heap h') (hok : HOk X.prog X.w H' h') (hg : AllBare g')
  (hch : ∀ b ∈ ch, (b ∈ X.ex ∨ X.s₀.heap.objs.size ≤ b) ∧ b ≠ X.env.locals ∧ (∀ x c, X.env.cells.lookup x = some c → c ≠ b) ∧ ∀ p ∈ X.pn ++ pins, p.1 ≠ b) :
  Inv X pins σ H' { s with heap := h', gens := g', drawn := d', toks := t' } := by
 obtain ⟨m, ⟨o, es, ep, ho, r⟩, _⟩ := id I.loc
 obtain ⟨sl, hL⟩ := u.any ho I.free fun z => (hch _ z).2.1 rfl
 exact I.step (ch := ch) hch (fun b o hL hb hc e n => u.keep b o e n (fun z => (List.mem_cons.mp (I.stkSub b z)).elim hL hb) hc) (fun b o _ _ hc e n => u.any e n hc) (fun b o hc e n => u.free b o e n hc) (fun b o hc e => u.there b o e hc) u.tups u.frzs u.tbls (fun m' hm => by
  obtain ⟨o', es', ep', ho', r'⟩ := hm
  rw [ho] at ho'; cases ho'
  exact ⟨_, es', ep', hL, r'⟩) hok hg
theorem Inv.turned {t' : Nat} {it : Addr} (I : Inv X pins σ H s) (k : ∀ b o, b ≠ it → s.heap.get? b = some o → h'.get? b = some o) (hn : H it = none) (hL : it ≠ X.env.locals)
   (h1 : it ∈ X.ex ∨ X.s₀.heap.objs.size ≤ it) (h2 : ∀ x c, X.env.cells.lookup x = some c → c ≠ it) (h3 : ∀ p ∈ X.pn ++ pins, p.1 ≠ it) : Inv X pins σ H { s with heap := h', toks := t' } := by
 have nit : ∀ b u, H b = some u → b ≠ it := fun b u e z => by rw [z, hn] at e; cases e
 refine I.step (g' := s.gens) (d' := s.drawn) (ch := [it]) (fun b hb => ?_) (fun b o _ _ hc e _ => k b o (fun z => hc (by simp [z])) e) (fun b o _ _ hc e _ => ⟨o.slots, k b o (fun z => hc (by simp [z])) e⟩) (fun _ _ _ _ n => n)
   (fun b o hc e => ⟨o, k b o (fun z => hc (by simp [z])) e⟩) (fun _ _ e => e) (fun _ _ _ e => e) (fun b ps e => ⟨#[], by rw [e]; simp⟩) (fun m hm => ?_) (fun b u e => ?_) I.bare
 · have e : b = it := by simpa using hb
   subst e
   exact ⟨h1, hL, h2, h3⟩
 · obtain ⟨o, es, ep, ho, r⟩ := hm
   exact ⟨o, es, ep, k _ o (Ne.symm hL) ho, r⟩
 · refine (I.hok b u e).stay (fun c v hc q => k c v ?_ q) (fun _ q => q) fun _ _ q => q
   rcases hc with z | z
   · rw [z]; exact nit b u e
   · exact nit c _ z
theorem Inv.tok (I : Inv X pins σ H s) (t : Nat) : Inv X pins σ H { s with toks := t } := I.un (h' := s.heap) (t' := t) Un.refl I.hok
theorem Inv.kept {t' : Nat} (I : Inv X pins σ H s) (k : ∀ b u, s.heap.get? b = some u → h'.get? b = some u) : Inv X pins σ H { s with heap := h', toks := t' } := I.un (Un.kept k) (I.hok.kept k)
theorem Inv.laid {a : Addr} {o : HO} {t' : Nat} (I : Inv X pins σ H s) (k : ∀ b u, s.heap.get? b = some u → h'.get? b = some u) (hp : s.heap.objs.size ≤ a) (new : ObjOk X.prog X.w (upd H a o) h' a o) :
 Inv X pins σ (upd H a o) { s with heap := h', toks := t' } := I.un (Un.laid k hp (I.hok.fresh hp)) (I.hok.laid k hp new)
theorem Inv.write {x e : Addr} {o : HO} {t' : Nat} (I : Inv X pins σ H s) (mu : Mut (H x)) (he : e = x ∨ H e = some (.own x)) (k : ∀ b u, b ≠ e → s.heap.get? b = some u → h'.get? b = some u) (heo : ∃ u, h'.get? e = some u)
 (new : ObjOk X.prog X.w (upd H x o) h' x o) : Inv X pins σ (upd H x o) { s with heap := h', toks := t' } := I.un (Un.write mu he k heo) (I.hok.write mu he k heo new)
theorem Inv.pins_of {pins' : List (Addr × Obj)} (I : Inv X pins σ H s) (h : ∀ p ∈ pins', s.heap.get? p.1 = some p.2 ∧ H p.1 = none ∧ p.1 ≠ X.env.locals ∧ p.1 ∉ X.fs ∧ ∀ v, p.2.data ≠ .cell v) : Inv X pins' σ H s :=
 ⟨I.ok, I.os, I.bare, I.base, I.loc, I.cell, I.free, I.freeC, fun p hp => (List.mem_append.mp hp).elim (fun z => I.pin p (List.mem_append_left _ z)) (h p), I.hok, I.len⟩
theorem nodup_ix {N : List Str} (hN : N.Nodup) {i j : Nat} {x : Str} (a : N[i]? = some x) (b : N[j]? = some x) : i = j := by
 obtain ⟨h1, e1⟩ := List.getElem?_eq_some_iff.mp a
 obtain ⟨h2, e2⟩ := List.getElem?_eq_some_iff.mp b
 exact (List.getElem_inj hN).mp (e1.trans e2.symm)
theorem store_ok2 {M : Model} {A : Around} {E : Value → Shared → Prop} {i : Nat} {x : Str} {v : V} {u : Value} {Q : Unit → Shared → Prop} (I : Inv X pins σ H s) (hN : X.N.Nodup) (hi : X.N[i]? = some x) (hx : Loc X.env.scope x) (r : RelV v u)
   (h : ∀ s', Inv X pins (σ.set i (some v)) H s' → (∃ a, Heap.SameBut a s.heap s'.heap ∧ (a = X.env.locals ∨ X.env.cells.lookup x = some a)) → Q () s') (hf : X.fn x = true ∨ X.env.scope.names.lookup x = some .local := by first | exact .inl rfl | exact .inr rfl | assumption) : wpAny M A (storeName X.env x u) Q E s := by
 obtain ⟨m, hn, hl⟩ := id I.loc
 have hcls : (X.env.scope.kind == .class || (X.env.scope.kind == .module && X.env.locals != X.env.globals)) = false := by rw [I.ok.kind]; rfl
 have hiσ : i < σ.length := by rw [I.len]; exact (List.getElem?_eq_some_iff.mp hi).1
 have cne := I.cne
 have tracked : ∀ {a : Addr} {h' : Heap}, (∃ o, s.heap.get? a = some o ∧ H a = none) → Heap.SameBut a s.heap h' → HOk X.prog X.w H h' := fun {a h'} ha hs b ob e => by
   obtain ⟨_, _, hfree⟩ := ha
   refine (I.hok b ob e).stay (fun c w' hc q => (hs.2 c ?_).trans q) (fun _ q => q) fun _ _ q => q
   rintro rfl
   rcases hc with rfl | hc
   · rw [hfree] at e; cases e
   · rw [hfree] at hc; cases hc
 rcases hx with hk | hk
 · refine wpAny_storeName_local hk hn (fun h' hn' hs => ?_) hcls
   obtain ⟨oL, _, _, hoL, _⟩ := id hn
   refine h _ ⟨I.ok, I.os, I.bare, ⟨fun b o e n hb hx => ?_, fun b o e n hb hx => ?_, I.base.free, fun b o e hx => ?_, I.base.tups, I.base.frzs, I.base.tbls⟩, ⟨_, hn', fun j y v' e1 e2 e3 => ?_⟩, fun y c e => ?_, I.free, I.freeC, fun p hp => ?_, tracked ⟨oL, hoL, I.free⟩ hs, by simpa using I.len⟩ ⟨_, hs, .inl rfl⟩
   · exact (hs.2 b (Nat.ne_of_lt (Nat.lt_of_lt_of_le (Heap.lt_size e) I.ok.above))).trans (I.base.keep b o e n hb hx)
   · obtain ⟨sl, e1⟩ := I.base.slot b o e n hb hx
     exact ⟨sl, (hs.2 b (Nat.ne_of_lt (Nat.lt_of_lt_of_le (Heap.lt_size e) I.ok.above))).trans e1⟩
   · obtain ⟨o', e1⟩ := I.base.there b o e hx
     exact ⟨o', (hs.2 b (Nat.ne_of_lt (Nat.lt_of_lt_of_le (Heap.lt_size e) I.ok.above))).trans e1⟩
   · by_cases hj : j = i
     · subst hj
       rw [hi] at e1; cases e1
       rw [List.getElem?_set_self hiσ] at e2
       cases e2
       exact ⟨u, r, .inl ⟨hk, by simp⟩⟩
     · rw [List.getElem?_set_ne (Ne.symm hj)] at e2
       obtain ⟨u', r', q⟩ := hl j y v' e1 e2 e3
       refine ⟨u', r', ?_⟩
       rcases q with ⟨k, e⟩ | ⟨k, c, e, z⟩
       · refine .inl ⟨k, ?_⟩
         have : y ≠ x := fun e => hj (nodup_ix hN e1 (e ▸ hi))
         simp [this, e]
       · exact .inr ⟨k, c, e, z.sameBut hs (cne y c e)⟩
   · obtain ⟨w', z⟩ := I.cell y c e
     exact ⟨w', z.sameBut hs (cne y c e)⟩
   · obtain ⟨e, n, ne, nf, d⟩ := I.pin p hp
     exact ⟨(hs.2 p.1 ne).trans e, n, ne, nf, d⟩
 · have hfn : X.fn x = true := by
     rcases hf with z | z
     · exact z
     · rw [z] at hk; cases hk
   obtain ⟨c, hc⟩ := I.ok.has x (.inl hk)
   obtain ⟨w', z⟩ := I.cell x c hc
   refine wpAny_storeName_cell I.ok.kind hk hc z (fun h' hc' hs => ?_)
   obtain ⟨oc, hoc, hocd⟩ := id z
   refine h { s with heap := h' } ⟨I.ok, I.os, I.bare, ⟨fun b o e n hb hx => ?_, fun b o e n hb hx => ?_, I.base.free, fun b o e hx => ?_, I.base.tups, I.base.frzs, I.base.tbls⟩, ⟨m, hn.sameBut hs (Ne.symm (cne x c hc)), fun j y v' e1 e2 e3 => ?_⟩, fun y c' e => ?_, I.free, I.freeC, fun p hp => ?_, tracked ⟨oc, hoc, I.freeC x c hc⟩ hs, by simpa using I.len⟩ ⟨c, hs, .inr hc⟩
   · exact (hs.2 b (Nat.ne_of_lt (Nat.lt_of_lt_of_le (Heap.lt_size e) (I.ok.cab x c hfn hc)))).trans (I.base.keep b o e n hb hx)
   · obtain ⟨sl, e1⟩ := I.base.slot b o e n hb hx
     exact ⟨sl, (hs.2 b (Nat.ne_of_lt (Nat.lt_of_lt_of_le (Heap.lt_size e) (I.ok.cab x c hfn hc)))).trans e1⟩
   · obtain ⟨o', e1⟩ := I.base.there b o e hx
     exact ⟨o', (hs.2 b (Nat.ne_of_lt (Nat.lt_of_lt_of_le (Heap.lt_size e) (I.ok.cab x c hfn hc)))).trans e1⟩
   · by_cases hj : j = i
     · subst hj
       rw [hi] at e1; cases e1
       rw [List.getElem?_set_self hiσ] at e2
       cases e2
       exact ⟨u, r, .inr ⟨.inl hk, c, hc, hc'⟩⟩
     · rw [List.getElem?_set_ne (Ne.symm hj)] at e2
       obtain ⟨u', r', q⟩ := hl j y v' e1 e2 e3
       refine ⟨u', r', ?_⟩
       rcases q with q | ⟨k, c', e, z'⟩
       · exact .inl q
       · refine .inr ⟨k, c', e, z'.sameBut hs ?_⟩
         rintro rfl
         exact hj (nodup_ix hN e1 (I.ok.inj _ _ _ e hc ▸ hi))
   · by_cases hcc : c' = c
     · subst hcc; exact ⟨_, hc'⟩
     · obtain ⟨w2, z2⟩ := I.cell y c' e
       exact ⟨w2, z2.sameBut hs hcc⟩
   · obtain ⟨e, n, ne, nf, d⟩ := I.pin p hp
     refine ⟨(hs.2 p.1 ?_).trans e, n, ne, nf, d⟩
     intro q
     rw [q, hoc] at e
     have q' : oc = p.2 := Option.some.inj e
     exact d w' (by rw [← q']; exact hocd)
theorem store_ok {M : Model} {A : Around} {E : Value → Shared → Prop} {i : Nat} {x : Str} {v : V} {u : Value} {Q : Unit → Shared → Prop} (I : Inv X pins σ H s) (hN : X.N.Nodup) (hi : X.N[i]? = some x) (hx : Loc X.env.scope x) (r : RelV v u)
  (h : ∀ s', Inv X pins (σ.set i (some v)) H s' → Q () s') (hf : X.fn x = true ∨ X.env.scope.names.lookup x = some .local := by first | exact .inl rfl | exact .inr rfl | assumption) : wpAny M A (storeName X.env x u) Q E s :=
 store_ok2 I hN hi hx r (fun s' I' _ => h s' I') hf
theorem Inv.call' {s' : Shared} {ch : List Addr} (I : Inv X pins σ H s) (ho : s'.os = s.os) (u : Un (frs X.stack) ch H H' s.heap s'.heap) (hok : HOk X.prog X.w H' s'.heap) (hg : AllBare s'.gens)
  (hch : ∀ b ∈ ch, (b ∈ X.ex ∨ X.s₀.heap.objs.size ≤ b) ∧ b ≠ X.env.locals ∧ (∀ x c, X.env.cells.lookup x = some c → c ≠ b) ∧ ∀ p ∈ X.pn ++ pins, p.1 ≠ b) : Inv X pins σ H' s' := by
 obtain ⟨h', g', d', t', o'⟩ := s'
 have e : o' = s.os := ho
 subst e
 exact I.call (g' := g') (t' := t') (d' := d') u hok hg hch
end
abbrev XK := Value → Option Addr → Hp → Prop
abbrev St := List (Option V)
abbrev VK := V → Hp → Prop
abbrev TE := St → Hp → VK → Prop
abbrev TT := St → Hp → (Bool → Hp → Prop) → Prop
abbrev TA := St → Hp → (List V → Hp → Prop) → Prop
structure Ends where
 nx : St → Hp → Prop
 rt : VK
 bk : St → Hp → Prop := fun _ _ => False
 ct : St → Hp → Prop := fun _ _ => False
abbrev TS := Ends → St → Hp → Prop
def EP (X : Cx) (pins : List (Addr × Obj)) (σ : St) (Q : VK) (u : Value) (s' : Shared) : Prop := ∃ v H', Inv X pins σ H' s' ∧ RelV v u ∧ Q v H'
def TP (X : Cx) (pins : List (Addr × Obj)) (σ : St) (Q : Bool → Hp → Prop) (b : Bool) (s' : Shared) : Prop := ∃ H', Inv X pins σ H' s' ∧ Q b H'
def AP (X : Cx) (pins : List (Addr × Obj)) (σ : St) (Q : List V → Hp → Prop) (us : List Value) (s' : Shared) : Prop := ∃ vs H', Inv X pins σ H' s' ∧ Vals vs us ∧ Q vs H'
def SP (X : Cx) (pins : List (Addr × Obj)) (D : Ends) (f : Flow) (s' : Shared) : Prop :=
 match f with
 | .next => ∃ σ' H', Inv X pins σ' H' s' ∧ D.nx σ' H'
 | .brk => ∃ σ' H', Inv X pins σ' H' s' ∧ D.bk σ' H'
 | .cont => ∃ σ' H', Inv X pins σ' H' s' ∧ D.ct σ' H'
 | .ret u => ∃ v σ' H', Inv X pins σ' H' s' ∧ RelV v u ∧ D.rt v H'
def PE (X : Cx) (e : Expr) (t : TE) : Prop :=
 ∀ (pins : List (Addr × Obj)) (s : Shared) (σ : St) (H : Hp) (Q : VK), Inv X pins σ H s → t σ H Q → wpAny (model X.prog X.w) X.A (eval e X.env) (EP X pins σ Q) X.xe s
def PT (X : Cx) (e : Expr) (t : TT) : Prop :=
 ∀ (pins : List (Addr × Obj)) (s : Shared) (σ : St) (H : Hp) (Q : Bool → Hp → Prop), Inv X pins σ H s → t σ H Q → wpAny (model X.prog X.w) X.A (isTrue e X.env (eval e X.env)) (TP X pins σ Q) X.xe s
def PW (X : Cx) (e : Expr) (t : TT) : Prop :=
 ∀ (whole : Sem Value) (pins : List (Addr × Obj)) (s : Shared) (σ : St) (H : Hp) (Q : Bool → Hp → Prop), Inv X pins σ H s → t σ H Q → wpAny (model X.prog X.w) X.A (isTrue e X.env whole) (TP X pins σ Q) X.xe s
theorem PW.pt {X : Cx} {e : Expr} {t : TT} (h : PW X e t) : PT X e t := h _
def PA (X : Cx) (es : List Expr) (t : TA) : Prop :=
 ∀ (pos : Pos) (pins : List (Addr × Obj)) (s : Shared) (σ : St) (H : Hp) (Q : List V → Hp → Prop), Inv X pins σ H s → t σ H Q → wpAny (model X.prog X.w) X.A (spliced (backTo pos (starEach es X.env))) (AP X pins σ Q) X.xe s
def PS (X : Cx) (st : Stmt) (t : TS) : Prop :=
 ∀ (pins : List (Addr × Obj)) (s : Shared) (σ : St) (H : Hp) (D : Ends), Inv X pins σ H s → t D σ H → wpAny (model X.prog X.w) X.A (exec st X.env) (SP X pins D) X.xe s
def PSs (X : Cx) (st : List Stmt) (t : TS) : Prop :=
 ∀ (pins : List (Addr × Obj)) (s : Shared) (σ : St) (H : Hp) (D : Ends), Inv X pins σ H s → t D σ H → wpAny (model X.prog X.w) X.A (execs st X.env) (SP X pins D) X.xe s
theorem thn {α : Type} {t : Sem α} {Q Q' : α → Shared → Prop} {M : Model} {A : Around} {E : Value → Shared → Prop} {s : Shared} (h : wpAny M A t Q E s) (hQ : ∀ a s, Q a s → Q' a s) : wpAny M A t Q' E s := wpAny_mono h hQ fun _ _ x => x
end L2
namespace L2
open PySem PySem.Spec PyProof.Rows
section
variable {X : Cx}
def tVar (i : Nat) : TE := fun σ H Q => ∃ v, σ[i]? = some (some v) ∧ Q v H
def tC (v : V) : TE := fun _ H Q => Q v H
theorem pe_var {i : Nat} {x : Str} {pos : Pos} (hN : X.N[i]? = some x) (hv : Vis X.env.scope x) (hd : (x == ("__debug__" : Str)) = false := by decide) (hcd : (x == ("__classdict__" : Str)) = false := by decide) : PE X (.Name x pos) (tVar i) := by
 intro pins s σ H Q I h
 obtain ⟨v, e, h⟩ := h
 obtain ⟨m, hn, hl⟩ := I.loc
 obtain ⟨u, r, l⟩ := hl i x v hN e hv
 have fin : EP X pins σ Q u s := ⟨v, H, I, r, h⟩
 rcases l with ⟨hk, hm⟩ | ⟨hk, c, hc, hcell⟩
 · exact wpAny_Name (wpAny_loadName_local I.ok.kind hk hn hm fin) hd
 · rcases hk with hk | hk
   · exact wpAny_Name (wpAny_loadName_cell I.ok.kind hk hc hcell fin) hd
   · exact wpAny_Name (wpAny_loadName_free I.ok.kind hk hc hcell fin hcd) hd
theorem pe_int {i j pos} : PE X (.Constant (.int i) j pos) (tC (.int i)) := fun _ _ _ H _ I h => wpAny_Constant_int ⟨.int i, H, I.tok _, ⟨_, rfl⟩, h⟩
theorem pe_bl {b j pos} : PE X (.Constant (.bool b) j pos) (tC (.bl b)) := fun _ _ _ H _ I h => Constant_bool ⟨.bl b, H, I, rfl, h⟩
theorem pe_non {j pos} : PE X (.Constant .none j pos) (tC .non) := fun _ _ _ H _ I h => Constant_none ⟨.non, H, I, rfl, h⟩
theorem pe_str {x j pos} : PE X (.Constant (.str x) j pos) (tC (.str x)) := fun _ _ _ H _ I h => Calls.Constant_str ⟨.str x, H, I.tok _, ⟨_, rfl⟩, h⟩
def Gl (X : Cx) (x : Str) : Prop := X.env.kindOf x = some .globalImplicit
theorem ld_glob {E : Value → Shared → Prop} {pins : List (Addr × Obj)} {s : Shared} {σ : St} {H : Hp} {x : Str} {u : Value} {pos : Pos} {Q : Value → Shared → Prop} (I : Inv X pins σ H s) (hg : Gl X x) (hm : X.mg x = some u) (h : Q u s)
  (hd : (x == ("__debug__" : Str)) = false := by decide) : wpAny (model X.prog X.w) X.A (eval (.Name x pos) X.env) Q E s :=
 Calls.Name_function_global I.ok.kind hg (Calls.loadGlobal_global (by rw [I.ok.glob]; exact I.mod.glob.keeps I.bk) hm h) hd
theorem ld_blt {E : Value → Shared → Prop} {pins : List (Addr × Obj)} {s : Shared} {σ : St} {H : Hp} {x : Str} {u : Value} {pos : Pos} {Q : Value → Shared → Prop} (I : Inv X pins σ H s) (hg : Gl X x) (hm : X.mg x = none) (hv : bootBuiltins x = some u) (h : Q u s)
  (hn : x ≠ "__name__" := by decide) (hd : (x == ("__debug__" : Str)) = false := by decide) : wpAny (model X.prog X.w) X.A (eval (.Name x pos) X.env) Q E s := by
 obtain ⟨mb, h1, h2⟩ := I.mod.blt
 exact Calls.Name_function_global I.ok.kind hg (Calls.loadGlobal_builtin (by rw [I.ok.glob]; exact I.mod.glob.keeps I.bk) hm (by rw [I.ok.blt]; exact h1.keeps I.bk) ((h2 x hn).trans hv) h) hd
theorem pe_glob {x : Str} {v : V} {u : Value} {pos : Pos} (hg : Gl X x) (hm : X.mg x = some u) (r : RelV v u) (hd : (x == ("__debug__" : Str)) = false := by decide) : PE X (.Name x pos) (tC v) :=
 fun _ _ _ H _ I h => ld_glob I hg hm ⟨v, H, I, r, h⟩ hd
theorem pe_bltn {x : Str} {v : V} {u : Value} {pos : Pos} (hg : Gl X x) (hm : X.mg x = none) (hv : bootBuiltins x = some u) (r : RelV v u) (hn : x ≠ "__name__" := by decide) (hd : (x == ("__debug__" : Str)) = false := by decide) : PE X (.Name x pos) (tC v) :=
 fun _ _ _ H _ I h => ld_blt I hg hm hv ⟨v, H, I, r, h⟩ hn hd
variable {a b : Expr} {ta tb : TE} {pos : Pos}
variable {tA tB' : TT} {rest : List Expr}
def tNot (t : TT) : TT := fun σ H Q => t σ H fun c H1 => Q (!c) H1
theorem pw_and1 (ha : PT X a tA) : PW X (.BoolOp .And [a] pos) tA := by
 intro wh pins s σ H Q I h
 refine isTrue_and (thn (ha pins s σ H Q I h) fun c s1 e => ?_)
 cases c with
 | true => exact isTrue_and_nil e
 | false => exact e
theorem pw_or1 (ha : PT X a tA) : PW X (.BoolOp .Or [a] pos) tA := by
 intro wh pins s σ H Q I h
 refine isTrue_or (thn (ha pins s σ H Q I h) fun c s1 e => ?_)
 cases c with
 | false => exact isTrue_or_nil e
 | true => exact e
theorem pt_not (ha : PT X a tA) : PT X (.UnaryOp .Not a pos) (tNot tA) := by
 intro pins s σ H Q I h
 exact isTrue_not (ha pins s σ H (fun c H1 => Q (!c) H1) I h)
theorem pe_one {op} {t : TE} (h : PE X a t) : PE X (.BoolOp op [a] pos) t := fun pins s σ H Q I hw => BoolOp_one (h pins s σ H Q I hw)
end
end L2
namespace L2
open PySem PySem.Spec PyProof.Rows
def SqL (K : PySem.W.Frag) (H : Hp) (a : Addr) (xs : List V) : Prop :=
 Rd H a (.lst xs) ∨
  ∃ (o : Obj) (its : Array Value) (n : Nat), K.lookup a = some o ∧ o.cls = .type "list" ∧ o.dict = none ∧ o.data = .seq its n ∧ its.size ≤ sizeLine ∧ Vals xs its.toList
def SqT (K : PySem.W.Frag) (H : Hp) (a : Addr) (xs : List V) : Prop :=
 Rd H a (.tup xs) ∨
  ∃ (o : Obj) (its : Array Value) (n : Nat), K.lookup a = some o ∧ o.cls = .type "tuple" ∧ o.data = .seq its n ∧ its.size ≤ sizeLine ∧ Vals xs its.toList
def absV : Value → Option V
 | .none => some .non
 | .bool b => some (.bl b)
 | .int i _ => some (.int i)
 | .str x _ => some (.str x)
 | .bytes b _ => some (.byt b)
 | .float b _ => some (.flt b)
 | .ref a => some (.ref a)
 | .type n => some (.ty n)
 | _ => none
theorem RelV.abs {x : V} {u : Value} (r : RelV x u) : absV u = some x := by
 cases x with
 | non => cases r; rfl
 | bl _ => cases r; rfl
 | int _ => obtain ⟨t, rfl⟩ := r; rfl
 | str _ => obtain ⟨t, rfl⟩ := r; rfl
 | byt _ => obtain ⟨t, rfl⟩ := r; rfl
 | flt _ => obtain ⟨t, rfl⟩ := r; rfl
 | ref _ => cases r; rfl
 | ty _ => cases r; rfl
theorem RelV.inj {x y : V} {u : Value} (r : RelV x u) (q : RelV y u) : x = y := Option.some.inj (r.abs.symm.trans q.abs)
theorem Vals.inj : ∀ {xs ys : List V} {us : List Value}, Vals xs us → Vals ys us → xs = ys
 | _, _, _, .nil, .nil => rfl
 | _, _, _, .cons r t, .cons r' t' => by rw [r.inj r', Vals.inj t t']
section
variable {X : Cx} {pins : List (Addr × Obj)} {σ : St} {H : Hp} {s : Shared} {a : Addr} {xs ys : List V}
theorem SqL.of {K : PySem.W.Frag} (h : H a = some (.lst xs)) : SqL K H a xs := .inl (.inl h)
theorem SqT.of {K : PySem.W.Frag} (h : H a = some (.tup xs)) : SqT K H a xs := .inl (.inl h)
theorem Inv.list (I : Inv X pins σ H s) (h : SqL X.K H a xs) : ∃ its : List Value, Vals xs its ∧ PlainL s.heap a its.toArray ∧ xs.length ≤ sizeLine := by
 rcases h with h | ⟨o, its, n, hk, hc, hd, hs, hz, r⟩
 · obtain ⟨z, its, n, r, e⟩ := h.ok I.hok
   exact ⟨its, r, ⟨_, n, e, rfl, rfl, rfl⟩, z⟩
 · refine ⟨its.toList, r, ⟨o, n, I.kIn a o hk, hc, hd, by simpa using hs⟩, ?_⟩
   have e := r.length
   simp only [Array.length_toList] at e
   omega
theorem Inv.tuple (I : Inv X pins σ H s) (h : SqT X.K H a xs) : ∃ its : List Value, Vals xs its ∧ IsTup s.heap a its.toArray ∧ xs.length ≤ sizeLine := by
 rcases h with h | ⟨o, its, n, hk, hc, hs, hz, r⟩
 · obtain ⟨z, its, r, p⟩ := h.ok I.hok
   exact ⟨its, r, p, z⟩
 · refine ⟨its.toList, r, ⟨o, I.kIn a o hk, hc, n, by simpa using hs⟩, ?_⟩
   have e := r.length
   simp only [Array.length_toList] at e
   omega
theorem Inv.list_inj (I : Inv X pins σ H s) (h : SqL X.K H a xs) (h' : SqL X.K H a ys) : xs = ys := by
 obtain ⟨its, r, ⟨o, n, e, _, _, d⟩, _⟩ := I.list h
 obtain ⟨its', r', ⟨o', n', e', _, _, d'⟩, _⟩ := I.list h'
 rw [e] at e'; cases e'
 rw [d] at d'
 injection d' with d1 _
 have : its = its' := by simpa using congrArg Array.toList d1
 subst this
 exact r.inj r'
theorem Inv.tuple_inj (I : Inv X pins σ H s) (h : SqT X.K H a xs) (h' : SqT X.K H a ys) : xs = ys := by
 obtain ⟨its, r, ⟨o, e, _, n, d⟩, _⟩ := I.tuple h
 obtain ⟨its', r', ⟨o', e', _, n', d'⟩, _⟩ := I.tuple h'
 rw [e] at e'; cases e'
 rw [d] at d'
 injection d' with d1 _
 have : its = its' := by simpa using congrArg Array.toList d1
 subst this
 exact r.inj r'
end
abbrev Cx.wish (X : Cx) (E : Value → Shared → Prop) : Cx := { X with xe := E }
abbrev Cx.nox (X : Cx) : Cx := X.wish fun _ _ => False
theorem Cx.Ok.wish {X : Cx} (ok : X.Ok) (E : Value → Shared → Prop) : (X.wish E).Ok :=
 ⟨ok.mod, ok.kind, ok.glob, ok.blt, ok.above, ok.inj, ok.has, ok.cab, ok.hd, ok.frames, ok.stk, ok.exf, ok.bs, ok.bsz, ok.noex, ok.exfs, ok.funs, ok.frf⟩
theorem Cx.Ok.unwish {X : Cx} {E : Value → Shared → Prop} (ok : (X.wish E).Ok) : X.Ok :=
 ⟨ok.mod, ok.kind, ok.glob, ok.blt, ok.above, ok.inj, ok.has, ok.cab, ok.hd, ok.frames, ok.stk, ok.exf, ok.bs, ok.bsz, ok.noex, ok.exfs, ok.funs, ok.frf⟩
section
variable {X : Cx} {pins : List (Addr × Obj)} {σ : St} {H : Hp} {s : Shared} {E : Value → Shared → Prop}
theorem Inv.wish (I : Inv X pins σ H s) (E : Value → Shared → Prop) : Inv (X.wish E) pins σ H s := ⟨I.ok.wish E, I.os, I.bare, I.base, I.loc, I.cell, I.free, I.freeC, I.pin, I.hok, I.len⟩
theorem Inv.unwish (I : Inv (X.wish E) pins σ H s) : Inv X pins σ H s := ⟨I.ok.unwish, I.os, I.bare, I.base, I.loc, I.cell, I.free, I.freeC, I.pin, I.hok, I.len⟩
theorem SP.unwish {D : Ends} {f : Flow} {s' : Shared} (h : SP (X.wish E) pins D f s') : SP X pins D f s' := by
 cases f with
 | next => obtain ⟨σ', H', I, q⟩ := h; exact ⟨σ', H', I.unwish, q⟩
 | brk => obtain ⟨σ', H', I, q⟩ := h; exact ⟨σ', H', I.unwish, q⟩
 | cont => obtain ⟨σ', H', I, q⟩ := h; exact ⟨σ', H', I.unwish, q⟩
 | ret u => obtain ⟨v, σ', H', I, r, q⟩ := h; exact ⟨v, σ', H', I.unwish, r, q⟩
theorem PSs.nox {st : List Stmt} {t : TS} (h : PSs X.nox st t) : PSs X st t := fun pins s σ H D I hw =>
 wpAny_mono (h pins s σ H D (I.wish _) hw) (fun _ _ q => q.unwish) fun _ _ z => False.elim z
end
section
variable {X : Cx} {st : Stmt} {rest : List Stmt} {t u : TS} {e : Expr} {te : TE} {pos : Pos}
def tNext : TS := fun D σ H => D.nx σ H
def tSeq (t u : TS) : TS := fun D σ H => t { D with nx := u D } σ H
theorem pss_nil : PSs X [] tNext := fun _ _ σ H _ I h => wpAny_execs_nil ⟨σ, H, I, h⟩
theorem pss_cons (h1 : PS X st t) (h2 : PSs X rest u) : PSs X (st :: rest) (tSeq t u) := by
  intro pins s σ H D I h
  refine wpAny_execs_cons (thn (h1 pins s σ H { D with nx := u D } I h) fun f s1 q => ?_)
  cases f with
  | next =>
    obtain ⟨σ', H', I', q⟩ := q
    exact h2 pins s1 σ' H' D I' q
  | ret v => exact q
  | brk => exact q
  | cont => exact q
theorem pss_one (h1 : PS X st t) : PSs X [st] t := by
 intro pins s σ H D I h
 refine wpAny_execs_cons (thn (h1 pins s σ H D I h) fun f s1 q => ?_)
 cases f with
 | next => exact wpAny_execs_nil q
 | ret v => exact q
 | brk => exact q
 | cont => exact q
theorem Inv.quiet {pins : List (Addr × Obj)} {σ : St} {H : Hp} {s : Shared} (I : Inv X pins σ H s) : interactive X.env = false := by simp [interactive, I.ok.kind]
def tDrop (te : TE) : TS := fun D σ H => te σ H fun _ H1 => D.nx σ H1
theorem ps_expr (he : PE X e te) (hs : swapsWith e none pos.line X.env = pure false := by rfl) : PS X (.Expr e pos) (tDrop te) := by
 intro pins s σ H D I h
 exact wpAny_Expr_any (thn (he pins s σ H _ I h) fun v s1 ⟨x, H1, I1, r1, q1⟩ => ⟨σ, H1, I1, q1⟩) I.quiet hs
def tRet (te : TE) : TS := fun D σ H => te σ H D.rt
theorem ps_ret (he : PE X e te) : PS X (.Return (some e) pos) (tRet te) := by
 intro pins s σ H D I h
 exact wpAny_Return_some (thn (he pins s σ H _ I h) fun v s1 ⟨x, H1, I1, r1, q1⟩ => ⟨x, σ, H1, I1, r1, q1⟩)
def tNever : TS := fun _ _ _ => False
theorem ps_never : PS X st tNever := fun _ _ _ _ _ _ h => h.elim
end
abbrev TG := V → St → Hp → (St → Hp → Prop) → Prop
abbrev TGs := List V → St → Hp → (St → Hp → Prop) → Prop
def PG (X : Cx) (target : Expr) (t : TG) : Prop :=
 ∀ (pins : List (Addr × Obj)) (s : Shared) (σ : St) (H : Hp) (v : V) (u : Value) (Q : St → Hp → Prop), Inv X pins σ H s → RelV v u → t v σ H Q →
  wpAny (model X.prog X.w) X.A (assign target X.env u) (fun _ s' => ∃ σ' H', Inv X pins σ' H' s' ∧ Q σ' H') X.xe s
def PGs (X : Cx) (ts : List Expr) (t : TGs) : Prop :=
 ∀ (pins : List (Addr × Obj)) (s : Shared) (σ : St) (H : Hp) (vs : List V) (us : List Value) (Q : St → Hp → Prop), Inv X pins σ H s → Vals vs us → t vs σ H Q →
  wpAny (model X.prog X.w) X.A (assignInOrder ((assignEach ts X.env).map (·.2)) us) (fun _ s' => ∃ σ' H', Inv X pins σ' H' s' ∧ Q σ' H') X.xe s
section
variable {X : Cx} {pos : Pos}
def gName (i : Nat) : TG := fun v σ H Q => Q (σ.set i (some v)) H
theorem pg_name {i : Nat} {x : Str} (hN : X.N.Nodup) (hi : X.N[i]? = some x) (hx : Loc X.env.scope x) (hf : X.fn x = true ∨ X.env.scope.names.lookup x = some .local := by first | exact .inl rfl | exact .inr rfl | assumption) : PG X (.Name x pos) (gName i) := by
 intro pins s σ H v u Q I r h
 exact wpAny_assign_Name (store_ok I hN hi hx r (fun s' I' => ⟨_, H, I', h⟩) hf)
def gNil : TGs := fun vs σ H Q => vs = [] ∧ Q σ H
def gCons (t : TG) (u : TGs) : TGs := fun vs σ H Q => ∃ v r, vs = v :: r ∧ t v σ H fun σ' H' => u r σ' H' Q
theorem pgs_nil : PGs X [] gNil := by
 intro pins s σ H vs us Q I r h
 obtain ⟨e, h⟩ := h
 subst e
 cases r
 exact assignInOrder_nil ⟨σ, H, I, h⟩
theorem pgs_cons {e : Expr} {es : List Expr} {t : TG} {u : TGs} (h1 : PG X e t) (h2 : PGs X es u)
    (hs : (assignEach (e :: es) X.env).map (·.2) = assign e X.env :: (assignEach es X.env).map (·.2) := by rfl) : PGs X (e :: es) (gCons t u) := by
  intro pins s σ H vs us Q I r h
  obtain ⟨v, vr, e1, h⟩ := h
  subst e1
  cases r with
  | cons r rr =>
    rw [hs]
    refine assignInOrder_cons (thn (h1 pins s σ H _ _ _ I r h) fun _ s1 ⟨σ1, H1, I1, q1⟩ => ?_)
    exact h2 pins s1 σ1 H1 _ _ Q I1 rr q1
def gTup (K : PySem.W.Frag) (n : Nat) (t : TGs) : TG := fun v σ H Q => ∃ a xs, v = .ref a ∧ SqT K H a xs ∧ xs.length = n ∧ t xs σ H Q
theorem pg_tup {es : List Expr} {k : Nat} {t : TGs} {n : Nat} (hc : X.calm = true) (h : PGs X es t)
  (hn : (assignEach es X.env).length = n := by rfl) (hst : (assignEach es X.env).findIdx? (·.1) = none := by rfl) : PG X (.Tuple es k pos) (gTup X.K n t) := by
 intro pins s σ H v u Q I r hw
 obtain ⟨a, xs, e1, hq, hl, hw⟩ := hw
 subst e1
 cases r
 obtain ⟨its, rv, ht, hz⟩ := I.tuple hq
 refine assign_Tuple_tuple (I.ok.hd hc) ht (by simp [hn, ← hl, rv.length]) hst fun h' hx => ?_
 have I1 : Inv X pins σ H { s with heap := h' } := I.kept (t' := s.toks) fun b o e => hx b o (Nat.ne_of_lt (Heap.lt_size e)) e
 exact h pins _ σ H xs _ Q I1 (by simpa using rv) hw
def tAsg (te : TE) (g : TG) : TS := fun D σ H => te σ H fun x H1 => g x σ H1 D.nx
theorem ps_asg {tg e : Expr} {te : TE} {g : TG} (he : PE X e te) (hg : PG X tg g) (hs : swapsWithSole [tg] e pos.line X.env = pure false := by rfl) (hw : swappedStores [tg] e X.env = pure none := by rfl)
  (h1 : (assignEach [tg] X.env).map (·.2) = [assign tg X.env] := by rfl) : PS X (.Assign [tg] e pos) (tAsg te g) := by
 intro pins s σ H D I h
 refine wpAny_Assign_stores (thn (he pins s σ H _ I h) fun v s1 ⟨x, H1, I1, r1, q1⟩ => ?_) hs hw
 rw [h1]
 exact thn (hg pins s1 σ H1 x v _ I1 r1 q1) fun _ s2 q => q
theorem ps_set {i : Nat} {x : Str} {e : Expr} {te : TE} {pos' : Pos} (hN : X.N.Nodup) (hi : X.N[i]? = some x) (hx : Loc X.env.scope x) (he : PE X e te) (hs : swapsWith e (some (.Name x pos')) pos.line X.env = pure false := by rfl) (hf : X.fn x = true ∨ X.env.scope.names.lookup x = some .local := by first | exact .inl rfl | exact .inr rfl | assumption) :
  PS X (.Assign [.Name x pos'] e pos) (tAsg te (gName i)) := by
 intro pins s σ H D I h
 refine wpAny_Assign_Name (thn (he pins s σ H _ I h) fun v s1 ⟨y, H1, I1, r1, q1⟩ => ?_) hs
 exact store_ok I1 hN hi hx r1 (fun s2 I2 => ⟨_, H1, I2, q1⟩) hf
def tPar (i j : Nat) (ta : TA) : TS := fun D σ H => ta σ H fun vs H1 => ∃ v w, vs = [v, w] ∧ D.nx ((σ.set i (some v)).set j (some w)) H1
theorem ps_par {i j : Nat} {x y : Str} {a b : Expr} {ta : TA} {px py pt : Pos} {kt k2 pt2} (hc : X.calm = true) (hN : X.N.Nodup) (hi : X.N[i]? = some x) (hj : X.N[j]? = some y) (hij : i ≠ j)
    (hx : X.env.scope.names.lookup x = some .local) (hy : X.env.scope.names.lookup y = some .local) (ha : PA X [a, b] ta)
    (hw : swappedStores [.Tuple [.Name x px, .Name y py] kt pt] (.Tuple [a, b] k2 pt2) X.env = pure (some [x, y]))
    (hs : swapsWithSole [.Tuple [.Name x px, .Name y py] kt pt] (.Tuple [a, b] k2 pt2) pos.line X.env = pure false := by rfl) :
    PS X (.Assign [.Tuple [.Name x px, .Name y py] kt pt] (.Tuple [a, b] k2 pt2) pos) (tPar i j ta) := by
  intro pins s σ H D I h
  rw [exec_Assign_arm]
  refine wpAny_bind (wpAny_standAt ?_)
  rw [hs]
  refine wpAny_bind (wpAny_pure ?_)
  rw [if_neg (by decide)]
  refine wpAny_bind (Tuple_ (thn (ha _ pins s σ H _ I h) fun us s1 ⟨vs, H1, I1, r1, q1⟩ => ?_))
  obtain ⟨v, w, e1, q1⟩ := q1
  subst e1
  obtain ⟨u1, u2, rfl, rv, rw'⟩ : ∃ u1 u2, us = [u1, u2] ∧ RelV v u1 ∧ RelV w u2 := by
    cases r1 with
    | cons p q =>
      cases q with
      | cons p' q' =>
        cases q'
        exact ⟨_, _, rfl, p, p'⟩
  refine wpAny_newObj_type ?_ (by show 2 ≤ sizeLine; decide)
  have I2 : Inv X pins σ H1 { s1 with heap := s1.heap.push { cls := .type "tuple", data := .seq [u1, u2].toArray } } := I1.kept (t' := s1.toks) fun b o e => Heap.get?_push_of_some _ e
  rw [hw]
  refine wpAny_bind (wpAny_pure ?_)
  show wpAny (model X.prog X.w) X.A (do rule "assign.swapped-stores"; let items ← unpackItems (.ref s1.heap.objs.size) 2 none; assignInOrder [fun v => bindName X.env y v, fun v => bindName X.env x v] items.reverse; pure Flow.next) _ _ _
  refine wpAny_bind (wpAny_rule (wpAny_bind (unpackItems_tuple (items := #[u1, u2]) (I.ok.hd hc) (IsTup.new s1.heap _) fun h' hx' => ?_)))
  have I3 := I2.kept (h' := h') (t' := s1.toks) fun b o e => hx' b o (Nat.ne_of_lt (Heap.lt_size e)) e
  show wpAny _ _ (assignInOrder [fun v => bindName X.env y v, fun v => bindName X.env x v] [u2, u1] >>= fun _ => pure Flow.next) _ _ _
  refine wpAny_bind (assignInOrder_cons (wpAny_bindName (store_ok I3 hN hj (.inl hy) rw' (fun s2 I4 => ?_) (.inr hy))))
  refine assignInOrder_cons (wpAny_bindName (store_ok I4 hN hi (.inl hx) rv (fun s3 I5 => assignInOrder_nil (wpAny_pure ?_)) (.inr hx)))
  rw [List.set_comm _ _ (Ne.symm hij)] at I5
  exact ⟨_, H1, I5, q1⟩
end
section
variable {X : Cx} {pos : Pos}
end
structure It where
 go : Nat → Hp → Prop
 yld : Nat → Hp → V → Hp → Prop
 stop : Nat → Hp → Prop
def FpOk (X : Cx) (pins : List (Addr × Obj)) (H : Hp) (b : Addr) : Prop :=
 H b = none ∧ b ≠ X.env.locals ∧ b ∉ X.fs ∧ (b ∈ X.ex ∨ X.s₀.heap.objs.size ≤ b) ∧ (∀ x c, X.env.cells.lookup x = some c → c ≠ b) ∧ ∀ p ∈ X.pn ++ pins, p.1 ≠ b
theorem Inv.fpOk {X : Cx} {pins : List (Addr × Obj)} {σ : St} {H H' : Hp} {s : Shared} {b : Addr} (I : Inv X pins σ H s) (hb : s.heap.objs.size ≤ b) (hn : H' b = none) : FpOk X pins H' b := by
 refine ⟨hn, Nat.ne_of_gt (Nat.lt_of_lt_of_le I.lt hb), I.nofs hb, .inr (Nat.le_trans I.sz hb), fun x c e z => ?_, fun p hp z => ?_⟩
 · obtain ⟨v, q⟩ := I.cell x c e
   exact absurd (Nat.lt_of_lt_of_le q.lt (by rw [z]; exact hb)) (Nat.lt_irrefl _)
 · exact absurd (Nat.lt_of_lt_of_le (Heap.lt_size (I.pin p hp).1) (by rw [z]; exact hb)) (Nat.lt_irrefl _)
structure Turn (P : Program) (w : World) (K : PySem.W.Frag) (tg : Expr) (J : It) (fp : List Addr) (it : Addr) (tn : Nat → Heap → Prop) : Prop where
 mem : it ∈ fp
 obj : ∀ i h, tn i h → ∀ b ∈ fp, ∃ o, h.get? b = some o ∧ ∀ v, o.data ≠ .cell v
 keep : ∀ i h h', tn i h → (∀ b ∈ fp, ∀ o, h.get? b = some o → h'.get? b = some o) → tn i h'
 item : ∀ (X : Cx), X.prog = P → X.w = w → X.K = K → X.calm = true → ∀ (i : Nat) (pins : List (Addr × Obj)) (s : Shared) (σ : St) (H : Hp) (E : Value → Shared → Prop), Inv X pins σ H s → (∀ b ∈ fp, FpOk X pins H b) → tn i s.heap → J.go i H →
  wpAny (model P w) X.A (pyNext (.ref it)) (fun r s1 => ∃ u, r = some u ∧
   wpAny (model P w) X.A (letOwnedTupleGo tg (.ref it) u) (fun _ s2 => ∃ x H', Inv X pins σ H' s2 ∧ RelV x u ∧ J.yld i H x H' ∧ tn (i + 1) s2.heap ∧ ∀ b ∈ fp, H' b = none) E s1) E s
 done : ∀ (X : Cx), X.prog = P → X.w = w → X.K = K → X.calm = true → ∀ (i : Nat) (pins : List (Addr × Obj)) (s : Shared) (σ : St) (H : Hp) (E : Value → Shared → Prop), Inv X pins σ H s → (∀ b ∈ fp, FpOk X pins H b) → tn i s.heap → J.stop i H →
  wpAny (model P w) X.A (pyNext (.ref it)) (fun r s1 => r = none ∧ Inv X pins σ H s1) E s
 self : ∀ (A : Around) (i : Nat) (s : Shared) (Q : Value → Shared → Prop) (E : Value → Shared → Prop), tn i s.heap → Q (.ref it) s → wpAny (model P w) A (pyIter (.ref it)) Q E s
abbrev TI := St → Hp → (It → Hp → Prop) → Prop
def PIE (X : Cx) (pins : List (Addr × Obj)) (σ : St) (tg : Expr) (R : It → Hp → Prop) (itv : Value) (s2 : Shared) : Prop :=
 ∃ (it : Addr) (fp : List Addr) (tn : Nat → Heap → Prop) (J : It) (H' : Hp), itv = .ref it ∧ Inv X pins σ H' s2 ∧ Turn X.prog X.w X.K tg J fp it tn ∧ tn 0 s2.heap ∧ (∀ b ∈ fp, FpOk X pins H' b) ∧ R J H'
def PI (X : Cx) (tg iter : Expr) (wi : TI) : Prop :=
 ∀ (pins : List (Addr × Obj)) (s : Shared) (σ : St) (H : Hp) (R : It → Hp → Prop), Inv X pins σ H s → wi σ H R →
  wpAny (model X.prog X.w) X.A (eval iter X.env) (fun v s1 => wpAny (model X.prog X.w) X.A (pyIter v) (PIE X pins σ tg R) X.xe s1) X.xe s
theorem go_of {M : Model} {A : Around} {E : Value → Shared → Prop} {s : Shared} {tg : Expr} {it : Addr} {u : Value} {o : Obj} {n : String} {vs : Array Value} {Q : Unit → Shared → Prop} (ho : s.heap.get? it = some o) (hc : o.cls = .type n) (hd : o.data = .fields vs)
    (hn : ["enumerate", "zip", "dict_itemiterator", "dict_reverseitemiterator", "odict_iterator", "itertools.zip_longest", "itertools.pairwise"].contains n = false) (hQ : Q () s) : wpAny M A (letOwnedTupleGo tg (.ref it) u) Q E s := by
  unfold letOwnedTupleGo
  cases tg <;> first
    | exact wpAny_pure hQ
    | (cases u <;> first
        | exact wpAny_pure hQ
        | (refine wpAny_bind (wpAny_load ho ?_)
           rw [hc, hd]
           show wpAny M A (if (["enumerate", "zip", "dict_itemiterator", "dict_reverseitemiterator", "odict_iterator", "itertools.zip_longest", "itertools.pairwise"].contains n && vs[0]? == some (rawInt _)) = true then _ else _) Q E s
           rw [if_neg (by intro h; rw [hn, Bool.false_and] at h; cases h)]
           exact wpAny_pure hQ))
def Itl (K : PySem.W.Frag) (a : Addr) : It :=
 ⟨fun i H => ∃ xs x, SqL K H a xs ∧ xs[i]? = some x, fun i H x H' => H' = H ∧ ∀ xs, SqL K H a xs → xs[i]? = some x, fun i H => ∃ xs, SqL K H a xs ∧ xs.length ≤ i⟩
def Itt (K : PySem.W.Frag) (a : Addr) : It :=
 ⟨fun i H => ∃ xs x, SqT K H a xs ∧ xs[i]? = some x, fun i H x H' => H' = H ∧ ∀ xs, SqT K H a xs → xs[i]? = some x, fun i H => ∃ xs, SqT K H a xs ∧ xs.length ≤ i⟩
def Itr (lo : Int) (n : Nat) : It := ⟨fun i _ => i < n, fun i H x H' => H' = H ∧ x = .int (lo + i), fun i _ => n ≤ i⟩
theorem turn_list {P : Program} {w : World} {K : PySem.W.Frag} {tg : Expr} (a it : Addr) : Turn P w K tg (Itl K a) [it] it (fun i h => h.IsListIter it a i) where
 mem := by simp
 obj := fun i h st b hb => by
  have e : b = it := by simpa using hb
  subst e
  obtain ⟨o, e, c, d⟩ := st
  exact ⟨o, e, fun v z => by rw [d] at z; cases z⟩
 keep := fun i h h' st k => st.at fun o e => k it (by simp) o e
 item := by
  intro X hP hw hK hc i pins s σ H E I hf st hg
  subst hP hw hK
  obtain ⟨xs, x, hq, hx⟩ := hg
  obtain ⟨its, rv, p, hz⟩ := I.list hq
  obtain ⟨u, hu, ru⟩ := rv.get hx
  obtain ⟨f0, f1, f2, f3, f4, f5⟩ := hf it (by simp)
  refine wpAny_pyNext_list_item st p.isList (x := u) (by simpa using hu) fun h' st' sb => ?_
  have I1 : Inv X pins σ H { s with heap := h' } := I.turned (t' := s.toks) (fun b o hb e => (sb.2 b hb).trans e) f0 f1 f3 f4 f5
  obtain ⟨o, e, c, d⟩ := id st'
  exact ⟨u, rfl, go_of (s := { s with heap := h' }) e c d (by decide) ⟨x, H, I1, ru, ⟨rfl, fun ys hy => by rw [I.list_inj hy hq]; exact hx⟩, st', fun b hb => (hf b hb).1⟩⟩
 done := by
  intro X hP hw hK hc i pins s σ H E I hf st hg
  subst hP hw hK
  obtain ⟨xs, hq, hx⟩ := hg
  obtain ⟨its, rv, p, hz⟩ := I.list hq
  obtain ⟨f0, f1, f2, f3, f4, f5⟩ := hf it (by simp)
  have hl := rv.length
  exact wpAny_pyNext_list_end (I.ok.hd hc) st p.isList (by simp; omega) fun h' eb => ⟨rfl, I.turned (t' := s.toks) (fun b o hb e => eb b o hb e) f0 f1 f3 f4 f5⟩
 self := fun _ _ _ _ _ st h => wpAny_pyIter_listiter st h
theorem turn_tuple {P : Program} {w : World} {K : PySem.W.Frag} {tg : Expr} (a it : Addr) : Turn P w K tg (Itt K a) [it] it (fun i h => h.IsTupleIter it a i) where
 mem := by simp
 obj := fun i h st b hb => by
  have e : b = it := by simpa using hb
  subst e
  obtain ⟨o, e, c, d⟩ := st
  exact ⟨o, e, fun v z => by rw [d] at z; cases z⟩
 keep := fun i h h' st k => st.at fun o e => k it (by simp) o e
 item := by
  intro X hP hw hK hc i pins s σ H E I hf st hg
  subst hP hw hK
  obtain ⟨xs, x, hq, hx⟩ := hg
  obtain ⟨its, rv, p, hz⟩ := I.tuple hq
  obtain ⟨u, hu, ru⟩ := rv.get hx
  obtain ⟨f0, f1, f2, f3, f4, f5⟩ := hf it (by simp)
  refine wpAny_pyNext_tuple_item st (show s.heap.IsTuple a its.toArray from p) (x := u) (by simpa using hu) fun h' st' sb => ?_
  have I1 : Inv X pins σ H { s with heap := h' } := I.turned (t' := s.toks) (fun b o hb e => (sb.2 b hb).trans e) f0 f1 f3 f4 f5
  obtain ⟨o, e, c, d⟩ := id st'
  exact ⟨u, rfl, go_of (s := { s with heap := h' }) e c d (by decide) ⟨x, H, I1, ru, ⟨rfl, fun ys hy => by rw [I.tuple_inj hy hq]; exact hx⟩, st', fun b hb => (hf b hb).1⟩⟩
 done := by
  intro X hP hw hK hc i pins s σ H E I hf st hg
  subst hP hw hK
  obtain ⟨xs, hq, hx⟩ := hg
  obtain ⟨its, rv, p, hz⟩ := I.tuple hq
  obtain ⟨f0, f1, f2, f3, f4, f5⟩ := hf it (by simp)
  have hl := rv.length
  exact wpAny_pyNext_tuple_end (I.ok.hd hc) st (show s.heap.IsTuple a its.toArray from p) (by simp; omega) fun h' eb => ⟨rfl, I.turned (t' := s.toks) (fun b o hb e => eb b o hb e) f0 f1 f3 f4 f5⟩
 self := fun _ _ _ _ _ st h => wpAny_pyIter_tupleiter st h
theorem turn_range {P : Program} {w : World} {K : PySem.W.Frag} {tg : Expr} (it : Addr) (lo : Int) (n : Nat) : Turn P w K tg (Itr lo n) [it] it (fun i h => IsRangeIter h it (lo + (i : Nat) * 1) ((n : Int) - (i : Nat)) 1) where
 mem := by simp
 obj := fun i h st b hb => by
  have e : b = it := by simpa using hb
  subst e
  exact ⟨_, st, fun v z => by
   have z' : Data.fields _ = Data.cell v := z
   cases z'⟩
 keep := fun i h h' st k => k it (by simp) _ st
 item := by
  intro X hP hw hK hc i pins s σ H E I hf st hg
  subst hP hw hK
  obtain ⟨f0, f1, f2, f3, f4, f5⟩ := hf it (by simp)
  have W := Walks.range (prog := X.prog) (w := X.w) (I.ok.hd hc) it lo 1 n
  refine W.item i s _ _ hg st fun v h' tk hv st' kk => ?_
  obtain ⟨t, rfl⟩ := hv
  have I1 : Inv X pins σ H { s with heap := h', toks := tk } := I.turned (fun b o hb e => kk b o (by simpa using hb) e) f0 f1 f3 f4 f5
  refine ⟨_, rfl, go_of (s := { s with heap := h', toks := tk }) (n := "range_iterator") st' rfl rfl (by decide) ⟨.int (lo + i), H, I1, ⟨t, ?_⟩, ⟨rfl, rfl⟩, st', fun b hb => (hf b hb).1⟩⟩
  rw [Int.mul_one]
 done := by
  intro X hP hw hK hc i pins s σ H E I hf st hg
  subst hP hw hK
  obtain ⟨f0, f1, f2, f3, f4, f5⟩ := hf it (by simp)
  exact wpAny_pyNext_range_end (I.ok.hd hc) st (by have : n ≤ i := hg; omega) fun h' eb => ⟨rfl, I.turned (t' := s.toks) (fun b o hb e => eb b o hb e) f0 f1 f3 f4 f5⟩
 self := fun _ _ _ _ _ st h => wpAny_pyIter_rangeiter st h
end L2
namespace L2
open PySem PySem.Spec PyProof.Rows
section
variable {X : Cx} {tg : Expr}
theorem range_it {pins : List (Addr × Obj)} {σ : St} {H : Hp} {s : Shared} {R : It → Hp → Prop} {E : Value → Shared → Prop} {lo hi : Int} {t u v : Tok} {tk : Nat} (I : Inv X pins σ H s) (h1 : -(2 ^ 62) ≤ lo) (h2 : lo < 2 ^ 62) (h3 : -(2 ^ 62) ≤ hi) (h4 : hi < 2 ^ 62)
   (q : R (Itr lo (hi - lo).toNat) H) : wpAny (model X.prog X.w) X.A (pyIter (.ref s.heap.objs.size)) (PIE X pins σ tg R) E { s with heap := s.heap.push { cls := .type "range", data := .fields #[.int lo t, .int hi u, .int 1 v] }, toks := tk } := by
 refine wpAny_pyIter_range (IsRange.new ..) (small_one h1 h2 h3 h4) ?_
 have I1 : Inv X pins σ H { s with heap := s.heap.push { cls := .type "range", data := .fields #[.int lo t, .int hi u, .int 1 v] }, toks := tk } := I.kept fun b o e => Heap.get?_push_of_some _ e
 refine ⟨(s.heap.push { cls := .type "range", data := .fields #[.int lo t, .int hi u, .int 1 v] }).objs.size, [(s.heap.push { cls := .type "range", data := .fields #[.int lo t, .int hi u, .int 1 v] }).objs.size], _, _, H, rfl,
   I1.kept (t' := tk) fun b o e => Heap.get?_push_of_some _ e, turn_range _ lo (hi - lo).toNat, ?_, fun b hb => ?_, q⟩
 · have e1 : lo + ((0 : Nat) : Int) * 1 = lo := by simp
   have e2 : (((hi - lo).toNat : Nat) : Int) - ((0 : Nat) : Int) = Builtin.Range.rangeSize lo hi 1 := by rw [rangeSize_one]; split <;> omega
   show IsRangeIter _ _ (lo + ((0 : Nat) : Int) * 1) ((((hi - lo).toNat : Nat) : Int) - ((0 : Nat) : Int)) 1
   rw [e1, e2]
   exact Heap.get?_push_size _ rfl
 · have e : b = (s.heap.push { cls := .type "range", data := .fields #[.int lo t, .int hi u, .int 1 v] }).objs.size := by simpa using hb
   subst e
   exact I1.fpOk (Nat.le_refl _) (I1.hok.fresh (Nat.le_refl _))
def iRng1 (ta : TA) : TI := fun σ H R => ta σ H fun vs H1 => ∃ j : Int, vs = [.int j] ∧ -(2 ^ 62) ≤ j ∧ j < 2 ^ 62 ∧ R (Itr 0 j.toNat) H1
theorem pi_range1 {a : Expr} {ta : TA} {p pos : Pos} (hg : Gl X "range") (hm : X.mg "range" = none) (ha : PA X [a] ta) (hs : starEach [a] X.env = [(false, eval a X.env)] := by rfl) : PI X tg (.Call (.Name "range" p) [a] [] pos) (iRng1 ta) := by
  intro pins s σ H R I h
  refine Call_ (ld_blt I hg hm boot_range (PyProof.Rows.callWith_type1 (thn (ha pos pins s σ H _ I h) fun us s1 ⟨vs, H1, I1, r1, q1⟩ => ?_) hs rfl))
  obtain ⟨j, e, q1, q2, q⟩ := q1
  subst e
  cases r1 with
  | cons r rr =>
    cases rr
    obtain ⟨t, rfl⟩ := r
    exact call_range_1 (range_it I1 (by omega) (by omega) q1 q2 (by simpa using q))
def tFor (wi : TI) (g : TG) (tb : TS) : TS := fun D σ H => wi σ H fun J H1 => ∃ W : Nat → Nat → St → Hp → Prop, (∃ m, W 0 m σ H1) ∧ ∀ i m σ H, W i m σ H →
 (J.stop i H ∧ D.nx σ H) ∨ (J.go i H ∧ ∃ N : St → Hp → Prop, (∀ σ' H', N σ' H' → ∃ m', m' < m ∧ W (i + 1) m' σ' H') ∧ ∀ x H', J.yld i H x H' → g x σ H' fun σ2 H2 => tb { D with nx := N, ct := N, bk := D.nx } σ2 H2)
def pinsAt (fp : List Addr) (h : Heap) : List (Addr × Obj) := fp.filterMap fun b => (h.get? b).map fun o => (b, o)
theorem mem_pinsAt {fp : List Addr} {h : Heap} {b : Addr} {o : Obj} (hb : b ∈ fp) (e : h.get? b = some o) : (b, o) ∈ pinsAt fp h := List.mem_filterMap.mpr ⟨b, hb, by rw [e]; rfl⟩
theorem of_pinsAt {fp : List Addr} {h : Heap} {p : Addr × Obj} (hp : p ∈ pinsAt fp h) : p.1 ∈ fp ∧ h.get? p.1 = some p.2 := by
  obtain ⟨b, hb, e⟩ := List.mem_filterMap.mp hp
  cases q : h.get? b with
  | none => rw [q] at e; cases e
  | some o =>
    rw [q] at e
    have e' : (b, o) = p := Option.some.inj e
    subst e'
    exact ⟨hb, q⟩
theorem Inv.pinned {pins : List (Addr × Obj)} {σ : St} {H : Hp} {s : Shared} {fp : List Addr} (I : Inv X pins σ H s) (hf : ∀ b ∈ fp, FpOk X pins H b) (ho : ∀ b ∈ fp, ∃ o, s.heap.get? b = some o ∧ ∀ v, o.data ≠ .cell v) : Inv X (pins ++ pinsAt fp s.heap) σ H s :=
 I.pins_of fun p hp => (List.mem_append.mp hp).elim (fun z => I.pin p (List.mem_append_right _ z)) fun z => by
  obtain ⟨hb, e⟩ := of_pinsAt z
  obtain ⟨f0, f1, f2, _⟩ := hf p.1 hb
  obtain ⟨o, e', d⟩ := ho p.1 hb
  rw [e] at e'; cases e'
  exact ⟨e, f0, f1, f2, d⟩
theorem Inv.unpinned {pins pl : List (Addr × Obj)} {σ : St} {H : Hp} {s : Shared} (I : Inv X (pins ++ pl) σ H s) : Inv X pins σ H s := I.pins_of fun p hp => I.pin p (List.mem_append_right _ (List.mem_append_left _ hp))
theorem ps_for {iter : Expr} {body : List Stmt} {wi : TI} {g : TG} {tb : TS} {pos : Pos} (hp : PassesOwn (model X.prog X.w) X.A X.env X.xe) (hc : X.calm = true) (hi : PI X tg iter wi) (hg : PG X tg g) (hb : PSs X body tb)
   (hs : ∀ x, foldedSetIterable iter X.env x = pure x := by intro _; rfl) : PS X (.For tg iter body [] pos) (tFor wi g tb) := by
 intro pins s σ H D I h
 refine wpAny_For (thn (hi pins s σ H _ I h) fun v s1 h1 => thn h1 fun itv s2 h2 => ?_) hs
 obtain ⟨it, fp, tn, J, H2, e, I2, T, st2, f2, W, ⟨m0, w0⟩, turn⟩ := h2
 subst e
 have stat : ∀ {H' : Hp}, (∀ b ∈ fp, H' b = none) → ∀ b ∈ fp, FpOk X pins H' b := fun hn b hb => ⟨hn b hb, (f2 b hb).2⟩
 refine codeAny_forLoop_any (fun n s' => ∃ i σ' H', Inv X pins σ' H' s' ∧ tn i s'.heap ∧ (∀ b ∈ fp, H' b = none) ∧ W i n σ' H') ?_ m0 ⟨0, σ, H2, I2, st2, fun b hb => (f2 b hb).1, w0⟩
 rintro n s3 ⟨i, σ3, H3, I3, st3, fr3, w3⟩
 rcases turn i n σ3 H3 w3 with ⟨stop, qn⟩ | ⟨go, N, hN, step⟩
 · refine wpAny_passesOwn hp (thn (T.done X rfl rfl rfl hc i pins s3 σ3 H3 X.xe I3 (stat fr3) st3 stop) fun r s4 ⟨hr, I4⟩ => ?_)
   subst hr
   exact wpAny_execs_nil ⟨σ3, H3, I4, qn⟩
 · refine wpAny_passesOwn hp (thn (T.item X rfl rfl rfl hc i pins s3 σ3 H3 X.xe I3 (stat fr3) st3 go) fun r s4 ⟨u, hr, h4⟩ => ?_)
   subst hr
   refine wpAny_passesOwn hp (thn h4 fun _ s5 ⟨x, H5, I5, r5, y5, st5, fr5⟩ => ?_)
   have I5' := I5.pinned (stat fr5) (T.obj _ _ st5)
   refine wpAny_passesOwn hp (thn (hg _ s5 σ3 H5 x u _ I5' r5 (step x H5 y5)) fun _ s6 ⟨σ6, H6, I6, q6⟩ => ?_)
   refine wpAny_passesOwn hp (thn (hb _ s6 σ6 H6 _ I6 q6) fun f s7 q7 => ?_)
   have again : ∀ {σ7 : St} {H7 : Hp}, Inv X (pins ++ pinsAt fp s5.heap) σ7 H7 s7 → N σ7 H7 → ∃ m, m < n ∧ ∃ i σ' H', Inv X pins σ' H' s7 ∧ tn i s7.heap ∧ (∀ b ∈ fp, H' b = none) ∧ W i m σ' H' := fun {σ7 H7} I7 n7 => by
    obtain ⟨m', hm, w7⟩ := hN σ7 H7 n7
    refine ⟨m', hm, i + 1, σ7, H7, I7.unpinned, T.keep _ _ _ st5 fun b hb o e => (I7.pin (b, o) (List.mem_append_right _ (List.mem_append_right _ (mem_pinsAt hb e)))).1, fun b hb => ?_, w7⟩
    obtain ⟨o, e, d⟩ := T.obj _ _ st5 b hb
    exact (I7.pin (b, o) (List.mem_append_right _ (List.mem_append_right _ (mem_pinsAt hb e)))).2.1
   cases f with
   | next => obtain ⟨σ7, H7, I7, n7⟩ := q7; exact again I7 n7
   | cont => obtain ⟨σ7, H7, I7, n7⟩ := q7; exact again I7 n7
   | brk => obtain ⟨σ7, H7, I7, q7⟩ := q7; exact ⟨σ7, H7, I7.unpinned, q7⟩
   | ret v => obtain ⟨x7, σ7, H7, I7, r7, q7⟩ := q7; exact ⟨x7, σ7, H7, I7.unpinned, r7, q7⟩
end
theorem for_list {K : PySem.W.Frag} {a : Addr} {xs : List V} {g : TG} {tb : TS} {D : Ends} {σ : St} {H : Hp} (Pv : Nat → St → Hp → Prop) (h0 : Pv 0 σ H) (hl : ∀ i σ H, i ≤ xs.length → Pv i σ H → SqL K H a xs)
   (hs : ∀ i x σ H, xs[i]? = some x → Pv i σ H → g x σ H fun σ2 H2 => tb { D with nx := Pv (i + 1), ct := Pv (i + 1), bk := D.nx } σ2 H2) (hd : ∀ σ H, Pv xs.length σ H → D.nx σ H) :
   ∃ W : Nat → Nat → St → Hp → Prop, (∃ m, W 0 m σ H) ∧ ∀ i m σ H, W i m σ H →
    ((Itl K a).stop i H ∧ D.nx σ H) ∨ ((Itl K a).go i H ∧ ∃ N : St → Hp → Prop, (∀ σ' H', N σ' H' → ∃ m', m' < m ∧ W (i + 1) m' σ' H') ∧ ∀ x H', (Itl K a).yld i H x H' → g x σ H' fun σ2 H2 => tb { D with nx := N, ct := N, bk := D.nx } σ2 H2) := by
 refine ⟨fun i m σ H => m = xs.length - i ∧ i ≤ xs.length ∧ Pv i σ H, ⟨xs.length, by simp, Nat.zero_le _, h0⟩, ?_⟩
 rintro i m σ H ⟨rfl, hi, p⟩
 have q := hl i σ H hi p
 by_cases hlt : i < xs.length
 · refine .inr ⟨⟨xs, xs[i], q, by simp [hlt]⟩, Pv (i + 1), fun σ' H' p' => ⟨xs.length - (i + 1), by omega, rfl, hlt, p'⟩, fun x H' y => ?_⟩
   obtain ⟨e, y⟩ := y
   subst e
   exact hs i x σ _ (y xs q) p
 · have e : i = xs.length := by omega
   subst e
   exact .inl ⟨⟨xs, q, Nat.le_refl _⟩, hd σ H p⟩
theorem for_range {lo : Int} {n : Nat} {g : TG} {tb : TS} {D : Ends} {σ : St} {H : Hp} (Pv : Nat → St → Hp → Prop) (h0 : Pv 0 σ H)
   (hs : ∀ i σ H, i < n → Pv i σ H → g (.int (lo + i)) σ H fun σ2 H2 => tb { D with nx := Pv (i + 1), ct := Pv (i + 1), bk := D.nx } σ2 H2) (hd : ∀ σ H, Pv n σ H → D.nx σ H) :
   ∃ W : Nat → Nat → St → Hp → Prop, (∃ m, W 0 m σ H) ∧ ∀ i m σ H, W i m σ H →
    ((Itr lo n).stop i H ∧ D.nx σ H) ∨ ((Itr lo n).go i H ∧ ∃ N : St → Hp → Prop, (∀ σ' H', N σ' H' → ∃ m', m' < m ∧ W (i + 1) m' σ' H') ∧ ∀ x H', (Itr lo n).yld i H x H' → g x σ H' fun σ2 H2 => tb { D with nx := N, ct := N, bk := D.nx } σ2 H2) := by
 refine ⟨fun i m σ H => m = n - i ∧ i ≤ n ∧ Pv i σ H, ⟨n, by simp, Nat.zero_le _, h0⟩, ?_⟩
 rintro i m σ H ⟨rfl, hi, p⟩
 by_cases hlt : i < n
 · refine .inr ⟨hlt, Pv (i + 1), fun σ' H' p' => ⟨n - (i + 1), by omega, rfl, hlt, p'⟩, fun x H' y => ?_⟩
   obtain ⟨e, y⟩ := y
   subst e y
   exact hs i σ _ hlt p
 · have e : i = n := by omega
   subst e
   exact .inl ⟨Nat.le_refl _, hd σ H p⟩
end L2
namespace L2
open PySem PySem.Spec PyProof.Rows
abbrev R2 := V → V → Hp → VK → Prop
def OpR (X : Cx) (f : Value → Value → Sem Value) (r : R2) : Prop :=
 ∀ (pins : List (Addr × Obj)) (s : Shared) (σ : St) (H : Hp) (x y : V) (v u : Value) (Q : VK), Inv X pins σ H s → RelV x v → RelV y u → r x y H Q →
  wpAny (model X.prog X.w) X.A (f v u) (EP X pins σ Q) X.xe s
def UnR (X : Cx) (f : Value → Sem Value) (r : V → Hp → VK → Prop) : Prop :=
 ∀ (pins : List (Addr × Obj)) (s : Shared) (σ : St) (H : Hp) (x : V) (v : Value) (Q : VK), Inv X pins σ H s → RelV x v → r x H Q →
  wpAny (model X.prog X.w) X.A (f v) (EP X pins σ Q) X.xe s
def CallR (X : Cx) (f : Value) (r : List V → Hp → VK → Prop) : Prop :=
 ∀ (pins : List (Addr × Obj)) (s : Shared) (σ : St) (H : Hp) (xs : List V) (us : List Value) (Q : VK), Inv X pins σ H s → Vals xs us → r xs H Q →
  wpAny (model X.prog X.w) X.A (call f us) (EP X pins σ Q) X.xe s
def TruR (X : Cx) (r : V → Hp → (Bool → Hp → Prop) → Prop) : Prop :=
 ∀ (pins : List (Addr × Obj)) (s : Shared) (σ : St) (H : Hp) (x : V) (v : Value) (Q : Bool → Hp → Prop), Inv X pins σ H s → RelV x v → r x H Q →
  wpAny (model X.prog X.w) X.A (truthy v) (TP X pins σ Q) X.xe s
def tOp (r : R2) (ta tb : TE) : TE := fun σ H Q => ta σ H fun x H1 => tb σ H1 fun y H2 => r x y H2 Q
def tUn (r : V → Hp → VK → Prop) (ta : TE) : TE := fun σ H Q => ta σ H fun x H1 => r x H1 Q
def rI (C : Int → Int → Prop) (g : Int → Int → V) : R2 := fun x y H Q => ∃ i j, x = .int i ∧ y = .int j ∧ C i j ∧ Q (g i j) H
def rI0 (g : Int → Int → V) : R2 := fun x y H Q => ∃ i j, x = .int i ∧ y = .int j ∧ Q (g i j) H
def rU (g : Int → V) : V → Hp → VK → Prop := fun x H Q => ∃ i, x = .int i ∧ Q (g i) H
section
variable {X : Cx} {a b c : Expr} {ta tb tc : TE} {pos : Pos}
theorem binT (ha : PE X a ta) (hb : PE X b tb) {pins : List (Addr × Obj)} {s : Shared} {σ : St} {H : Hp} {R : V → V → Hp → Prop} (I : Inv X pins σ H s)
  (h : ta σ H fun x H1 => tb σ H1 fun y H2 => R x y H2) {Q : Value → Shared → Prop} {f : Value → Value → Sem Value}
  (hf : ∀ v u s2 x y H2, Inv X pins σ H2 s2 → RelV x v → RelV y u → R x y H2 → wpAny (model X.prog X.w) X.A (f v u) Q X.xe s2) :
  wpAny (model X.prog X.w) X.A (eval a X.env) (fun v s₁ => wpAny (model X.prog X.w) X.A (eval b X.env) (fun u s₂ => wpAny (model X.prog X.w) X.A (f v u) Q X.xe s₂) X.xe s₁) X.xe s := by
 refine thn (ha pins s σ H _ I h) fun v s1 ⟨x, H1, I1, r1, q1⟩ => ?_
 refine thn (hb pins s1 σ H1 _ I1 q1) fun u s2 ⟨y, H2, I2, r2, q2⟩ => ?_
 exact hf v u s2 x y H2 I2 r1 r2 q2
theorem pe_op {op : Operator} {r : R2} (ho : OpR X (binaryOp op) r) (ha : PE X a ta) (hb : PE X b tb) : PE X (.BinOp a op b pos) (tOp r ta tb) := by
 intro pins s σ H Q I h
 exact wpAny_BinOp (binT ha hb I h fun v u s2 x y H2 I2 rx ry q => ho pins s2 σ H2 x y v u Q I2 rx ry q)
theorem pe_un {op : UnaryOp} {r : V → Hp → VK → Prop} (ho : UnR X (unaryOp op) r) (ha : PE X a ta) : PE X (.UnaryOp op a pos) (tUn r ta) := by
 intro pins s σ H Q I h
 exact UnaryOp_ (thn (ha pins s σ H _ I h) fun v s1 ⟨x, H1, I1, r1, q1⟩ => ho pins s1 σ H1 x v Q I1 r1 q1)
theorem opI {f : Value → Value → Sem Value} {C : Int → Int → Prop} {g : Int → Int → Int}
  (rule : ∀ (i j : Int) (t u : Tok) (s : Shared) (Q : Value → Shared → Prop) (E : Value → Shared → Prop), C i j → Q (.int (g i j) s.toks) { s with toks := s.toks + 1 } → wpAny (model X.prog X.w) X.A (f (.int i t) (.int j u)) Q E s) :
  OpR X f (rI C fun i j => .int (g i j)) := by
 intro pins s σ H x y v u Q I rx ry h
 obtain ⟨i, j, rfl, rfl, hc, q⟩ := h
 obtain ⟨t, rfl⟩ := rx
 obtain ⟨t', rfl⟩ := ry
 exact rule i j t t' s _ _ hc ⟨.int (g i j), H, I.tok _, ⟨_, rfl⟩, q⟩
theorem opI0 {f : Value → Value → Sem Value} {g : Int → Int → Int}
  (rule : ∀ (i j : Int) (t u : Tok) (s : Shared) (Q : Value → Shared → Prop) (E : Value → Shared → Prop), Q (.int (g i j) s.toks) { s with toks := s.toks + 1 } → wpAny (model X.prog X.w) X.A (f (.int i t) (.int j u)) Q E s) :
  OpR X f (rI0 fun i j => .int (g i j)) := by
 intro pins s σ H x y v u Q I rx ry h
 obtain ⟨i, j, rfl, rfl, q⟩ := h
 obtain ⟨t, rfl⟩ := rx
 obtain ⟨t', rfl⟩ := ry
 exact rule i j t t' s _ _ ⟨.int (g i j), H, I.tok _, ⟨_, rfl⟩, q⟩
theorem opB0 {f : Value → Value → Sem Value} {g : Int → Int → Bool}
  (rule : ∀ (i j : Int) (t u : Tok) (s : Shared) (Q : Value → Shared → Prop) (E : Value → Shared → Prop), Q (.bool (g i j)) s → wpAny (model X.prog X.w) X.A (f (.int i t) (.int j u)) Q E s) :
  OpR X f (rI0 fun i j => .bl (g i j)) := by
 intro pins s σ H x y v u Q I rx ry h
 obtain ⟨i, j, rfl, rfl, q⟩ := h
 obtain ⟨t, rfl⟩ := rx
 obtain ⟨t', rfl⟩ := ry
 exact rule i j t t' s _ _ ⟨.bl (g i j), H, I, rfl, q⟩
def CPow (i j : Int) : Prop := 0 ≤ j ∧ j ≤ 1000000 ∧ i.natAbs < 2 ^ 64
theorem two_pow_nn (k : Nat) : (0 : Int) ≤ 2 ^ k := by
 rw [two_pow_cast]
 exact Int.natCast_nonneg _
theorem op_add : OpR X (binaryOp .Add) (rI0 fun i j => .int (i + j)) := opI0 fun _ _ _ _ _ _ _ q => add_int q
theorem op_sub : OpR X (binaryOp .Sub) (rI0 fun i j => .int (i - j)) := opI0 fun _ _ _ _ _ _ _ q => sub_int q
theorem op_mod : OpR X (binaryOp .Mod) (rI (fun _ j => 0 < j) fun i j => .int (i % j)) := opI fun i j _ _ _ _ _ hc q => by
 have h1 : (0 : Int) < j := hc
 exact mod_int' (by omega) (by rw [Int.fmod_eq_emod_of_nonneg i (by omega)]; exact q)
theorem op_pow : OpR X (binaryOp .Pow) (rI CPow fun i j => .int (i ^ j.toNat)) := opI fun _ _ _ _ _ _ _ hc q => pow_int_small hc.1 hc.2.1 hc.2.2 q
theorem op_shl : OpR X (binaryOp .LShift) (rI CPow fun i j => .int (i * 2 ^ j.toNat)) := opI fun _ _ _ _ _ _ _ hc q => lshift_int_small hc.1 hc.2.1 hc.2.2 q
theorem op_shr : OpR X (binaryOp .RShift) (rI (fun _ j => 0 ≤ j) fun i j => .int (i / 2 ^ j.toNat)) := opI fun i j _ _ _ _ _ hc q =>
 rshift_int hc (by rw [Int.fdiv_eq_ediv_of_nonneg i (two_pow_nn _)]; exact q)
theorem op_xor : OpR X (binaryOp .BitXor) (rI0 fun i j => .int (Builtin.bitXor i j)) := opI0 fun _ _ _ _ _ _ _ q => xor_int q
theorem unI {f : Value → Sem Value} {g : Int → Int}
  (rule : ∀ (i : Int) (t : Tok) (s : Shared) (Q : Value → Shared → Prop) (E : Value → Shared → Prop), Q (.int (g i) s.toks) { s with toks := s.toks + 1 } → wpAny (model X.prog X.w) X.A (f (.int i t)) Q E s) :
  UnR X f (rU fun i => .int (g i)) := by
 intro pins s σ H x v Q I rx h
 obtain ⟨i, rfl, q⟩ := h
 obtain ⟨t, rfl⟩ := rx
 exact rule i t s _ _ ⟨.int (g i), H, I.tok _, ⟨_, rfl⟩, q⟩
theorem un_neg : UnR X (unaryOp .USub) (rU fun i => .int (-i)) := unI fun _ _ _ _ _ q => neg_int q
end
def scal : V → V → Bool
 | .non, .non => true | .non, .int _ => true | .int _, .non => true | .non, .bl _ => true | .bl _, .non => true | .non, .str _ => true | .str _, .non => true
 | .int _, .int _ => true | .bl _, .bl _ => true | .str _, .str _ => true | .byt _, .byt _ => true
 | .int _, .str _ => true | .str _, .int _ => true | .bl _, .str _ => true | .str _, .bl _ => true
 | _, _ => false
def rEq : R2 := fun x y H Q => scal x y = true ∧ Q (.bl (decide (x = y))) H
def rNe : R2 := fun x y H Q => scal x y = true ∧ Q (.bl (!decide (x = y))) H
theorem dec_int {i j : Int} : decide (V.int i = V.int j) = (i == j) := by
 rw [Bool.eq_iff_iff]
 simp
theorem dec_bl {i j : Bool} : decide (V.bl i = V.bl j) = (i == j) := by
 rw [Bool.eq_iff_iff]
 simp
theorem dec_str {i j : Str} : decide (V.str i = V.str j) = (i == j) := by
 rw [Bool.eq_iff_iff]
 simp
theorem dec_byt {i j : Array UInt8} : decide (V.byt i = V.byt j) = (i.toList == j.toList) := by
 rw [Bool.eq_iff_iff]
 cases i
 cases j
 simp
section
variable {X : Cx} {a b c : Expr} {ta tb tc : TE} {pos : Pos}
theorem fin_bl {pins : List (Addr × Obj)} {σ : St} {H : Hp} {s : Shared} {Q : VK} {k k' : Bool} (I : Inv X pins σ H s) (q : Q (.bl k) H) (e : k = k') : EP X pins σ Q (.bool k') s := by
 subst e
 exact ⟨.bl k, H, I, rfl, q⟩
theorem op_eq : OpR X (compareOp .Eq) rEq := by
  intro pins s σ H x y v u Q I rx ry h
  obtain ⟨hs, q⟩ := h
  cases x with
  | non =>
    cases rx
    cases y with
    | non => cases ry; exact PySem.EqNone.eq_none_none (fin_bl I q (by simp))
    | bl j => cases ry; exact PySem.EqNone.eq_none_bool (fin_bl I q (by simp))
    | int j => obtain ⟨t', rfl⟩ := ry; exact PySem.EqNone.eq_none_int (fin_bl I q (by simp))
    | str j => obtain ⟨t', rfl⟩ := ry; exact PySem.EqNone.eq_none_str (fin_bl I q (by simp))
    | _ => exact absurd (show false = true from hs) Bool.false_ne_true
  | bl i =>
    cases rx
    cases y with
    | non => cases ry; exact PySem.EqNone.eq_bool_none (fin_bl I q (by simp))
    | bl j => cases ry; exact eq_bool (fin_bl I q dec_bl)
    | str j => obtain ⟨t', rfl⟩ := ry; exact PySem.EqMixed.eq_bool_str (fin_bl I q (by simp))
    | _ => exact absurd (show false = true from hs) Bool.false_ne_true
  | int i =>
    obtain ⟨t, rfl⟩ := rx
    cases y with
    | non => cases ry; exact PySem.EqNone.eq_int_none (fin_bl I q (by simp))
    | int j => obtain ⟨t', rfl⟩ := ry; exact eq_int (fin_bl I q dec_int)
    | str j => obtain ⟨t', rfl⟩ := ry; exact PySem.EqMixed.eq_int_str (fin_bl I q (by simp))
    | _ => exact absurd (show false = true from hs) Bool.false_ne_true
  | str i =>
    obtain ⟨t, rfl⟩ := rx
    cases y with
    | non => cases ry; exact PySem.EqNone.eq_str_none (fin_bl I q (by simp))
    | bl j => cases ry; exact PySem.EqMixed.eq_str_bool (fin_bl I q (by simp))
    | int j => obtain ⟨t', rfl⟩ := ry; exact PySem.EqMixed.eq_str_int (fin_bl I q (by simp))
    | str j => obtain ⟨t', rfl⟩ := ry; exact eq_str (fin_bl I q dec_str)
    | _ => exact absurd (show false = true from hs) Bool.false_ne_true
  | byt i =>
    obtain ⟨t, rfl⟩ := rx
    cases y with
    | byt j => obtain ⟨t', rfl⟩ := ry; exact PySem.W.eq_bytes (fin_bl I q dec_byt)
    | _ => exact absurd (show false = true from hs) Bool.false_ne_true
  | _ => cases y <;> exact absurd (show false = true from hs) Bool.false_ne_true
theorem op_ne : OpR X (compareOp .NotEq) rNe := by
  intro pins s σ H x y v u Q I rx ry h
  obtain ⟨hs, q⟩ := h
  cases x with
  | non =>
    cases rx
    cases y with
    | non => cases ry; exact PySem.EqNone.ne_none_none (fin_bl I q (by simp))
    | bl j => cases ry; exact PySem.EqNone.ne_none_bool (fin_bl I q (by simp))
    | int j => obtain ⟨t', rfl⟩ := ry; exact PySem.EqNone.ne_none_int (fin_bl I q (by simp))
    | str j => obtain ⟨t', rfl⟩ := ry; exact PySem.EqNone.ne_none_str (fin_bl I q (by simp))
    | _ => exact absurd (show false = true from hs) Bool.false_ne_true
  | bl i =>
    cases rx
    cases y with
    | non => cases ry; exact PySem.EqNone.ne_bool_none (fin_bl I q (by simp))
    | bl j => cases ry; exact ne_bool (fin_bl I q (congrArg not dec_bl))
    | str j => obtain ⟨t', rfl⟩ := ry; exact PySem.EqMixed.ne_bool_str (fin_bl I q (by simp))
    | _ => exact absurd (show false = true from hs) Bool.false_ne_true
  | int i =>
    obtain ⟨t, rfl⟩ := rx
    cases y with
    | non => cases ry; exact PySem.EqNone.ne_int_none (fin_bl I q (by simp))
    | int j => obtain ⟨t', rfl⟩ := ry; exact ne_int (fin_bl I q (congrArg not dec_int))
    | str j => obtain ⟨t', rfl⟩ := ry; exact PySem.EqMixed.ne_int_str (fin_bl I q (by simp))
    | _ => exact absurd (show false = true from hs) Bool.false_ne_true
  | str i =>
    obtain ⟨t, rfl⟩ := rx
    cases y with
    | non => cases ry; exact PySem.EqNone.ne_str_none (fin_bl I q (by simp))
    | bl j => cases ry; exact PySem.EqMixed.ne_str_bool (fin_bl I q (by simp))
    | int j => obtain ⟨t', rfl⟩ := ry; exact PySem.EqMixed.ne_str_int (fin_bl I q (by simp))
    | str j => obtain ⟨t', rfl⟩ := ry; exact ne_str (fin_bl I q (congrArg not dec_str))
    | _ => exact absurd (show false = true from hs) Bool.false_ne_true
  | byt i =>
    obtain ⟨t, rfl⟩ := rx
    cases y with
    | byt j => obtain ⟨t', rfl⟩ := ry; exact PySem.W.ne_bytes (fin_bl I q (congrArg not dec_byt))
    | _ => exact absurd (show false = true from hs) Bool.false_ne_true
  | _ => cases y <;> exact absurd (show false = true from hs) Bool.false_ne_true
theorem op_lt : OpR X (compareOp .Lt) (rI0 fun i j => .bl (decide (i < j))) := opB0 fun _ _ _ _ _ _ _ q => lt_int q
theorem op_le : OpR X (compareOp .LtE) (rI0 fun i j => .bl (decide (i ≤ j))) := opB0 fun _ _ _ _ _ _ _ q => le_int q
theorem op_gt : OpR X (compareOp .Gt) (rI0 fun i j => .bl (decide (j < i))) := opB0 fun _ _ _ _ _ _ _ q => gt_int q
theorem op_in_str : OpR X (compareOp .In) (fun x y H Q => ∃ i j, x = .str i ∧ y = .str j ∧ Q (.bl (!(Builtin.Str.occurrences j i 0 j.length 1).isEmpty)) H) := by
 intro pins s σ H x y v u Q I rx ry h
 obtain ⟨i, j, rfl, rfl, q⟩ := h
 obtain ⟨t, rfl⟩ := rx
 obtain ⟨t', rfl⟩ := ry
 exact in_str (fin_bl I q rfl)
theorem op_isN : OpR X (compareOp .Is) (fun x y H Q => y = .non ∧ Q (.bl (decide (x = .non))) H) := by
 intro pins s σ H x y v u Q I rx ry h
 obtain ⟨rfl, q⟩ := h
 cases ry
 refine is_none_gen (fin_bl I q ?_)
 cases x <;> first
  | (cases rx; rfl)
  | (obtain ⟨t, rfl⟩ := rx; rfl)
theorem OpR.or {f : Value → Value → Sem Value} {r r' : R2} (h : OpR X f r) (h' : OpR X f r') : OpR X f (fun x y H Q => r x y H Q ∨ r' x y H Q) := by
 intro pins s σ H x y v u Q I rx ry q
 rcases q with q | q
 · exact h pins s σ H x y v u Q I rx ry q
 · exact h' pins s σ H x y v u Q I rx ry q
theorem nomark (b : Expr) {op : CmpOp} (h : op ≠ .In := by decide) (h2 : op ≠ .NotIn := by decide) : behindInMarks op b = false := by
 have e1 : (op == CmpOp.In) = false := by cases op <;> first | rfl | exact absurd rfl h
 have e2 : (op == CmpOp.NotIn) = false := by cases op <;> first | rfl | exact absurd rfl h2
 cases b <;> simp [behindInMarks, e1, e2]
theorem pe_cmpR {op : CmpOp} {r : R2} (ho : OpR X (compareOp op) r) (ha : PE X a ta) (hb : PE X b tb) (hm : behindInMarks op b = false) : PE X (.Compare a [op] [b] pos) (tOp r ta tb) := by
 intro pins s σ H Q I h
 exact wpAny_Compare1 (binT ha hb I h fun v u s2 x y H2 I2 rx ry q => ho pins s2 σ H2 x y v u Q I2 rx ry q) hm
def TruV (K : PySem.W.Frag) (x : V) (H : Hp) (k : Bool) : Prop :=
 match x with
 | .non => k = false
 | .bl b => k = b
 | .int i => k = (i != 0)
 | .str y => y.length ≤ sizeLine ∧ k = ((y.length : Int) != 0)
 | .byt y => y.size ≤ sizeLine ∧ k = ((y.size : Int) != 0)
 | .ref p => (∃ xs, SqL K H p xs ∧ k = !xs.isEmpty) ∨ (∃ xs, SqT K H p xs ∧ k = !xs.isEmpty) ∨ ∃ kvs, H p = some (.dK kvs) ∧ k = !kvs.isEmpty
 | _ => False
theorem isEmpty_kv {κ : Type} {kvs : List (κ × V)} {vs : List (κ × Value)} (r : KV kvs vs) : (!vs.isEmpty) = !kvs.isEmpty := by
 cases r <;> rfl
theorem isEmpty_of {xs : List V} {its : List Value} (r : Vals xs its) : (!its.toArray.isEmpty) = !xs.isEmpty := by
 cases r <;> simp
theorem line63 : (sizeLine : Nat) < 2 ^ 63 := by rw [sizeLine_eq]; decide
theorem tru_ok : TruR X (fun x H Q => ∃ k, TruV X.K x H k ∧ Q k H) := by
  intro pins s σ H x v Q I rx h
  obtain ⟨k, e, q⟩ := h
  have hl := line63
  have hs : sizeLine = 16777216 := sizeLine_eq
  cases x with
  | non =>
    cases rx
    have e' : k = false := e
    subst e'
    exact truthy_none ⟨H, I, q⟩
  | bl b =>
    cases rx
    have e' : k = b := e
    subst e'
    exact wpAny_truthy_bool ⟨H, I, q⟩
  | int i =>
    obtain ⟨t, rfl⟩ := rx
    have e' : k = (i != 0) := e
    subst e'
    exact PySem.P.truthy_int ⟨H, I, q⟩
  | str y =>
    obtain ⟨t, rfl⟩ := rx
    obtain ⟨hy, e'⟩ : y.length ≤ sizeLine ∧ k = ((y.length : Int) != 0) := e
    subst e'
    exact PySem.P.truthy_str (by omega) ⟨H, I.tok _, q⟩
  | byt y =>
    obtain ⟨t, rfl⟩ := rx
    obtain ⟨hy, e'⟩ : y.size ≤ sizeLine ∧ k = ((y.size : Int) != 0) := e
    subst e'
    exact PySem.W.truthy_bytes (by omega) ⟨H, I.tok _, q⟩
  | ref p =>
    cases rx
    have e' : (∃ xs, SqL X.K H p xs ∧ k = !xs.isEmpty) ∨ (∃ xs, SqT X.K H p xs ∧ k = !xs.isEmpty) ∨ ∃ kvs, H p = some (.dK kvs) ∧ k = !kvs.isEmpty := e
    rcases e' with ⟨xs, hx, e'⟩ | ⟨xs, hx, e'⟩ | ⟨kvs, hx, e'⟩
    · subst e'
      obtain ⟨its, r, pl, hz⟩ := I.list hx
      have hlen := r.length
      exact wpAny_truthy_list pl.isList (by simp only [List.size_toArray]; omega) ⟨H, I.tok _, by rw [isEmpty_of r]; exact q⟩
    · subst e'
      obtain ⟨its, r, pl, hz⟩ := I.tuple hx
      have hlen := r.length
      exact truthy_tuple pl (by simp only [List.size_toArray]; omega) ⟨H, I.tok _, by rw [isEmpty_of r]; exact q⟩
    · subst e'
      obtain ⟨hz, hS, vs, r, m⟩ : kvs.length ≤ sizeLine ∧ (p == sysModules) = false ∧ ∃ vs, KV kvs vs ∧ s.heap.DictOf (mixKind X.prog X.w) p vs := I.hok p _ hx
      have hlen : kvs.length = vs.length := Paired.length r
      exact wpAny_truthy_dict hS m (by omega) ⟨H, I.tok _, by rw [isEmpty_kv r]; exact q⟩
  | _ => exact (show False from e).elim
theorem op_add_str : OpR X (binaryOp .Add) (fun x y H Q => ∃ i j, x = .str i ∧ y = .str j ∧ i.length + j.length ≤ sizeLine ∧ Q (.str (i ++ j)) H) := by
 intro pins s σ H x y v u Q I rx ry h
 obtain ⟨i, j, rfl, rfl, hz, q⟩ := h
 obtain ⟨t, rfl⟩ := rx
 obtain ⟨t', rfl⟩ := ry
 exact add_str (fun t' tk => ⟨.str (i ++ j), H, I.tok _, ⟨_, rfl⟩, q⟩) hz
theorem vals1 {x : V} {us : List Value} (r : Vals [x] us) : ∃ u, us = [u] ∧ RelV x u := by
 cases r with
 | cons r1 r2 => cases r2; exact ⟨_, rfl, r1⟩
theorem vals2 {x y : V} {us : List Value} (r : Vals [x, y] us) : ∃ u w', us = [u, w'] ∧ RelV x u ∧ RelV y w' := by
  cases r with
  | cons r1 r2 =>
    cases r2 with
    | cons r3 r4 => cases r4; exact ⟨_, _, rfl, r1, r3⟩
theorem call_max2 (hc : X.calm = true) : CallR X (.builtin "max") (fun xs H Q => ∃ i j, xs = [.int i, .int j] ∧ Q (.int (if j > i then j else i)) H) := by
 intro pins s σ H xs us Q I r h
 obtain ⟨i, j, rfl, q⟩ := h
 obtain ⟨u, w', rfl, ⟨t, rfl⟩, ⟨t', rfl⟩⟩ := vals2 r
 refine max_two_ints (I.ok.hd hc) fun h' tk k => ⟨_, H, I.kept k, ?_, q⟩
 by_cases hj : j > i
 · rw [if_pos hj, if_pos hj]; exact ⟨_, rfl⟩
 · rw [if_neg hj, if_neg hj]; exact ⟨_, rfl⟩
theorem call_min2 (hc : X.calm = true) : CallR X (.builtin "min") (fun xs H Q => ∃ i j, xs = [.int i, .int j] ∧ Q (.int (if j < i then j else i)) H) := by
 intro pins s σ H xs us Q I r h
 obtain ⟨i, j, rfl, q⟩ := h
 obtain ⟨u, w', rfl, ⟨t, rfl⟩, ⟨t', rfl⟩⟩ := vals2 r
 refine min_two_ints (I.ok.hd hc) fun h' tk k => ⟨_, H, I.kept k, ?_, q⟩
 by_cases hj : j < i
 · rw [if_pos hj, if_pos hj]; exact ⟨_, rfl⟩
 · rw [if_neg hj, if_neg hj]; exact ⟨_, rfl⟩
theorem call_str_int : CallR X (.type "str") (fun xs H Q => ∃ i, xs = [.int i] ∧ i.natAbs.log2 < 1920 ∧ Q (.str (toString i)) H) := by
 intro pins s σ H xs us Q I r h
 obtain ⟨i, rfl, hz, q⟩ := h
 obtain ⟨u, rfl, t, rfl⟩ := vals1 r
 exact PySem.P.str_of_int hz ⟨.str _, H, I.tok _, ⟨_, rfl⟩, q⟩
def LenV (K : PySem.W.Frag) (x : V) (H : Hp) (n : Nat) : Prop :=
 match x with
 | .str y => y.length ≤ sizeLine ∧ n = y.length
 | .byt y => y.size ≤ sizeLine ∧ n = y.size
 | .ref p => (∃ xs, SqL K H p xs ∧ n = xs.length) ∨ ∃ xs, SqT K H p xs ∧ n = xs.length
 | _ => False
theorem call_len : CallR X (.builtin "len") (fun xs H Q => ∃ x n, xs = [x] ∧ LenV X.K x H n ∧ Q (.int n) H) := by
  intro pins s σ H xs us Q I r h
  obtain ⟨x, n, rfl, e, q⟩ := h
  obtain ⟨u, rfl, rx⟩ := vals1 r
  have hl := line63
  have hs : sizeLine = 16777216 := sizeLine_eq
  cases x with
  | str y =>
    obtain ⟨t, rfl⟩ := rx
    obtain ⟨hy, e'⟩ : y.length ≤ sizeLine ∧ n = y.length := e
    subst e'
    exact len_str (by omega) ⟨.int _, H, I.tok _, ⟨_, rfl⟩, q⟩
  | byt y =>
    obtain ⟨t, rfl⟩ := rx
    obtain ⟨hy, e'⟩ : y.size ≤ sizeLine ∧ n = y.size := e
    subst e'
    exact PySem.W.len_bytes (by omega) ⟨.int _, H, I.tok _, ⟨_, rfl⟩, q⟩
  | ref p =>
    cases rx
    have e' : (∃ xs, SqL X.K H p xs ∧ n = xs.length) ∨ ∃ xs, SqT X.K H p xs ∧ n = xs.length := e
    rcases e' with ⟨xs, hx, e'⟩ | ⟨xs, hx, e'⟩
    · subst e'
      obtain ⟨its, r', pl, hz⟩ := I.list hx
      have hlen := r'.length
      exact Calls.call_len_list pl.isList (by simp only [List.size_toArray]; omega) ⟨.int xs.length, H, I.tok _, ⟨_, by simp only [List.size_toArray]; rw [hlen]⟩, q⟩
    · subst e'
      obtain ⟨its, r', pl, hz⟩ := I.tuple hx
      have hlen := r'.length
      exact len_tuple pl (by simp only [List.size_toArray]; omega) ⟨.int xs.length, H, I.tok _, ⟨_, by simp only [List.size_toArray]; rw [hlen]⟩, q⟩
  | _ => exact (show False from e).elim
end
end L2
namespace L2
open PySem PySem.Spec PyProof.Rows
structure ObjM (h : Heap) (x dx C : Addr) (mA : Str → Option Value) : Prop where
 obj : h.get? x = some (PySem.W.instObj C dx)
 ns : h.Ns1 dx mA
 ne : dx ≠ x
theorem lookIn_ns {h : Heap} {dx : Addr} {mA : Str → Option Value} (n : h.Ns1 dx mA) : ∃ od, h.get? dx = some od ∧ ∀ name, PySem.W.lookIn name od = some (mA name) := by
 obtain ⟨o, es, ep, ho, hd, hk, _, hm⟩ := n
 refine ⟨o, ho, fun name => ?_⟩
 have e := hm name
 unfold nsFind findBy at e
 rw [← Array.find?_toList] at e
 unfold PySem.W.lookIn
 rw [hd]
 dsimp only
 split
 · rename_i y q
   rw [q] at e
   exact congrArg some e
 · rename_i q
   rw [q] at e
   have a : es.toList.any (·.refKey) = false := by
    rw [List.any_eq_false]
    intro y hy
    obtain ⟨z, t, hkey⟩ := hk y (Array.mem_toList_iff.mp hy)
    simp [DictEntry.refKey, hkey]
   have a' : ¬ es.toList.any (·.refKey) = true := by rw [a]; exact Bool.false_ne_true
   rw [if_neg a']
   exact congrArg some e
theorem ObjM.look {h : Heap} {x dx C : Addr} {mA : Str → Option Value} (I : ObjM h x dx C mA) : ∃ od, PySem.W.InstAt h x (PySem.W.instObj C dx) C (some od) ∧ ∀ name, PySem.W.lookIn name od = some (mA name) :=
 let ⟨od, ho, hl⟩ := lookIn_ns I.ns
 ⟨od, ⟨I.obj, rfl, rfl, ho⟩, hl⟩
section
variable {prog : Program} {w : World} {A : Around} {E : Value → Shared → Prop} {s : Shared} {K : PySem.W.Frag} {x dx C f : Addr} {mA : Str → Option Value} {name : Str} {v : Value}
end
theorem RelO.some_of {v : V} {o : Option Value} (r : RelO (some v) o) : ∃ u, o = some u ∧ RelV v u := by
 cases o with
 | none => exact (show False from r).elim
 | some u => exact ⟨u, rfl, r⟩
theorem RelO.none_of {o : Option Value} (r : RelO none o) : o = none := by
 cases o with
 | none => rfl
 | some u => exact (show False from r).elim
section
variable {P : Program} {w : World} {H H' : Hp} {h h' : Heap} {a C dx : Addr} {fs fs' : List (Str × V)}
theorem ins_get (hok : HOk P w H h) (e : H a = some (.ins C dx fs)) : ∃ mA, ObjM h a dx C mA ∧ (∀ f, RelO (fs.lookup f) (mA f)) ∧ PySem.Within mA (fs.map (·.1)) ∧ fs.length ≤ 1000 ∧ H dx = some (.own a) := by
 obtain ⟨d, z, ne, ob, mA, n, r, q⟩ := (show ObjOk P w H h a (.ins C dx fs) from hok a _ e)
 exact ⟨mA, ⟨ob, n, ne⟩, r, q, z, d⟩
end
structure Cls (K : PySem.W.Frag) (C : Addr) : Prop where
 pg : PySem.W.plainGet K C Str.empty = true
 hd : PySem.W.hasDictIn K C = true
 po : PySem.W.plainOver K C = true
 sa : PySem.W.findIn K (.ref C) "__setattr__" = some (some (.builtin "object.__setattr__"))
theorem Cls.get {K : PySem.W.Frag} {C : Addr} (c : Cls K C) (f : Str) : PySem.W.plainGet K C f = true := c.pg
section
variable {X : Cx} {pins : List (Addr × Obj)} {σ : St} {H : Hp} {s : Shared} {a C dx : Addr} {fs : List (Str × V)} {f : Str} {v : V} {A : Around} {E : Value → Shared → Prop}
end
section
variable {X : Cx} {o e value : Expr} {f : Str} {pos pos' tpos : Pos} {ta tv : TE}
end
section
variable {X : Cx} {pins : List (Addr × Obj)} {σ : St} {H : Hp} {s : Shared} {A : Around} {E : Value → Shared → Prop} {Q : Value → Shared → Prop} {c : Value} {b : Bool}
inductive TyOf (K : PySem.W.Frag) (H : Hp) : V → Value → Prop where
 | non : TyOf K H .non (.type "NoneType")
 | bl (x : Bool) : TyOf K H (.bl x) (.type "bool")
 | int (i : Int) : TyOf K H (.int i) (.type "int")
 | str (x : Str) : TyOf K H (.str x) (.type "str")
 | flt (x : UInt64) : TyOf K H (.flt x) (.type "float")
 | lst {a : Addr} {xs : List V} (e : H a = some (.lst xs)) : TyOf K H (.ref a) (.type "list")
 | frz {a : Addr} {o : Obj} {xs : List V} (e : H a = some (.frz o (.lst xs))) : TyOf K H (.ref a) (.type "list")
 | tup {a : Addr} {xs : List V} (e : H a = some (.tup xs)) : TyOf K H (.ref a) (.type "tuple")
 | dK {a : Addr} {kvs : List (Key × V)} (e : H a = some (.dK kvs)) : TyOf K H (.ref a) (.type "dict")
 | dT {a : Addr} {kvs : List (List Key × V)} (e : H a = some (.dT kvs)) : TyOf K H (.ref a) (.type "dict")
 | ins {a C dx : Addr} {fs : List (Str × V)} (e : H a = some (.ins C dx fs)) (cl : Cls K C) (ha : PySem.W.findIn K (.ref C) "__class__" = some (some (.builtin "object.__class__")))
  (hn : PySem.W.specialIn K (.builtin "object.__class__") "__get__" = some (some (.builtin "getset_descriptor.__get__"))) (htk : PySem.W.takesIn K (.builtin "object.__class__") = some true)
  (hm : PySem.W.mroIn K C (.type "object") = some true) : TyOf K H (.ref a) (.ref C)
theorem isinst_ok {x : V} {u t : Value} (I : Inv X pins σ H s) (rx : RelV x u) (ty : TyOf X.K H x t) (e : PySem.W.kitOne X.K t c = some b) (h : ∀ tk, Q (.bool b) { s with toks := tk }) :
    wpAny (model X.prog X.w) A (call (.builtin "isinstance") [u, c]) Q E s := by
  cases ty with
  | non => cases (show u = Value.none from rx); exact PySem.W.kia_one PySem.W.kitx_none I.kIn True.intro e (fun z => nomatch z) h
  | bl y => cases (show u = Value.bool y from rx); exact PySem.W.kia_one PySem.W.kitx_bool I.kIn True.intro e (fun z => nomatch z) h
  | int i => obtain ⟨t, q⟩ := (show ∃ t, u = Value.int i t from rx); cases q; exact PySem.W.kia_one PySem.W.kitx_int I.kIn True.intro e (fun z => nomatch z) h
  | str y => obtain ⟨t, q⟩ := (show ∃ t, u = Value.str y t from rx); cases q; exact PySem.W.kia_one PySem.W.kitx_str I.kIn True.intro e (fun z => nomatch z) h
  | flt y => obtain ⟨t, q⟩ := (show ∃ t, u = Value.float y t from rx); cases q; exact PySem.W.kia_one PySem.W.kitx_float I.kIn True.intro e (fun z => nomatch z) h
  | @lst a xs ea =>
    cases (show u = Value.ref a from rx)
    obtain ⟨_, _, n, _, h1⟩ := (show ObjOk X.prog X.w H s.heap a (.lst xs) from I.hok a _ ea)
    exact PySem.W.kia_one PySem.W.kitx_list I.kIn ⟨_, h1, rfl⟩ e (fun z => nomatch z) h
  | @frz a ob xs ea =>
    cases (show u = Value.ref a from rx)
    obtain ⟨_, _, _, n, _, h1⟩ := (show ObjOk X.prog X.w H s.heap a (.frz ob (.lst xs)) from I.hok a _ ea)
    exact PySem.W.kia_one PySem.W.kitx_list I.kIn ⟨_, h1, rfl⟩ e (fun z => nomatch z) h
  | @tup a xs ea =>
    cases (show u = Value.ref a from rx)
    obtain ⟨_, _, _, p⟩ := (show ObjOk X.prog X.w H s.heap a (.tup xs) from I.hok a _ ea)
    obtain ⟨o, h1, h2, _⟩ := p
    exact PySem.W.kia_one PySem.W.kitx_tuple I.kIn ⟨o, h1, h2⟩ e (fun z => nomatch z) h
  | @dK a kvs ea =>
    cases (show u = Value.ref a from rx)
    obtain ⟨_, _, vs, _, p⟩ := (show ObjOk X.prog X.w H s.heap a (.dK kvs) from I.hok a _ ea)
    obtain ⟨o, es, ep, h1, h2, _⟩ := p
    exact PySem.W.kia_one PySem.W.kitx_dict I.kIn ⟨o, h1, h2.1⟩ e (fun z => nomatch z) h
  | @dT a kvs ea =>
    cases (show u = Value.ref a from rx)
    obtain ⟨_, _, xs, _, o, es, ep, h1, h2, _⟩ := (show ObjOk X.prog X.w H s.heap a (.dT kvs) from I.hok a _ ea)
    exact PySem.W.kia_one PySem.W.kitx_dict I.kIn ⟨o, h1, h2.1⟩ e (fun z => nomatch z) h
  | @ins a C dx fs ea cl ha hn htk hm =>
    cases (show u = Value.ref a from rx)
    obtain ⟨mA, O, _⟩ := ins_get I.hok ea
    obtain ⟨od, J, _⟩ := O.look
    exact PySem.W.kia_one (PySem.W.kitx_own (cl.get _) cl.hd ha hn htk hm) I.kIn J e (fun z => nomatch z) h
end
end L2
namespace L2
open PySem PySem.Spec PyProof.Rows
structure Room (k : Nat) (A : Around) : Prop where
 hd : A.handled = none
 dp : A.depth + 3 * k + 5 < recursionLimit
 un : A.units + 16 * k + 200 < cLine
theorem Room.mono {j k : Nat} {A : Around} (r : Room k A) (h : j ≤ k) : Room j A := ⟨r.hd, by have := r.dp; omega, by have := r.un; omega⟩
theorem Room.deeper {k : Nat} {A : Around} (r : Room (k + 1) A) (env : Env) : Room k (A.deeper env) :=
 ⟨r.hd, by have := r.dp; show A.depth + 1 + 3 * k + 5 < _; omega, by have := r.un; show A.units + 3 + 16 * k + 200 < _; omega⟩
theorem Room.depth {k : Nat} {A : Around} (r : Room k A) : A.depth < recursionLimit := by have := r.dp; omega
def tNil : TA := fun _ H Q => Q [] H
def tCons (ta : TE) (tr : TA) : TA := fun σ H Q => ta σ H fun x H1 => tr σ H1 fun xs H2 => Q (x :: xs) H2
section
variable {X : Cx} {e : Expr} {es : List Expr} {te : TE} {t : TA} {pos : Pos}
theorem pa_nil : PA X [] tNil := fun _ _ _ _ H Q I h => Calls.spliced_nil ⟨[], H, I, .nil, h⟩
theorem pa_cons (ha : PE X e te) (hr : PA X es t) (hs : starEach (e :: es) X.env = (false, eval e X.env) :: starEach es X.env := by rfl) : PA X (e :: es) (tCons te t) := by
 intro pos pins s σ H Q I h
 rw [hs]
 show wpAny _ _ (spliced ((false, eval e X.env) :: backTo pos (starEach es X.env))) _ _ s
 refine Calls.spliced_cons (thn (ha pins s σ H _ I h) fun u s1 ⟨x, H1, I1, r1, q1⟩ => ?_)
 exact thn (hr pos pins s1 σ H1 _ I1 q1) fun us s2 ⟨xs, H2, I2, r2, q2⟩ => ⟨x :: xs, H2, I2, .cons r1 r2, q2⟩
def tTup (t : TA) : TE := fun σ H Q => t σ H fun xs H1 => xs.length ≤ sizeLine ∧ ∀ p, H1 p = none → Q (.ref p) (upd H1 p (.tup xs))
def tLst (t : TA) : TE := fun σ H Q => t σ H fun xs H1 => xs.length ≤ sizeLine ∧ ∀ p, H1 p = none → Q (.ref p) (upd H1 p (.lst xs))
theorem pe_tup {x1} (h : PA X es t) : PE X (.Tuple es x1 pos) (tTup t) := by
 intro pins s σ H Q I hq
 refine wpAny_Tuple_spliced (thn (h pos pins s σ H _ I hq) fun us s1 ⟨xs, H1, I1, r, z, q⟩ => ⟨by rw [← r.length]; exact z, ?_⟩)
 have hf : H1 s1.heap.objs.size = none := I1.hok.fresh (Nat.le_refl _)
 refine ⟨.ref s1.heap.objs.size, upd H1 s1.heap.objs.size (.tup xs), I1.laid (t' := s1.toks) (fun b u e => Heap.get?_push_of_some _ e) (Nat.le_refl _) ?_, rfl, q _ hf⟩
 exact ⟨z, us, r, ⟨_, Heap.get?_push_size _ rfl, rfl, _, rfl⟩⟩
theorem pe_lst (h : PA X es t) : PE X (.List es pos) (tLst t) := by
 intro pins s σ H Q I hq
 refine wpAny_List_spliced (thn (h pos pins s σ H _ I hq) fun us s1 ⟨xs, H1, I1, r, z, q⟩ => ⟨by rw [← r.length]; exact z, ?_⟩)
 have hf : H1 s1.heap.objs.size = none := I1.hok.fresh (Nat.le_refl _)
 refine ⟨.ref s1.heap.objs.size, upd H1 s1.heap.objs.size (.lst xs), I1.laid (t' := s1.toks) (fun b u e => Heap.get?_push_of_some _ e) (Nat.le_refl _) ?_, rfl, q _ hf⟩
 exact ⟨z, us, 0, r, Heap.get?_push_size _ rfl⟩
end
abbrev Sp := List V → Hp → VK → XK → Prop
abbrev CXT := List Env → Hp → Shared → XK → Value → Shared → Prop
structure Env0 (P : Program) (w : World) (K : PySem.W.Frag) (mg : Str → Option Value) (base : Heap) (A : Around) (outer : List Env) (s : Shared) (H : Hp) : Prop where
 frames : A.frames = some outer
 mod : Mod K mg base
 bs : ∀ b o, base.get? b = some o → s.heap.get? b = some o ∧ H b = none
 bsz : base.objs.size ≤ s.heap.objs.size
 funs : s.heap.FunFrames base outer
 frf : ∀ b ∈ frs outer, H b = none
 hok : HOk P w H s.heap
 bare : AllBare s.gens
def CE (outer : List Env) (P : Program) (w : World) (H : Hp) (s : Shared) (Q : VK) (u : Value) (s' : Shared) : Prop :=
 ∃ v H', s'.os = s.os ∧ AllBare s'.gens ∧ Un (frs outer) [] H H' s.heap s'.heap ∧ HOk P w H' s'.heap ∧ RelV v u ∧ Q v H'
def CR (CX : CXT) (outer : List Env) (P : Program) (w : World) (H : Hp) (s : Shared) (Q : VK) (E : XK) (r : Result) (s' : Shared) : Prop :=
 match r with
 | .ok (.ret u) => CE outer P w H s Q u s'
 | .ok _ => False
 | .error e => CX outer H s E e s'
structure FnOk (P : Program) (w : World) (K : PySem.W.Frag) (mg : Str → Option Value) (base : Heap) (CX : CXT) (k : Nat) (f : Addr) (fd : FuncData) (ps : List Str) (sp : Sp) : Prop where
 len : ∀ vs H Q E, sp vs H Q E → vs.length = ps.length
 run : ∀ (A : Around) (outer : List Env) (s : Shared) (H : Hp) (args : Args) (us : List Value) (vs : List V) (Q : VK) (E : XK), Room k A → Env0 P w K mg base A outer s H → BindsTo s fd args (ps.zip us) → Vals vs us → sp vs H Q E →
  codeAny (model P w) A (.call (.ref f) args) (CR CX outer P w H s Q E) s
section
variable {X : Cx} {pins : List (Addr × Obj)} {σ : St} {H : Hp} {s s' : Shared}
theorem Inv.env0 (I : Inv X pins σ H s) : Env0 X.prog X.w X.K X.mg X.base X.A X.stack s H :=
 ⟨I.ok.frames, I.ok.mod, I.bs, Nat.le_trans I.ok.bsz I.sz, I.stack, I.stkFree, I.hok, I.bare⟩
theorem Inv.after {Q : VK} {u : Value} (I : Inv X pins σ H s) (h : CE X.stack X.prog X.w H s Q u s') : EP X pins σ Q u s' := by
 obtain ⟨v, H', os, bare, un, hok, r, q⟩ := h
 obtain ⟨hh, g, d, t, os'⟩ := s'
 obtain rfl : os' = s.os := os
 exact ⟨v, H', I.call (h' := hh) (g' := g) (d' := d) (t' := t) (ch := []) un hok bare (fun b z => absurd z (by simp)), r, q⟩
end
def Binds (K : PySem.W.Frag) (fd : FuncData) (ps : List Str) (ds : List Value) : Prop :=
 ∀ (s : Shared) (us : List Value), K.In s.heap → (us ++ ds).length = ps.length → BindsTo s fd ⟨us, []⟩ (ps.zip (us ++ ds))
theorem Binds.all {K : PySem.W.Frag} {fd : FuncData} {ps : List Str} (h : ∀ us : List Value, us.length = ps.length → bindArgs fd ⟨us, []⟩ = pure (ps.zip us)) : Binds K fd ps [] := fun s us _ hl => by
 rw [List.append_nil] at hl ⊢
 exact .of_eq (h us hl)
section
variable {X : Cx} {CX : CXT} {k : Nat} {f C : Addr} {fd : FuncData} {ps : List Str} {sp : Sp} {dvs : List V} {ds : List Value} {E : XK} {x m : Str} {p pos apos : Pos} {e o : Expr} {es : List Expr} {ta : TE} {t : TA}
end
section
variable {X : Cx} {CX : CXT} {k : Nat} {f C : Addr} {fd : FuncData} {ps ks : List Str} {sp : Sp} {E : XK} {x m : Str} {p pos apos kpos : Pos} {e o : Expr} {es : List Expr} {kws : List Keyword} {te ta : TE} {t tk : TA} {nm : Option Str}
variable {g : List Value → List Value → List Value} {gV : List V → List V → List V}
end
structure FnScope (N P : List Str) (sc : Scope) : Prop where
 kind : sc.kind = .function
 co : sc.isCoroutine = false
 gen : sc.isGenerator = false
 nd : N.Nodup
 pre : N.take P.length = P
 par : ∀ x ∈ P, sc.names.lookup x = some .local ∨ sc.names.lookup x = some .cell
 nofree : ∀ y ∈ sc.names, y.2 ≠ .free
theorem bindL_out {kindOf : Str → Option NameKind} {x : Str} : ∀ {binds : List (Str × Value)} {m : Str → Option Value}, (∀ v, (x, v) ∉ binds) → bindL kindOf binds m x = m x
  | [], _, _ => rfl
  | (n, v) :: r, m, h => by
    unfold bindL
    rw [bindL_out fun w hw => h w (List.mem_cons_of_mem _ hw)]
    split
    · have : x ≠ n := by rintro rfl; exact h v List.mem_cons_self
      simp [this]
    · rfl
theorem bindC_out {kindOf : Str → Option NameKind} {x : Str} : ∀ {binds : List (Str × Value)} {m : Str → Option Value}, (∀ v, (x, v) ∉ binds) → bindC kindOf binds m x = m x
  | [], _, _ => rfl
  | (n, v) :: r, m, h => by
    unfold bindC
    rw [bindC_out fun w hw => h w (List.mem_cons_of_mem _ hw)]
    split
    · rfl
    · have : x ≠ n := by rintro rfl; exact h v List.mem_cons_self
      simp [this]
theorem bindL_get {kindOf : Str → Option NameKind} {x : Str} {v : Value} : ∀ {P : List Str} {vs : List Value} {i : Nat} {m : Str → Option Value}, P.Nodup → P[i]? = some x → vs[i]? = some v → kindOf x = some .local →
    bindL kindOf (P.zip vs) m x = some v
  | [], _, _, _, _, h, _, _ => by simp at h
  | _ :: _, [], _, _, _, _, h, _ => by simp at h
  | p :: P, w :: vs, 0, m, nd, h1, h2, hk => by
    simp at h1 h2; subst h1; subst h2
    show bindL kindOf ((p, w) :: P.zip vs) m p = _
    unfold bindL
    rw [bindL_out fun v hv => (List.nodup_cons.mp nd).1 (List.of_mem_zip hv).1, if_pos hk]
    simp
  | p :: P, w :: vs, i + 1, m, nd, h1, h2, hk => by
    show bindL kindOf ((p, w) :: P.zip vs) m x = _
    unfold bindL
    exact bindL_get (i := i) (List.nodup_cons.mp nd).2 (by simpa using h1) (by simpa using h2) hk
theorem bindC_get {kindOf : Str → Option NameKind} {x : Str} {v : Value} : ∀ {P : List Str} {vs : List Value} {i : Nat} {m : Str → Option Value}, P.Nodup → P[i]? = some x → vs[i]? = some v → kindOf x ≠ some .local →
    bindC kindOf (P.zip vs) m x = some v
  | [], _, _, _, _, h, _, _ => by simp at h
  | _ :: _, [], _, _, _, _, h, _ => by simp at h
  | p :: P, w :: vs, 0, m, nd, h1, h2, hk => by
    simp at h1 h2; subst h1; subst h2
    show bindC kindOf ((p, w) :: P.zip vs) m p = _
    unfold bindC
    rw [bindC_out fun v hv => (List.nodup_cons.mp nd).1 (List.of_mem_zip hv).1, if_neg hk]
    simp
  | p :: P, w :: vs, i + 1, m, nd, h1, h2, hk => by
    show bindC kindOf ((p, w) :: P.zip vs) m x = _
    unfold bindC
    exact bindC_get (i := i) (List.nodup_cons.mp nd).2 (by simpa using h1) (by simpa using h2) hk
def start (N : List Str) (vs : List V) : St := vs.map some ++ List.replicate (N.length - vs.length) none
def cxOf (CX : CXT) (P : Program) (w : World) (K : PySem.W.Frag) (mg : Str → Option Value) (base : Heap) (N : List Str) (qual : Str) (scope : Scope) (f : Addr) (cd : Value) (A : Around) (outer : List Env) (s : Shared) (H : Hp) (E : XK) : Cx where
 prog := P
 w := w
 K := K
 mg := mg
 base := base
 A := A.deeper (envOfC qual scope s.heap.objs.size f cd)
 N := N
 s₀ := s
 H₀ := H
 env := envOfC qual scope s.heap.objs.size f cd
 outer := outer
 stack := envOfC qual scope s.heap.objs.size f cd :: outer
 ex := []
 calm := true
 fn := fun _ => true
 pn := []
 xe := fun e s' => wpAny (model P w) (A.deeper (envOfC qual scope s.heap.objs.size f cd)) (leaving (envOfC qual scope s.heap.objs.size f cd) e) (fun _ s'' => CX outer H s E e s'') (fun e' s'' => CX outer H s E e' s'') s'
theorem cell_has {sc : Scope} {n : Nat} {x : Str} (h : sc.names.lookup x = some .cell) : ∃ c, (cellsFrom n sc.names []).lookup x = some c := by
 have q := PySem.W.cellsFrom_some sc.names n [] (.inl h)
 exact Option.isSome_iff_exists.mp q
theorem inv_start {CX : CXT} {P : Program} {w : World} {K : PySem.W.Frag} {mg : Str → Option Value} {base : Heap} {N ps : List Str} {qual : Str} {scope : Scope} {f : Addr} {cd : Value} {A : Around} {outer : List Env} {s s1 : Shared} {H : Hp} {E : XK} {us : List Value} {vs : List V}
   (S : FnScope N ps scope) (hd : A.handled = none) (e0 : Env0 P w K mg base A outer s H) (hl : vs.length = ps.length) (r : Vals vs us)
   (x : InCallC s s.heap.objs.size (bindL (envOfC qual scope s.heap.objs.size f cd).kindOf (ps.zip us) fun _ => none) (cellsFrom (s.heap.objs.size + 1) scope.names []) (bindC (envOfC qual scope s.heap.objs.size f cd).kindOf (ps.zip us) fun _ => none) s1) :
   Inv (cxOf CX P w K mg base N qual scope f cd A outer s H E) [] (start N vs) H s1 := by
 have hpl : ps.length ≤ N.length := by have := congrArg List.length S.pre; rw [List.length_take] at this; omega
 obtain ⟨h1, tk, rfl, hk⟩ := x.done
 have noA : ∀ b : Addr, b ∉ (cxOf CX P w K mg base N qual scope f cd A outer s H E).ex := fun b z => absurd (show b ∈ ([] : List Addr) from z) (by simp)
 refine ⟨⟨e0.mod, S.kind, rfl, rfl, Nat.le_refl _, fun y z c h1 h2 => ?_, fun y hy => ?_, fun y c _ h => ?_, fun _ => hd, Around.frames_deeper e0.frames, .inr ⟨rfl, rfl⟩, fun b z => absurd z (noA b), e0.bs, e0.bsz, fun b _ _ => noA b, fun b z => absurd z (noA b), e0.funs, e0.frf⟩,
   rfl, e0.bare, Un.kept hk, ⟨_, x.toInCall.ns, fun i y v h1 h2 h3 => ?_⟩, fun y c h => ⟨_, x.cell y c h⟩, e0.hok.fresh (Nat.le_refl _), fun y c h => ?_, fun p hp => absurd (show p ∈ ([] : List (Addr × Obj)) from hp) (by simp), e0.hok.kept hk, ?_⟩
 · exact name_of_addr x.apart (PySem.mem_of_lookup h1) (PySem.mem_of_lookup h2)
 · have hy : scope.names.lookup y = some .cell ∨ scope.names.lookup y = some .free := hy
   rcases hy with hy | hy
   · exact cell_has hy
   · exact absurd rfl (S.nofree _ (PySem.mem_of_lookup hy))
 · exact Nat.le_of_lt (x.above y c (PySem.mem_of_lookup h))
 · have hi : i < vs.length := by
     unfold start at h2
     by_cases hi : i < vs.length
     · exact hi
     · rw [List.getElem?_append_right (by simpa using hi)] at h2
       rw [List.getElem?_replicate] at h2
       split at h2 <;> cases h2
   have ha : vs[i]? = some v := by
     unfold start at h2
     rw [List.getElem?_append_left (by simpa using hi), List.getElem?_map] at h2
     cases e : vs[i]? with
     | none => rw [e] at h2; cases h2
     | some a => rw [e] at h2; cases h2; rfl
   obtain ⟨u, hu, rv⟩ := r.get ha
   have hp : ps[i]? = some y := by
     rw [← S.pre, List.getElem?_take_of_lt (by omega)]; exact h1
   have ndP : ps.Nodup := by rw [← S.pre]; exact S.nd.sublist (List.take_sublist _ _)
   refine ⟨u, rv, ?_⟩
   rcases S.par y (List.mem_of_getElem? hp) with k | k
   · exact .inl ⟨k, bindL_get ndP hp hu k⟩
   · obtain ⟨c, e⟩ := cell_has (n := s.heap.objs.size + 1) k
     refine .inr ⟨.inl k, c, e, ?_⟩
     have q := x.cell y c e
     rw [bindC_get ndP hp hu (by show scope.names.lookup y ≠ _; rw [k]; decide)] at q
     exact q
 · exact e0.hok.fresh (Nat.le_of_lt (x.above y c (PySem.mem_of_lookup h)))
 · unfold start
   show _ = N.length
   rw [List.length_append, List.length_map, List.length_replicate]
   omega
theorem fn_of {CX : CXT} {P : Program} {w : World} {K : PySem.W.Frag} {mg : Str → Option Value} {base : Heap} {k : Nat} {f : Addr} {name qual : Str} {params : Arguments} {body : List Stmt} {scope : Scope} {dV kV doc pm cdv ct oc : Value} {an od : Option Addr}
    {osl : Array (Option Value)} {N ps : List Str} {sp : Sp} (lk : K.lookup f = some ⟨oc, od, .func (PySem.W.fnOf name qual params body scope dV kV doc pm an cdv ct), osl⟩) (hcd : PySem.W.codeIn K cdv qual = true) (S : FnScope N ps scope)
    (len : ∀ vs H Q E, sp vs H Q E → vs.length = ps.length)
    (hbody : ∀ (A : Around) (outer : List Env) (s : Shared) (H : Hp) (vs : List V) (Q : VK) (E : XK), Room k (A.deeper (envOfC qual scope s.heap.objs.size f cdv)) → sp vs H Q E →
      ∃ t, PSs (cxOf CX P w K mg base N qual scope f cdv A outer s H E) body t ∧ t { nx := fun _ H' => Q .non H', rt := Q } (start N vs) H) :
    FnOk P w K mg base CX (k + 1) f (PySem.W.fnOf name qual params body scope dV kV doc pm an cdv ct) ps sp := by
  refine ⟨len, fun A outer s H args us vs Q E hr e0 hb r hsp => ?_⟩
  have hl := len _ _ _ _ hsp
  have KX : K.In s.heap := e0.mod.kin.keeps fun b o e => (e0.bs b o e).1
  have lim : s.heap.NoLimit := e0.mod.nolimit.keeps fun b o e => (e0.bs b o e).1
  have hkind : ∀ y ∈ ps.zip us, scope.names.lookup y.1 = some .local ∨ (scope.names.lookup y.1 = some .cell ∧ ((cellsFrom (s.heap.objs.size + 1) scope.names []).lookup y.1).isSome = true) := fun ⟨n, v⟩ hy => by
    rcases S.par n (List.of_mem_zip hy).1 with q | q
    · exact .inl q
    · exact .inr ⟨q, PySem.W.cellsFrom_some _ _ _ (.inl q)⟩
  refine codeAny_call_function hr.depth (KX _ _ lk) rfl S.co S.gen rfl (PySem.W.codeRec_of KX hcd) (hb _ _ _ _ ?_)
  refine wpAny_newFunctionEnv_cells S.kind hkind fun env he s1 x => ?_
  subst he
  refine ⟨lim.keeps x.toInCall.keep, codeAny_func ?_⟩
  obtain ⟨t, ht, hq⟩ := hbody A outer s H vs Q E (hr.deeper _) hsp
  have I : Inv (cxOf CX P w K mg base N qual scope f cdv A outer s H E) [] (start N vs) H s1 := inv_start S hr.hd e0 hl r x
  refine wpAny_mono (ht [] s1 (start N vs) H _ I hq) (fun fl s' hs => ?_) fun e s' hs => hs
  have fin : ∀ {σ' : St} {H' : Hp} {v : V} {u : Value}, Inv (cxOf CX P w K mg base N qual scope f cdv A outer s H E) [] σ' H' s' → RelV v u → Q v H' → CE outer P w H s Q u s' :=
    fun {σ' H' v u} J rv q => ⟨v, H', J.os, J.bare, J.base, J.hok, rv, q⟩
  cases fl with
  | ret u =>
    obtain ⟨v, σ', H', J, rv, q⟩ := hs
    exact fin J rv q
  | next =>
    obtain ⟨σ', H', J, q⟩ := hs
    exact fin (v := V.non) (u := Value.none) J rfl q
  | brk =>
    obtain ⟨_, _, _, q⟩ := hs
    exact False.elim q
  | cont =>
    obtain ⟨_, _, _, q⟩ := hs
    exact False.elim q
end L2
namespace L2
open PySem PySem.Spec PyProof.Rows
section
variable {X : Cx} {x : Str} {p pos : Pos} {e : Expr} {es : List Expr} {t : TA} {id T : String} {r : List V → Hp → VK → Prop}
def tCB (r : List V → Hp → VK → Prop) (t : TA) : TE := fun σ H Q => t σ H fun vs H1 => r vs H1 Q
theorem pe_callB (hc : CallR X (.builtin id) r) (hg : Gl X x) (hm : X.mg x = none) (hv : bootBuiltins x = some (.builtin id)) (ha : PA X (e :: es) t) (hn : x ≠ "__name__" := by decide) (hdb : (x == ("__debug__" : Str)) = false := by decide)
  (he : starEach (e :: es) X.env = (false, eval e X.env) :: starEach es X.env := by rfl) (hpl : (backTo pos (starEach es X.env)).any (·.1) = false := by rfl) : PE X (.Call (.Name x p) (e :: es) [] pos) (tCB r t) := by
 intro pins s σ H Q I h
 refine wpAny_Call_Name_kw (ld_blt I hg hm hv ?_ hn hdb)
 exact PyProof.Rows.callWith_builtin1 (thn (ha pos pins s σ H _ I h) fun us s1 ⟨vs, H1, I1, r1, q1⟩ => hc pins s1 σ H1 vs us Q I1 r1 q1) he hpl
theorem pe_callTy (hc : CallR X (.type T) r) (hg : Gl X x) (hm : X.mg x = none) (hv : bootBuiltins x = some (.type T)) (ha : PA X (e :: es) t) (hn : x ≠ "__name__" := by decide) (hdb : (x == ("__debug__" : Str)) = false := by decide)
  (he : starEach (e :: es) X.env = (false, eval e X.env) :: starEach es X.env := by rfl) (hpl : (backTo pos (starEach es X.env)).any (·.1) = false := by rfl) : PE X (.Call (.Name x p) (e :: es) [] pos) (tCB r t) := by
 intro pins s σ H Q I h
 refine wpAny_Call_Name_kw (ld_blt I hg hm hv ?_ hn hdb)
 exact PyProof.Rows.callWith_type1 (thn (ha pos pins s σ H _ I h) fun us s1 ⟨vs, H1, I1, r1, q1⟩ => hc pins s1 σ H1 vs us Q I1 r1 q1) he hpl
end
end L2
namespace HT
open PySem PyProof.Rows
section
open PySem.SeqAt
open PySem.AutoSeq1 (wpAny_loadPart')
open PySem.MeetsSeq PySem.MeetsSeq2 PySem.MeetsSeq3
end
section
variable {prog : Program} {w : World} {A : Around} {E : Value → Shared → Prop} {s : Shared}
theorem cat_tup {t b : Addr} {vs ws : List Value} {Q : Value → Shared → Prop} (ht : IsTup s.heap t vs.toArray) (hb : IsTup s.heap b ws.toArray) (hv : vs ≠ [])
   (h1 : ws = [] → Q (.ref t) s) (h2 : ws ≠ [] → Q (.ref s.heap.objs.size) { s with heap := s.heap.push { cls := .type "tuple", data := .seq (vs ++ ws).toArray } })
   (hsz : vs.length + ws.length ≤ sizeLine) : wpAny (model prog w) A (binaryOp .Add (.ref t) (.ref b)) Q E s := by
 obtain ⟨⟨cls, dd, data, sl⟩, ho, hc, n, hd⟩ := id ht
 obtain ⟨⟨cls2, dd2, data2, sl2⟩, ho2, hc2, n2, hd2⟩ := id hb
 simp only at hc hd hc2 hd2
 subst hc hd hc2 hd2
 have e : vs.toArray ++ ws.toArray = (vs ++ ws).toArray := by simp
 by_cases hw : ws = []
 · exact concat_meets ⟨_, ho, rfl⟩ ⟨_, ho2, rfl⟩ noFill_tuple_add seq_tuple_add PySem.F.slot_tuple_add PySem.F.entry_tuple_add (PySem.F.args_tuple_add_2 _ _)
    (tuple_addW1 t b vs.toArray ws.toArray n n2 dd dd2 sl sl2 (by simpa using hv) (by simp [hw])) ⟨ho, ho2, h1 hw⟩
 · refine concat_meets ⟨_, ho, rfl⟩ ⟨_, ho2, rfl⟩ noFill_tuple_add seq_tuple_add PySem.F.slot_tuple_add PySem.F.entry_tuple_add (PySem.F.args_tuple_add_2 _ _)
    (tuple_addW2 t b vs.toArray ws.toArray n n2 dd dd2 sl sl2 (by simpa using hv) (by simpa using hw) (by rw [List.size_toArray, List.size_toArray]; exact hsz)) ⟨ho, ho2, ?_⟩
   rw [e]
   exact h2 hw
def sIx (n d : Nat) : Option Int → Nat
 | none => d
 | some v => if v < 0 then (v + (n : Int)).toNat else min v.toNat n
theorem sIx_none (n d : Nat) : sIx n d none = d := rfl
theorem sIx_nat (n d k : Nat) : sIx n d (some (k : Int)) = min k n := by
 show (if (k : Int) < 0 then ((k : Int) + (n : Int)).toNat else min (k : Int).toNat n) = min k n
 rw [if_neg (by omega), Int.toNat_natCast]
theorem sIx_le (n d : Nat) (hd : d ≤ n) (o : Option Int) : sIx n d o ≤ n := by
  cases o with
  | none => exact hd
  | some v =>
    show (if v < 0 then (v + (n : Int)).toNat else min v.toNat n) ≤ n
    by_cases hv : v < 0
    · rw [if_pos hv]; omega
    · rw [if_neg hv]; exact Nat.min_le_right _ _
theorem clip_eq (v : Int) (n d : Nat) : (if v < 0 then max (v + (n : Int)) 0 else min v (n : Int)) = ((sIx n d (some v) : Nat) : Int) := by
 show (if v < 0 then max (v + (n : Int)) 0 else min v (n : Int)) = (((if v < 0 then (v + (n : Int)).toNat else min v.toNat n) : Nat) : Int)
 by_cases hv : v < 0
 · simp only [if_pos hv]; omega
 · simp only [if_neg hv]; omega
theorem adjust_gen (lo hi : Option Int) (n : Nat) : Builtin.Slice.sliceAdjust lo hi 1 (n : Int) = (((sIx n 0 lo : Nat) : Int), ((sIx n n hi : Nat) : Int)) := by
 have h1 : ¬ ((1 : Int) < 0) := by omega
 unfold Builtin.Slice.sliceAdjust
 simp only [h1, if_false]
 refine Prod.ext ?_ ?_
 · cases lo with
   | none => rfl
   | some v => exact clip_eq v n 0
 · cases hi with
   | none => rfl
   | some v => exact clip_eq v n n
theorem places_gen (i j : Nat) : Builtin.Slice.slicePlaces (i : Int) (j : Int) 1 = j - i := by
 unfold Builtin.Slice.slicePlaces
 have h1 : (1 : Int) > 0 := by omega
 simp only [h1, if_true, Int.ediv_one]
 split <;> omega
theorem slicePart_ {v : Value} {o : Option Int} {Q : Option Int → Shared → Prop} (p : IsPart v o) (h : Q o s) : wpAny (model prog w) A (Builtin.Slice.slicePartIndex v) Q E s := by
 cases p with
 | none => exact slicePart_none h
 | int i t => exact slicePart_int h
theorem sliceApplied_gen {sl : Addr} {vl vu : Value} {lo hi : Option Int} {n : Nat} {Q : Int × Int × Nat → Shared → Prop} (hs : s.heap.IsSliceOf sl vl vu .none) (pl : IsPart vl lo) (pu : IsPart vu hi)
  (h : Q (((sIx n 0 lo : Nat) : Int), 1, sIx n n hi - sIx n 0 lo) s) : wpAny (model prog w) A (Builtin.Slice.sliceApplied (.ref sl) (pure (n : Int))) Q E s := by
 obtain ⟨os, hos, hcs, hds⟩ := id hs
 unfold Builtin.Slice.sliceApplied Builtin.Slice.sliceFields
 refine wpAny_bind (wpAny_bind (wpAny_field hos hds (x := vl) rfl (wpAny_bind (wpAny_field hos hds (x := vu) rfl (wpAny_bind (wpAny_field hos hds (x := .none) rfl (wpAny_pure ?_)))))))
 refine wpAny_bind (slicePart_none ?_)
 show wpAny _ _ (if ((1 : Int) == 0) = true then _ else _) _ _ s
 rw [if_neg (by decide)]
 refine wpAny_bind (slicePart_ pl (wpAny_bind (slicePart_ pu (wpAny_bind (wpAny_pure ?_)))))
 show wpAny _ _ (match Builtin.Slice.sliceAdjust lo hi 1 (n : Int) with | (lo, hi) => pure (lo, (1 : Int), Builtin.Slice.slicePlaces lo hi 1)) _ _ s
 rw [adjust_gen lo hi n]
 show wpAny _ _ (pure (((sIx n 0 lo : Nat) : Int), (1 : Int), Builtin.Slice.slicePlaces ((sIx n 0 lo : Nat) : Int) ((sIx n n hi : Nat) : Int) 1)) _ _ s
 rw [places_gen]
 exact wpAny_pure h
theorem pick_gen (xs : Array Value) (i k : Nat) : ((List.range k).filterMap fun (m : Nat) => xs[((i : Int) + (m : Int) * 1).toNat]?).toArray = ((xs.toList.drop i).take k).toArray := by
 have e : (fun (m : Nat) => xs[((i : Int) + (m : Int) * 1).toNat]?) = fun m => xs[i + m]? := by
  funext m
  have : ((i : Int) + (m : Int) * 1).toNat = i + m := by omega
  rw [this]
 rw [e]
 have := pick_run xs i k
 rw [List.filterMap_map] at this
 have e2 : ((fun x => xs[x]?) ∘ fun x => i + x) = fun m => xs[i + m]? := rfl
 rw [e2] at this
 rw [this]
theorem getItem_tuple_cut {t sl : Addr} {items : Array Value} {vl vu : Value} {lo hi : Option Int} {Q : Value → Shared → Prop} (ht : IsTup s.heap t items) (hs : s.heap.IsSliceOf sl vl vu .none) (pl : IsPart vl lo) (pu : IsPart vu hi)
  (hw : ¬ (sIx items.size 0 lo = 0 ∧ sIx items.size items.size hi = items.size))
  (h : Q (.ref s.heap.objs.size) { s with heap := s.heap.push { cls := .type "tuple", data := .seq ((items.toList.drop (sIx items.size 0 lo)).take (sIx items.size items.size hi - sIx items.size 0 lo)).toArray } })
  (hsz : items.size ≤ sizeLine) : wpAny (model prog w) A (getItem (.ref t) (.ref sl)) Q E s := by
 have htake : sizeOk (.seq ((items.toList.drop (sIx items.size 0 lo)).take (sIx items.size items.size hi - sIx items.size 0 lo)).toArray) := by
  show ((items.toList.drop (sIx items.size 0 lo)).take (sIx items.size items.size hi - sIx items.size 0 lo)).toArray.size ≤ sizeLine
  rw [List.size_toArray, List.length_take, List.length_drop, Array.length_toList]
  omega
 have hj : sIx items.size items.size hi ≤ items.size := sIx_le _ _ (Nat.le_refl _) hi
 obtain ⟨os, hos, hcs, hds⟩ := id hs
 have hTs : s.TypeIs (.ref sl) "slice" := ⟨os, hos, hcs⟩
 unfold getItem
 try with_reducible refine wpAny_holding ?_
 first | refine wpAny_bind (wpAny_pure ?_) | skip
 refine wpAny_bind (wpAny_sequenceKey ht.typeIs (by decide) ?_)
 refine wpAny_bind (wpAny_callSpecial?_slot (name := Str.ofString "__getitem__") ht.typeIs PyProof.Rows.slot_tuple_getitem
  (wpAny_call_entry PyProof.Rows.slot_tuple_getitem ht.typeIs entry_tuple_getitem ?_ (args_tuple_getitem _ _)))
 show wpAny _ _ (Builtin.Tuple.tupleItemsOf (.ref t) >>= _) _ _ s
 refine wpAny_bind (tupleItemsOf_ ht ?_)
 refine wpAny_bind (wpAny_typeOf hTs ?_)
 rw [if_pos (by decide)]
 refine wpAny_bind (sliceApplied_gen hs pl pu ?_)
 have hno : ¬ ((((sIx items.size 0 lo : Nat) : Int) == 0 && (1 : Int) == 1 && (sIx items.size items.size hi - sIx items.size 0 lo) == items.size) = true) := by
  intro q
  rw [Bool.and_eq_true, Bool.and_eq_true] at q
  have q1 : ((sIx items.size 0 lo : Nat) : Int) = 0 := eq_of_beq q.1.1
  have q2 : sIx items.size items.size hi - sIx items.size 0 lo = items.size := eq_of_beq q.2
  exact hw ⟨by omega, by omega⟩
 show wpAny _ _ (if (((sIx items.size 0 lo : Nat) : Int) == 0 && (1 : Int) == 1 && (sIx items.size items.size hi - sIx items.size 0 lo) == items.size) = true then _ else _) _ _ s
 rw [if_neg hno, pick_gen]
 first
  | exact wpAny_bind (m := Builtin.Tuple.tupleExact _) (wpAny_newObj_type (wpAny_pure ⟨_, rfl, wpAny_pure h⟩) htake)
  | exact wpAny_bind (m := Builtin.Tuple.tupleExact _) (wpAny_newObj_type (wpAny_bind (wpAny_pure (wpAny_pure ⟨_, rfl, wpAny_pure h⟩))) htake)
  | exact wpAny_bind (wpAny_bind (m := Builtin.Tuple.tupleExact _) (wpAny_newObj_type (wpAny_pure (wpAny_pure ⟨_, rfl, wpAny_pure h⟩)) htake))
  | exact wpAny_bind (wpAny_bind (m := Builtin.Tuple.tupleExact _) (wpAny_newObj_type (wpAny_pure ⟨_, rfl, wpAny_pure h⟩) htake))
end
end HT
namespace L2
open PySem PySem.Spec PyProof.Rows
abbrev TO := St → Hp → (Option Int → Hp → Prop) → Prop
def PO (X : Cx) (e : Option Expr) (t : TO) : Prop :=
 ∀ (pins : List (Addr × Obj)) (s : Shared) (σ : St) (H : Hp) (Q : Option Int → Hp → Prop), Inv X pins σ H s → t σ H Q →
  wpAny (model X.prog X.w) X.A (evalPart e X.env) (fun u s' => ∃ o H', Inv X pins σ H' s' ∧ IsPart u o ∧ Q o H') X.xe s
def tNoPart : TO := fun _ H Q => Q none H
def tPart (t : TE) : TO := fun σ H Q => t σ H fun x H1 => ∃ i, x = .int i ∧ Q (some i) H1
section
variable {X : Cx} {e : Expr} {te : TE} {lo hi : Option Expr} {tl th : TO} {pos p2 : Pos}
theorem po_none : PO X none tNoPart := by
 intro pins s σ H Q I h
 rw [evalPart_none]
 exact wpAny_pure ⟨none, H, I, .none, h⟩
theorem po_some (h : PE X e te) : PO X (some e) (tPart te) := by
 intro pins s σ H Q I hw
 rw [evalPart_some]
 refine thn (h pins s σ H _ I hw) fun u s1 ⟨x, H1, I1, r1, q1⟩ => ?_
 obtain ⟨i, rfl, q⟩ := q1
 obtain ⟨t, rfl⟩ := r1
 exact ⟨some i, H1, I1, .int i t, q⟩
def SlR (X : Cx) (r : V → Option Int → Option Int → Hp → VK → Prop) : Prop :=
 ∀ (pins : List (Addr × Obj)) (s : Shared) (σ : St) (H : Hp) (x : V) (v vl vu : Value) (lo hi : Option Int) (sl : Addr) (Q : VK), Inv X pins σ H s → RelV x v → s.heap.IsSliceOf sl vl vu .none → IsPart vl lo → IsPart vu hi → r x lo hi H Q →
  ∃ T id, typeLookup (.type T) "__getitem__" = pure (some (.builtin id)) ∧ s.TypeIs v T ∧ wpAny (model X.prog X.w) X.A (getItem v (.ref sl)) (EP X pins σ Q) X.xe s
theorem SlR.or {r r' : V → Option Int → Option Int → Hp → VK → Prop} (h : SlR X r) (h' : SlR X r') : SlR X (fun x lo hi H Q => r x lo hi H Q ∨ r' x lo hi H Q) := by
 intro pins s σ H x v vl vu lo hi sl Q I rx hs pl pu q
 rcases q with q | q
 · exact h pins s σ H x v vl vu lo hi sl Q I rx hs pl pu q
 · exact h' pins s σ H x v vl vu lo hi sl Q I rx hs pl pu q
def tSl (r : V → Option Int → Option Int → Hp → VK → Prop) (te : TE) (tl th : TO) : TE := fun σ H Q => te σ H fun x H1 => tl σ H1 fun l H2 => th σ H2 fun u H3 => r x l u H3 Q
theorem pe_slice {r : V → Option Int → Option Int → Hp → VK → Prop} (hr : SlR X r) (he : PE X e te) (hl : PO X lo tl) (hu : PO X hi th) : PE X (.Subscript e (.Slice lo hi none p2) pos) (tSl r te tl th) := by
 intro pins s σ H Q I h
 refine Subscript_ (thn (he pins s σ H _ I h) fun v s1 ⟨x, H1, I1, r1, q1⟩ => ?_)
 refine wpAny_Slice (thn (hl pins s1 σ H1 _ I1 q1) fun vl s2 ⟨l, H2, I2, pl, q2⟩ => thn (hu pins s2 σ H2 _ I2 q2) fun vu s3 ⟨u, H3, I3, pu, q3⟩ => ?_)
 rw [evalPart_none]
 refine wpAny_pure ?_
 have I4 : Inv X pins σ H3 { s3 with heap := s3.heap.push { cls := .type "slice", data := .fields #[vl, vu, .none] } } := I3.kept (t' := s3.toks) fun b ob q => Heap.get?_push_of_some _ q
 obtain ⟨T, id, hT, ht, hg⟩ := hr pins { s3 with heap := s3.heap.push { cls := .type "slice", data := .fields #[vl, vu, .none] } } σ H3 x v vl vu l u s3.heap.objs.size Q I4 r1 (Heap.IsSliceOf.new ..) pl pu q3
 show wpAny (model X.prog X.w) X.A (subscriptTail e (.Slice lo hi none p2) v (.ref s3.heap.objs.size)) (EP X pins σ Q) X.xe { s3 with heap := s3.heap.push { cls := .type "slice", data := .fields #[vl, vu, .none] } }
 exact tail_any (ops := [.ref s3.heap.objs.size, v]) ht hT hg (by with_unfolding_all rfl)
def cutV (xs : List V) (lo hi : Option Int) : List V := (xs.drop (HT.sIx xs.length 0 lo)).take (HT.sIx xs.length xs.length hi - HT.sIx xs.length 0 lo)
theorem cutV_length (xs : List V) (lo hi : Option Int) : (cutV xs lo hi).length ≤ xs.length := by
 unfold cutV
 rw [List.length_take, List.length_drop]
 omega
def rSlT (K : PySem.W.Frag) : V → Option Int → Option Int → Hp → VK → Prop := fun x lo hi H Q => ∃ a xs, x = .ref a ∧ SqT K H a xs ∧
 ¬ (HT.sIx xs.length 0 lo = 0 ∧ HT.sIx xs.length xs.length hi = xs.length) ∧ ∀ p, H p = none → Q (.ref p) (upd H p (.tup (cutV xs lo hi)))
theorem sl_tup : SlR X (rSlT X.K) := by
 intro pins s σ H x v vl vu lo hi sl Q I rx hs pl pu h
 obtain ⟨a, xs, rfl, hx, hw, q⟩ := h
 cases rx
 obtain ⟨its, r, ht, hz⟩ := I.tuple hx
 have hlen : its.toArray.size = xs.length := by rw [List.size_toArray]; exact r.length.symm
 refine ⟨"tuple", _, PyProof.Rows.slot_tuple_getitem.lookup, ht.typeIs, ?_⟩
 refine HT.getItem_tuple_cut ht hs pl pu (by rw [hlen]; exact hw) ?_ (by rw [hlen]; exact hz)
 rw [hlen]
 refine ⟨.ref s.heap.objs.size, _, I.laid (t' := s.toks) (o := .tup (cutV xs lo hi)) (fun b ob q => Heap.get?_push_of_some _ q) (Nat.le_refl _) ?_, rfl, q _ (I.hok.fresh (Nat.le_refl _))⟩
 exact ⟨Nat.le_trans (cutV_length xs lo hi) hz, _, (r.drop (HT.sIx xs.length 0 lo)).take (HT.sIx xs.length xs.length hi - HT.sIx xs.length 0 lo), IsTup.new _ _⟩
def rCatT (K : PySem.W.Frag) : R2 := fun x y H Q => ∃ a b xs ys, x = .ref a ∧ y = .ref b ∧ SqT K H a xs ∧ SqT K H b ys ∧ xs ≠ [] ∧ xs.length + ys.length ≤ sizeLine ∧
 (ys = [] → Q (.ref a) H) ∧ (ys ≠ [] → ∀ p, H p = none → Q (.ref p) (upd H p (.tup (xs ++ ys))))
theorem Vals.nil_iff {xs : List V} {us : List Value} (r : Vals xs us) : us = [] ↔ xs = [] := by
 cases r with
 | nil => simp
 | cons _ _ => simp
theorem op_catT : OpR X (binaryOp .Add) (rCatT X.K) := by
 intro pins s σ H x y v u Q I rx ry h
 obtain ⟨a, b, xs, ys, rfl, rfl, ha, hb, hx, hz, q1, q2⟩ := h
 cases rx
 cases ry
 obtain ⟨its, r1, p1, _⟩ := I.tuple ha
 obtain ⟨its2, r2, p2, _⟩ := I.tuple hb
 refine HT.cat_tup p1 p2 (fun z => hx (r1.nil_iff.mp z)) (fun z => ⟨.ref a, H, I, rfl, q1 (r2.nil_iff.mp z)⟩) (fun z => ?_) (by rw [← r1.length, ← r2.length]; exact hz)
 refine ⟨.ref s.heap.objs.size, _, I.laid (t' := s.toks) (o := .tup (xs ++ ys)) (fun b ob q => Heap.get?_push_of_some _ q) (Nat.le_refl _) ?_, rfl, q2 (fun w => z (r2.nil_iff.mpr w)) _ (I.hok.fresh (Nat.le_refl _))⟩
 exact ⟨by rw [List.length_append]; exact hz, _, r1.append r2, IsTup.new _ _⟩
end
end L2
namespace L2
open PySem PySem.Spec PyProof.Rows
def ixN (n : Nat) (i : Int) : Option Nat := if 0 ≤ i then (if i < n then some i.toNat else none) else if -(n : Int) ≤ i then some (i + n).toNat else none
def atI {α : Type} (xs : List α) (i : Int) : Option α := (ixN xs.length i).bind fun j => xs[j]?
theorem ixN_seq {n : Nat} {i : Int} {j : Nat} (h : ixN n i = some j) : seqIndex? i n = some j ∧ j < n ∧ -(n : Int) ≤ i ∧ i < n := by
 unfold ixN at h
 by_cases h0 : 0 ≤ i
 · rw [if_pos h0] at h
   by_cases h1 : i < n
   · rw [if_pos h1] at h
     have e : i.toNat = j := Option.some.inj h
     exact ⟨by rw [seqIndex_of h0 h1, e], by omega, by omega, h1⟩
   · rw [if_neg h1] at h; cases h
 · rw [if_neg h0] at h
   by_cases h1 : -(n : Int) ≤ i
   · rw [if_pos h1] at h
     have e : (i + n).toNat = j := Option.some.inj h
     exact ⟨by rw [seqIndex_neg (by omega) h1, e], by omega, h1, by omega⟩
   · rw [if_neg h1] at h; cases h
theorem atI_get {α : Type} {xs : List α} {i : Int} {v : α} (h : atI xs i = some v) : ∃ j, seqIndex? i xs.length = some j ∧ xs[j]? = some v ∧ j < xs.length ∧ -(xs.length : Int) ≤ i ∧ i < xs.length := by
  unfold atI at h
  cases e : ixN xs.length i with
  | none => rw [e] at h; cases h
  | some j =>
    rw [e] at h
    obtain ⟨h1, h2, h3, h4⟩ := ixN_seq e
    exact ⟨j, h1, h, h2, h3, h4⟩
theorem atI_last {α : Type} (xs : List α) (v : α) : atI (xs ++ [v]) (-1) = some v := by
 have hl : (xs ++ [v]).length = xs.length + 1 := by simp
 have e : ixN (xs ++ [v]).length (-1) = some xs.length := by
  unfold ixN
  rw [hl, if_neg (by decide), if_pos (by omega)]
  congr 1
  omega
 unfold atI
 rw [e]
 show (xs ++ [v])[xs.length]? = some v
 simp
def PlainIx (b : Expr) : Prop := ∀ o i, subscripted b false o i = operate [o, i] (getItem o i)
def IxR (X : Cx) (r : R2) : Prop :=
 ∀ (value slice : Expr) (pins : List (Addr × Obj)) (s : Shared) (σ : St) (H : Hp) (x y : V) (v u : Value) (Q : VK), Inv X pins σ H s → RelV x v → RelV y u → r x y H Q →
  subscripted slice false v u = operate [v, u] (getItem v u) → wpAny (model X.prog X.w) X.A (subscriptTail value slice v u) (EP X pins σ Q) X.xe s
def MtR (X : Cx) (id : String) (r : V → List V → Hp → VK → Prop) : Prop :=
 ∀ (pins : List (Addr × Obj)) (s : Shared) (σ : St) (H : Hp) (x : V) (xs : List V) (v : Value) (us : List Value) (Q : VK), Inv X pins σ H s → RelV x v → Vals xs us → r x xs H Q →
  wpAny (model X.prog X.w) X.A (call (.builtin id) (v :: us)) (EP X pins σ Q) X.xe s
section
variable {X : Cx} {a b : Expr} {ta tb : TE} {pos : Pos}
theorem IxR.or {r r' : R2} (h : IxR X r) (h' : IxR X r') : IxR X (fun x y H Q => r x y H Q ∨ r' x y H Q) := by
 intro value slice pins s σ H x y v u Q I rx ry q hs
 rcases q with q | q
 · exact h value slice pins s σ H x y v u Q I rx ry q hs
 · exact h' value slice pins s σ H x y v u Q I rx ry q hs
theorem pe_ix {r : R2} (hr : IxR X r) (ha : PE X a ta) (hb : PE X b tb) (hs : PlainIx b) : PE X (.Subscript a b pos) (tOp r ta tb) := by
 intro pins s σ H Q I h
 exact Subscript_ (binT ha hb I h fun v u s2 x y H2 I2 rx ry q => hr a b pins s2 σ H2 x y v u Q I2 rx ry q (hs _ _))
def rIxL (K : PySem.W.Frag) : R2 := fun x y H Q => ∃ p xs i v, x = .ref p ∧ y = .int i ∧ SqL K H p xs ∧ atI xs i = some v ∧ Q v H
def rIxT (K : PySem.W.Frag) : R2 := fun x y H Q => ∃ p xs i v, x = .ref p ∧ y = .int i ∧ SqT K H p xs ∧ atI xs i = some v ∧ Q v H
def rIxS : R2 := fun x y H Q => ∃ z i c, x = .str z ∧ y = .int i ∧ z.length ≤ sizeLine ∧ atI z.cps.toList i = some c ∧ Q (.str ⟨#[c]⟩) H
theorem ix_list : IxR X (rIxL X.K) := by
 intro value slice pins s σ H x y v u Q I rx ry h hs
 obtain ⟨p, xs, i, z, rfl, rfl, hq, he, q⟩ := h
 cases rx
 obtain ⟨t, rfl⟩ := ry
 obtain ⟨its, r, pl, hz⟩ := I.list hq
 obtain ⟨j, h1, h2, h3, h4, h5⟩ := atI_get he
 obtain ⟨w, ew, rw'⟩ := r.get h2
 have hl := r.length
 have hn := line63
 have fin : EP X pins σ Q w s := ⟨z, H, I, rw', q⟩
 by_cases h0 : 0 ≤ i
 · have hj : i.toNat = j := by
    rw [seqIndex_of h0 h5] at h1
    exact Option.some.inj h1
   exact item_listR pl.isList h0 (by omega) (by rw [hj]; simpa using ew) fin hs
 · have hj : (i + (its.toArray.size : Int)).toNat = j := by
    rw [seqIndex_neg (by omega) h4] at h1
    rw [List.size_toArray, ← hl]
    exact Option.some.inj h1
   exact subscriptTail_builtinR (x := w) pl.isList.typeIs slot_list_getitem.lookup
    (wpAny_getItem_list_neg (Q := fun r s' => r = w ∧ EP X pins σ Q r s') pl.isList (by omega) (by rw [List.size_toArray] <;> omega) (by omega) (by rw [hj]; simpa using ew) ⟨rfl, fin⟩) hs
theorem ix_tup : IxR X (rIxT X.K) := by
 intro value slice pins s σ H x y v u Q I rx ry h hs
 obtain ⟨p, xs, i, z, rfl, rfl, hq, he, q⟩ := h
 cases rx
 obtain ⟨t, rfl⟩ := ry
 obtain ⟨its, r, pl, hz⟩ := I.tuple hq
 obtain ⟨j, h1, h2, h3, h4, h5⟩ := atI_get he
 obtain ⟨w, ew, rw'⟩ := r.get h2
 have hl := r.length
 have hn := line63
 have fin : EP X pins σ Q w s := ⟨z, H, I, rw', q⟩
 exact subscriptTail_builtinR (x := w) pl.typeIs slot_tuple_getitem.lookup
  (getItem_tuple (j := j) (Q := fun r s' => r = w ∧ EP X pins σ Q r s') pl (by omega) (by omega) (by rw [List.size_toArray, ← hl]; exact h1) (by simpa using ew) ⟨rfl, fin⟩) hs
theorem ix_str : IxR X rIxS := by
 intro value slice pins s σ H x y v u Q I rx ry h hs
 obtain ⟨z, i, c, rfl, rfl, hz, he, q⟩ := h
 obtain ⟨t, rfl⟩ := rx
 obtain ⟨t', rfl⟩ := ry
 obtain ⟨j, h1, h2, h3, h4, h5⟩ := atI_get he
 have hl : z.cps.toList.length = z.length := by simp [Str.length]
 rw [hl] at h1 h4 h5
 have hn := line63
 exact tail_any (typeIs_str s z t) slot_str_getitem.lookup (getItem_str (c := c) (by
  have e1 : decide (i < -(2 ^ 63 : Int)) = false := decide_eq_false (by omega)
  have e2 : decide (i ≥ 2 ^ 63) = false := decide_eq_false (by omega)
  rw [e1, e2, Bool.or_false]) (by rw [h1]; simpa using h2) ⟨.str ⟨#[c]⟩, H, I.tok _, ⟨_, rfl⟩, q⟩) hs
def rIx (K : PySem.W.Frag) : R2 := fun x y H Q => rIxL K x y H Q ∨ rIxT K x y H Q ∨ rIxS x y H Q
theorem ix_seq : IxR X (rIx X.K) := ix_list.or (ix_tup.or ix_str)
theorem slice_bounds (lo hi : Option Int) (n : Nat) : (sliceBounds lo hi none n).1 = ((HT.sIx n 0 lo : Nat) : Int) ∧ (sliceBounds lo hi none n).2.1 = ((HT.sIx n n hi : Nat) : Int) ∧ (sliceBounds lo hi none n).2.2 = 1 := by
  refine ⟨?_, ?_, rfl⟩
  · cases lo with
    | none => simp [sliceBounds, HT.sIx]
    | some i =>
      simp only [sliceBounds, HT.sIx, Option.getD_none, show (1 : Int) > 0 by decide, if_true]
      by_cases h : i < 0
      · simp only [h, if_true] <;> omega
      · simp only [h, if_false] <;> omega
  · cases hi with
    | none => simp [sliceBounds, HT.sIx]
    | some i =>
      simp only [sliceBounds, HT.sIx, Option.getD_none, show (1 : Int) > 0 by decide, if_true]
      by_cases h : i < 0
      · simp only [h, if_true] <;> omega
      · simp only [h, if_false] <;> omega
theorem slicePick_cut (its : List Value) (lo hi : Option Int) : slicePick its.toArray lo hi none = ((its.drop (HT.sIx its.length 0 lo)).take (HT.sIx its.length its.length hi - HT.sIx its.length 0 lo)).toArray := by
 obtain ⟨h1, h2, h3⟩ := slice_bounds lo hi its.toArray.size
 unfold slicePick
 rw [h1, h2, h3]
 simp only [sliceRange_one, pick_run, List.size_toArray] <;> rfl
def rSlL (K : PySem.W.Frag) : V → Option Int → Option Int → Hp → VK → Prop := fun x lo hi H Q => ∃ a xs, x = .ref a ∧ SqL K H a xs ∧ ∀ p, H p = none → Q (.ref p) (upd H p (.lst (cutV xs lo hi)))
theorem sl_list : SlR X (rSlL X.K) := by
 intro pins s σ H x v vl vu lo hi sl Q I rx hs pl pu h
 obtain ⟨a, xs, rfl, hx, q⟩ := h
 cases rx
 obtain ⟨its, r, ht, hz⟩ := I.list hx
 have hlen := r.length
 refine ⟨"list", _, slot_list_getitem.lookup, ht.isList.typeIs, ?_⟩
 refine wpAny_getItem_list_slice ht.isList hs pl pu .none (by simp) ?_ (by rw [List.size_toArray] <;> omega)
 rw [slicePick_cut, ← hlen]
 refine ⟨.ref s.heap.objs.size, _, I.laid (t' := s.toks) (o := .lst (cutV xs lo hi)) (fun b ob q => Heap.get?_push_of_some _ q) (Nat.le_refl _) ?_, rfl, q _ (I.hok.fresh (Nat.le_refl _))⟩
 exact ⟨Nat.le_trans (cutV_length xs lo hi) hz, _, 0, (r.drop (HT.sIx xs.length 0 lo)).take (HT.sIx xs.length xs.length hi - HT.sIx xs.length 0 lo), Heap.get?_push_size _ rfl⟩
theorem CallR.or {f : Value} {r r' : List V → Hp → VK → Prop} (h : CallR X f r) (h' : CallR X f r') : CallR X f (fun xs H Q => r xs H Q ∨ r' xs H Q) := by
 intro pins s σ H xs us Q I rs q
 rcases q with q | q
 · exact h pins s σ H xs us Q I rs q
 · exact h' pins s σ H xs us Q I rs q
def tyV (K : PySem.W.Frag) (T : String) (x : V) (H : Hp) : Prop := match x with
 | .str _ => T = "str"
 | .int _ => T = "int"
 | .ref p => (T = "list" ∧ ∃ xs, SqL K H p xs) ∨ (T = "tuple" ∧ ∃ o, K.lookup p = some o ∧ o.cls = .type "tuple" ∧ o.dict = none) ∨
  (T = "dict" ∧ ((∃ kvs, H p = some (.dK kvs)) ∨ ∃ kvs, H p = some (.dT kvs))) ∨ (T = "set" ∧ ∃ S n, H p = some (.set S n))
 | _ => False
theorem tyV_is {pins : List (Addr × Obj)} {σ : St} {H : Hp} {s : Shared} {T : String} {x : V} {v : Value} (I : Inv X pins σ H s) (r : RelV x v) (ty : tyV X.K T x H) :
    s.TypeIs v T ∧ ∀ a, v = .ref a → ∃ ob, s.heap.get? a = some ob ∧ ob.dict = none := by
  cases x with
  | str z =>
    obtain ⟨t, rfl⟩ := r
    cases (show T = "str" from ty)
    exact ⟨typeIs_str s z t, fun _ e => nomatch e⟩
  | int i =>
    obtain ⟨t, rfl⟩ := r
    cases (show T = "int" from ty)
    exact ⟨typeIs_int s i t, fun _ e => nomatch e⟩
  | ref p =>
    cases r
    rcases ty with ⟨rfl, xs, hq⟩ | ⟨rfl, o, hk, hc, hd⟩ | ⟨rfl, hk⟩ | ⟨rfl, S, n, hk⟩
    · obtain ⟨its, _, pl, _⟩ := I.list hq
      refine ⟨pl.isList.typeIs, fun a e => ?_⟩
      cases e
      obtain ⟨o, n, e, c, hd, _⟩ := pl
      exact ⟨o, e, hd⟩
    · refine ⟨⟨o, I.kIn p o hk, hc⟩, fun a e => ?_⟩
      cases e
      exact ⟨o, I.kIn _ o hk, hd⟩
    · have z : ∃ o, s.heap.get? p = some o ∧ o.ExactDict := by
        rcases hk with ⟨kvs, hk⟩ | ⟨kvs, hk⟩
        · obtain ⟨_, _, _, _, o, _, _, e, ex, _⟩ := I.hok p _ hk
          exact ⟨o, e, ex⟩
        · obtain ⟨_, _, _, _, o, _, _, e, ex, _⟩ := I.hok p _ hk
          exact ⟨o, e, ex⟩
      obtain ⟨o, e, ex⟩ := z
      refine ⟨⟨o, e, ex.1⟩, fun a e2 => ?_⟩
      cases e2
      exact ⟨o, e, ex.2.1⟩
    · obtain ⟨o, _, _, _, e, ex, _⟩ := I.hok p _ hk
      refine ⟨⟨o, e, ex.1⟩, fun a e2 => ?_⟩
      cases e2
      exact ⟨o, e, ex.2.1⟩
  | _ => exact False.elim ty
def tBM (K : PySem.W.Frag) (T : String) (r : V → List V → Hp → VK → Prop) (to : TE) (t : TA) : TE := fun σ H Q => to σ H fun x H1 => tyV K T x H1 ∧ t σ H1 fun xs H2 => r x xs H2 Q
variable {o e : Expr} {es : List Expr} {to : TE} {t : TA} {name : Str} {apos cpos : Pos} {T id : String} {r : V → List V → Hp → VK → Prop}
theorem pe_bm (pa : PlainAttrs T) (slot : Slot T name id) (hty : typeOf (.builtin id) = pure (.type "method_descriptor")) (hm : MtR X id r) (ho : PE X o to) (ha : PA X (e :: es) t)
  (hbase : attributeBase o name X.env (eval o X.env) = eval o X.env := by rfl)
  (hfew : ((backTo cpos (starEach (e :: es) X.env)).all (fun x => !x.1) && (backToKw cpos (keywordEach [] X.env)).all (fun x => x.1.isSome)
   && decide ((e :: es).length + ([] : List Keyword).length + (if ([] : List Keyword).isEmpty then 0 else 1) < 30)) = true := by rfl)
  (hline : (apos.endLine == cpos.line) = true := by rfl) (hs : starEach (e :: es) X.env = (false, eval e X.env) :: starEach es X.env := by rfl) (hplain : (backTo cpos (starEach es X.env)).any (·.1) = false := by rfl) :
  PE X (.Call (.Attribute o name apos) (e :: es) [] cpos) (tBM X.K T r to t) := by
 intro pins s σ H Q I h
 refine wpAny_Call_method_late hbase hfew hline rfl (thn (ho pins s σ H _ I h) fun v s1 ⟨x, H1, I1, r1, ty, q1⟩ => ?_)
 obtain ⟨h1, h2⟩ := tyV_is I1 r1 ty
 refine ⟨T, id, pa, slot, hty, h1, h2, ?_⟩
 have hA := ha cpos pins s1 σ H1 _ I1 q1
 rw [hs] at hA ⊢
 refine Calls.callWith_builtin (by show (false || (backTo cpos (starEach es X.env)).any (·.1)) = false; rw [hplain] <;> rfl) (Calls.evalArgs_plain ?_)
 exact thn hA fun us s2 ⟨vs, H2, I2, r2, q2⟩ => hm pins s2 σ H2 x vs v us Q I2 r1 r2 q2
end
end L2
namespace L2
open PySem PySem.Spec PyProof.Rows
def MtM (X : Cx) (id : String) (r : V → List V → Hp → VK → Prop) : Prop :=
 ∀ (pins : List (Addr × Obj)) (s : Shared) (σ : St) (H : Hp) (x : V) (xs : List V) (v : Value) (us : List Value) (Q : VK), Inv X pins σ H s → RelV x v → Vals xs us → r x xs H Q →
  wpAny (model X.prog X.w) X.A (call (.builtin id) (v :: us)) (EP X pins σ Q) X.xe s
theorem Vals.one : ∀ {x : V} {us : List Value}, Vals [x] us → ∃ u, us = [u] ∧ RelV x u
 | _, _, .cons r .nil => ⟨_, rfl, r⟩
theorem Vals.rep {xs : List V} {us : List Value} (h : Vals xs us) : ∀ k : Nat, Vals (List.replicate k xs).flatten (List.replicate k us).flatten
  | 0 => .nil
  | k + 1 => by
    rw [List.replicate_succ, List.replicate_succ, List.flatten_cons, List.flatten_cons]
    exact Vals.append h (Vals.rep h k)
theorem foldl_rep (its : List Value) : ∀ (k : Nat) (acc : List Value),
    List.foldl (fun x1 x2 => x1 ++ x2) acc.toArray (List.replicate k its.toArray) = (acc ++ (List.replicate k its).flatten).toArray
  | 0, acc => by simp
  | k + 1, acc => by
    have e : acc.toArray ++ its.toArray = (acc ++ its).toArray := by simp
    have e2 : (acc ++ its) ++ (List.replicate k its).flatten = acc ++ (List.replicate (k + 1) its).flatten := by
      rw [List.replicate_succ, List.flatten_cons, List.append_assoc]
    rw [← e2, ← foldl_rep its k (acc ++ its), ← e, List.replicate_succ, List.foldl_cons]
section
variable {X : Cx} {pins : List (Addr × Obj)} {σ : St} {H : Hp} {s : Shared} {l b : Addr} {xs ys zs : List V}
theorem Inv.lset {its its' : List Value} {n : Nat} {f : Array Value → Array Value} {t' : Nat} (I : Inv X pins σ H s) (hH : H l = some (.lst xs))
  (e : s.heap.get? l = some { cls := .type "list", data := .seq its.toArray n }) (hf : f its.toArray = its'.toArray) (hv : Vals ys its') (hz : ys.length ≤ sizeLine) :
  Inv X pins σ (upd H l (.lst ys)) { s with heap := s.heap.update l (Obj.mapSeq f), toks := t' } := by
 have q := PySem.IsL.update e f
 rw [hf] at q
 refine I.write (x := l) (e := l) (by rw [hH]; exact trivial) (.inl rfl) (fun b' u hb hu => (Heap.get?_update_other s.heap (Obj.mapSeq f) (Ne.symm hb)).trans hu) ⟨_, q⟩ ?_
 exact ⟨hz, its', _, hv, q⟩
theorem Inv.lnew {its : List Value} {t' : Nat} (I : Inv X pins σ H s) (hv : Vals ys its) (hz : ys.length ≤ sizeLine) :
  Inv X pins σ (upd H s.heap.objs.size (.lst ys)) { s with heap := s.heap.push { cls := .type "list", data := .seq its.toArray }, toks := t' } :=
 I.laid (fun _ _ q => Heap.get?_push_of_some _ q) (Nat.le_refl _) ⟨hz, its, 0, hv, Heap.get?_push_size _ rfl⟩
theorem Inv.fresh (I : Inv X pins σ H s) : H s.heap.objs.size = none := I.hok.fresh (Nat.le_refl _)
theorem Inv.lstM (I : Inv X pins σ H s) (hH : H l = some (.lst xs)) : xs.length ≤ sizeLine ∧ ∃ (its : List Value) (n : Nat), Vals xs its ∧ xs.length = its.length ∧ s.heap.get? l = some { cls := .type "list", data := .seq its.toArray n } := by
 obtain ⟨z, its, n, r, e⟩ := I.hok l _ hH
 exact ⟨z, its, n, r, r.length, e⟩
end
section
variable {X : Cx}
def rAppend : V → List V → Hp → VK → Prop := fun x vs H Q => ∃ l xs y, x = .ref l ∧ vs = [y] ∧ H l = some (.lst xs) ∧ xs.length < sizeLine ∧ Q .non (upd H l (.lst (xs ++ [y])))
theorem mt_append : MtM X "list.append" rAppend := by
 intro pins s σ H x vs v us Q I rx rv h
 obtain ⟨l, xs, y, rfl, rfl, hH, hz, q⟩ := h
 cases rx
 obtain ⟨u, rfl, ru⟩ := rv.one
 obtain ⟨z, its, n, r, hl, e⟩ := I.lstM hH
 refine call_meets F.slot_list_append ⟨_, e, rfl⟩ F.entry_list_append (F.args_list_append_2 _ _) (PySem.list_append l its.toArray n u (by rw [List.size_toArray]; omega)) ⟨e, ?_⟩
 refine ⟨.non, _, I.lset (its' := its ++ [u]) hH e (by simp) (r.append (.cons ru .nil)) ?_, rfl, q⟩
 rw [List.length_append, List.length_singleton]
 omega
def rCat : R2 := fun x y H Q => ∃ l b xs zs, x = .ref l ∧ y = .ref b ∧ H l = some (.lst xs) ∧ H b = some (.lst zs) ∧ xs.length + zs.length ≤ sizeLine ∧ ∀ p, H p = none → Q (.ref p) (upd H p (.lst (xs ++ zs)))
theorem op_cat : OpR X (binaryOp .Add) rCat := by
 intro pins s σ H x y v u Q I rx ry h
 obtain ⟨l, b, xs, zs, rfl, rfl, hH, hB, hz, q⟩ := h
 cases rx
 cases ry
 obtain ⟨z, its, n, r, hl, e⟩ := I.lstM hH
 obtain ⟨z2, its2, n2, r2, hl2, e2⟩ := I.lstM hB
 refine PySem.P.add_list e e2 ?_ (by rw [List.size_toArray, List.size_toArray]; omega)
 have ea : its.toArray ++ its2.toArray = (its ++ its2).toArray := by simp
 rw [ea]
 exact ⟨.ref _, _, I.lnew (t' := s.toks) (r.append r2) (by rw [List.length_append]; omega), rfl, q _ I.fresh⟩
theorem len_rep {α : Type} (xs : List α) (k : Nat) : (List.replicate k xs).flatten.length = k * xs.length := by
 induction k with
 | zero => simp
 | succ k ih => rw [List.replicate_succ, List.flatten_cons, List.length_append, ih, Nat.succ_mul, Nat.add_comm]
end
section
variable {prog : Program} {w : World} {A : Around} {E : Value → Shared → Prop} {s : Shared}
set_option maxRecDepth 100000 in
end
section
variable {X : Cx}
end
end L2
namespace L2
open PySem PySem.Spec PyProof.Rows
section
variable {κ : Type} [DecidableEq κ]
def valV (kvs : List (κ × V)) (k : κ) : Option V := (kvs.find? fun kv => decide (kv.1 = k)).map (·.2)
def putK (kvs : List (κ × V)) (k : κ) (v : V) : List (κ × V) :=
 if (kvs.any fun kv => decide (kv.1 = k)) = true then kvs.map (fun kv => if kv.1 = k then (kv.1, v) else kv) else kvs ++ [(k, v)]
theorem valV_pos {p : κ × V} {r : List (κ × V)} {k : κ} (e : p.1 = k) : valV (p :: r) k = some p.2 := by simp [valV, List.find?_cons, e]
theorem valV_neg {p : κ × V} {r : List (κ × V)} {k : κ} (e : ¬ p.1 = k) : valV (p :: r) k = valV r k := by simp [valV, List.find?_cons, e]
theorem valV_any (k : κ) : ∀ kvs : List (κ × V), (kvs.any fun kv => decide (kv.1 = k)) = (valV kvs k).isSome
  | [] => rfl
  | p :: r => by
    rw [List.any_cons]
    by_cases e : p.1 = k
    · simp only [valV_pos e, decide_eq_true e, Bool.true_or, Option.isSome_some]
    · rw [valV_neg e, decide_eq_false e, Bool.false_or]; exact valV_any k r
theorem valV_map (k j : κ) (y : V) : ∀ kvs : List (κ × V), valV (kvs.map fun kv => if kv.1 = k then (kv.1, y) else kv) j = (valV kvs j).map fun x => if j = k then y else x
  | [] => rfl
  | p :: r => by
    have ih := valV_map k j y r
    rw [List.map_cons]
    by_cases h : p.1 = k
    · rw [if_pos h]
      by_cases e : p.1 = j
      · rw [valV_pos (p := (p.1, y)) e, valV_pos e, Option.map_some, if_pos (e.symm.trans h)]
      · rw [valV_neg (p := (p.1, y)) e, valV_neg e, ih]
    · rw [if_neg h]
      by_cases e : p.1 = j
      · rw [valV_pos (p := p) e, valV_pos e, Option.map_some, if_neg (fun z => h (e.trans z))]
      · rw [valV_neg (p := p) e, valV_neg e, ih]
theorem valV_snoc (k j : κ) (y : V) : ∀ kvs : List (κ × V), valV kvs k = none → valV (kvs ++ [(k, y)]) j = if j = k then some y else valV kvs j
  | [], _ => by
    by_cases e : k = j
    · rw [if_pos e.symm]; exact valV_pos (p := (k, y)) e
    · rw [if_neg (fun z => e z.symm)]; exact valV_neg (p := (k, y)) e
  | p :: r, hn => by
    rw [List.cons_append]
    have hk : ¬ p.1 = k := fun z => by rw [valV_pos z] at hn; cases hn
    rw [valV_neg hk] at hn
    have ih := valV_snoc k j y r hn
    by_cases e : p.1 = j
    · rw [valV_pos e, valV_pos e, if_neg (fun z => hk (e.trans z))]
    · rw [valV_neg e, valV_neg e, ih]
theorem valV_put (kvs : List (κ × V)) (k j : κ) (y : V) : valV (putK kvs k y) j = if j = k then some y else valV kvs j := by
 unfold putK
 by_cases a : (kvs.any fun kv => decide (kv.1 = k)) = true
 · rw [if_pos a, valV_map]
   rw [valV_any] at a
   by_cases e : j = k
   · obtain ⟨x, hx⟩ := Option.isSome_iff_exists.mp a
     rw [if_pos e, e, hx, Option.map_some, if_pos rfl]
   · rw [if_neg e]
     cases valV kvs j with
     | none => rfl
     | some x => rw [Option.map_some, if_neg e]
 · rw [if_neg a]
   refine valV_snoc k j y kvs ?_
   rw [valV_any] at a
   cases q : valV kvs k with
   | none => rfl
   | some x => rw [q] at a; exact (a rfl).elim
theorem length_putK (kvs : List (κ × V)) (k : κ) (v : V) : (putK kvs k v).length ≤ kvs.length + 1 := by
 unfold putK
 split
 · rw [List.length_map]; omega
 · rw [List.length_append, List.length_cons, List.length_nil]; omega
theorem putK_new {kvs : List (κ × V)} {k : κ} (v : V) (h : valV kvs k = none) : putK kvs k v = kvs ++ [(k, v)] := by
 unfold putK
 rw [valV_any, h]
 exact if_neg (by decide)
theorem RelO.isSome_eq {o : Option V} {u : Option Value} (r : RelO o u) : o.isSome = u.isSome := by
  cases o with
  | none => cases u with
    | none => rfl
    | some _ => exact (show False from r).elim
  | some _ => cases u with
    | none => exact (show False from r).elim
    | some _ => rfl
theorem KV.val {kvs : List (κ × V)} {vs : List (κ × Value)} (r : KV kvs vs) (k : κ) : RelO (valV kvs k) (valueAt vs k) := by
  unfold KV at r
  induction r with
  | nil => exact True.intro
  | @cons p q ps qs h t ih =>
    obtain ⟨h1, h2⟩ := h
    by_cases e : p.1 = k
    · have e' : q.1 = k := h1.symm.trans e
      have b : valueAt (q :: qs) k = some q.2 := by simp [valueAt, List.find?_cons, e']
      rw [valV_pos e, b]; exact h2
    · have e' : ¬ q.1 = k := fun z => e (h1.trans z)
      have b : valueAt (q :: qs) k = valueAt qs k := by simp [valueAt, List.find?_cons, e']
      rw [valV_neg e, b]; exact ih
theorem KV.any {kvs : List (κ × V)} {vs : List (κ × Value)} (r : KV kvs vs) (k : κ) : (kvs.any fun kv => decide (kv.1 = k)) = vs.any fun kv => decide (kv.1 = k) := by
 unfold KV at r
 induction r with
 | nil => rfl
 | cons h t ih => rw [List.any_cons, List.any_cons, ih, h.1]
theorem KV.repl {kvs : List (κ × V)} {vs : List (κ × Value)} (r : KV kvs vs) (k : κ) {y : V} {u : Value} (ry : RelV y u) :
    KV (kvs.map fun kv => if kv.1 = k then (kv.1, y) else kv) (vs.map fun kv => if kv.1 = k then (kv.1, u) else kv) := by
  unfold KV at r ⊢
  induction r with
  | nil => exact .nil
  | @cons p q ps qs h t ih =>
    rw [List.map_cons, List.map_cons]
    refine .cons ?_ ih
    obtain ⟨h1, h2⟩ := h
    by_cases e : p.1 = k
    · rw [if_pos e, if_pos (h1.symm.trans e)]; exact ⟨h1, ry⟩
    · rw [if_neg e, if_neg (fun z => e (h1.trans z))]; exact ⟨h1, h2⟩
theorem KV.put {kvs : List (κ × V)} {vs : List (κ × Value)} (r : KV kvs vs) (k : κ) {y : V} {u : Value} (ry : RelV y u) : KV (putK kvs k y) (stored vs k u) := by
 unfold putK stored
 rw [r.any k]
 by_cases e : (vs.any fun kv => decide (kv.1 = k)) = true
 · rw [if_pos e, if_pos e]; exact r.repl k ry
 · rw [if_neg e, if_neg e]; exact Paired.snoc r ⟨rfl, ry⟩
theorem KV.length {kvs : List (κ × V)} {vs : List (κ × Value)} (r : KV kvs vs) : kvs.length = vs.length := Paired.length r
end
theorem kV_is {P : Program} {w : World} {k : Key} {u : Value} (r : RelV (kV k) u) : (mixKind P w).is k u = true := by
 cases k with
 | inl i => obtain ⟨t, e⟩ := (show ∃ t, u = Value.int i t from r); subst e; exact mixKind_int P w i t
 | inr x => obtain ⟨t, e⟩ := (show ∃ t, u = Value.str x t from r); subst e; exact mixKind_str P w x t
theorem kV_inj {a b : Key} (e : kV a = kV b) : a = b := by
  cases a with
  | inl i => cases b with
    | inl j => have e' : V.int i = V.int j := e; injection e' with e'; rw [e']
    | inr y => exact nomatch (show V.int i = V.str y from e)
  | inr x => cases b with
    | inl j => exact nomatch (show V.str x = V.int j from e)
    | inr y => have e' : V.str x = V.str y := e; injection e' with e'; rw [e']
theorem kVs_inj : ∀ {a b : List Key}, a.map kV = b.map kV → a = b
  | [], [], _ => rfl
  | [], _ :: _, e => by simp at e
  | _ :: _, [], e => by simp at e
  | x :: xs, y :: ys, e => by
    rw [List.map_cons, List.map_cons] at e
    injection e with e1 e2
    rw [kV_inj e1, kVs_inj e2]
theorem items_are {P : Program} {w : World} : ∀ {ks : List Key} {us : List Value}, Vals (ks.map kV) us → ItemsAre (mixKind P w) ks us
  | [], _, r => by rw [List.map_nil] at r; cases r; exact .nil
  | k :: ks, _, r => by
    rw [List.map_cons] at r
    cases r with
    | cons h t => exact .cons (kV_is h) (items_are t)
abbrev KT (H : Hp) : List (List Key × V) → List (List Key × Addr × Value) → Prop := Paired fun p q => p.1 = q.1 ∧ H q.2.1 = some (.tup (p.1.map kV)) ∧ RelV p.2 q.2.2
theorem KT.val {H : Hp} {kvs : List (List Key × V)} {xs : List (List Key × Addr × Value)} (r : KT H kvs xs) (k : List Key) : RelO (valV kvs k) ((atKey xs k).map (·.2)) := by
  induction r with
  | nil => exact True.intro
  | @cons p q ps qs h t ih =>
    obtain ⟨h1, _, h2⟩ := h
    by_cases e : p.1 = k
    · have e' : q.1 = k := h1.symm.trans e
      have b : atKey (q :: qs) k = some q.2 := by simp [atKey, List.find?_cons, e']
      rw [valV_pos e, b]; exact h2
    · have e' : ¬ q.1 = k := fun z => e (h1.trans z)
      have b : atKey (q :: qs) k = atKey qs k := by simp [atKey, List.find?_cons, e']
      rw [valV_neg e, b]; exact ih
theorem KT.repl {H : Hp} {kvs : List (List Key × V)} {xs : List (List Key × Addr × Value)} (r : KT H kvs xs) (k : List Key) {y : V} {u : Value} (ry : RelV y u) :
    KT H (kvs.map fun kv => if kv.1 = k then (kv.1, y) else kv) (xs.map (putAt k u)) := by
  induction r with
  | nil => exact .nil
  | @cons p q ps qs h t ih =>
    rw [List.map_cons, List.map_cons]
    refine .cons ?_ ih
    obtain ⟨h1, h2, h3⟩ := h
    unfold putAt
    by_cases e : p.1 = k
    · rw [if_pos e, if_pos (h1.symm.trans e)]; exact ⟨h1, h2, ry⟩
    · rw [if_neg e, if_neg (fun z => e (h1.trans z))]; exact ⟨h1, h2, h3⟩
theorem KT.put {H : Hp} {kvs : List (List Key × V)} {xs : List (List Key × Addr × Value)} (r : KT H kvs xs) (k : List Key) {b : Addr} {y : V} {u : Value} (hb : H b = some (.tup (k.map kV))) (ry : RelV y u) :
   KT H (putK kvs k y) (storedH xs k b u) := by
 have e : (kvs.any fun kv => decide (kv.1 = k)) = (atKey xs k).isSome := by
   rw [valV_any, (r.val k).isSome_eq, Option.isSome_map]
 unfold putK storedH
 rw [e]
 by_cases q : (atKey xs k).isSome = true
 · rw [if_pos q, if_pos q]; exact r.repl k ry
 · rw [if_neg q, if_neg q]; exact Paired.snoc r ⟨rfl, hb, ry⟩
theorem KT.keeps {H H' : Hp} {kvs : List (List Key × V)} {xs : List (List Key × Addr × Value)} (r : KT H kvs xs) (ht : ∀ b ys, H b = some (.tup ys) → H' b = some (.tup ys)) : KT H' kvs xs :=
 Paired.mapP r fun _ _ z => ⟨z.1, ht _ _ z.2.1, z.2.2⟩
section
variable {P : Program} {w : World} {H : Hp} {h : Heap} {a : Addr}
theorem rd_of {u : HO} (ok : HOk P w H h) (e : Rd H a u) : ObjOk P w H h a u := e.ok ok
theorem dk_rd {kvs : List (Key × V)} (ok : HOk P w H h) (e : Rd H a (.dK kvs)) : kvs.length ≤ sizeLine ∧ (a == sysModules) = false ∧ ∃ vs, KV kvs vs ∧ h.DictOf (mixKind P w) a vs :=
 show ObjOk P w H h a (.dK kvs) from rd_of ok e
theorem dk_of {kvs : List (Key × V)} (ok : HOk P w H h) (e : H a = some (.dK kvs)) : kvs.length ≤ sizeLine ∧ (a == sysModules) = false ∧ ∃ vs, KV kvs vs ∧ h.DictOf (mixKind P w) a vs := dk_rd ok (.inl e)
theorem key_of {ks : List Key} (ok : HOk P w H h) (e : H a = some (.tup (ks.map kV))) : (tupleKind (mixKind P w)).is h ks a := by
 obtain ⟨_, its, r, o, h1, h2, n, h3⟩ := (show ObjOk P w H h a (.tup (ks.map kV)) from ok a _ e)
 exact ⟨o, its.toArray, n, h1, h2, h3, by simpa using items_are r⟩
theorem dt_rd {kvs : List (List Key × V)} (ok : HOk P w H h) (e : Rd H a (.dT kvs)) : kvs.length ≤ sizeLine ∧ (a == sysModules) = false ∧
    ∃ xs, KT H kvs xs ∧ h.DictOfH (tupleKind (mixKind P w)) a xs := by
  obtain ⟨z, y, xs, r, o, es, ep, h1, h2, h3, h4, h5⟩ := (show ObjOk P w H h a (.dT kvs) from rd_of ok e)
  refine ⟨z, y, xs, r, o, es, ep, h1, h2, h3, h4, fun x hx => ?_, h5⟩
  have all : ∀ {l : List (List Key × V)} {m : List (List Key × Addr × Value)}, KT H l m → ∀ x ∈ m, (tupleKind (mixKind P w)).is h x.1 x.2.1 := by
    intro l m q
    induction q with
    | nil => intro x hx; exact nomatch hx
    | @cons p q ps qs hq t ih =>
      intro x hx
      rcases List.mem_cons.mp hx with e | hx
      · subst e
        exact key_of ok (by rw [← hq.1]; exact hq.2.1)
      · exact ih x hx
  exact all r x hx
theorem dt_of {kvs : List (List Key × V)} (ok : HOk P w H h) (e : H a = some (.dT kvs)) : kvs.length ≤ sizeLine ∧ (a == sysModules) = false ∧
 ∃ xs, KT H kvs xs ∧ h.DictOfH (tupleKind (mixKind P w)) a xs := dt_rd ok (.inl e)
end
def DGet (H : Hp) (a : Addr) (y : V) (r : Option V) : Prop :=
 (∃ kvs k, Rd H a (.dK kvs) ∧ y = kV k ∧ r = valV kvs k) ∨ ∃ kvs k b, Rd H a (.dT kvs) ∧ y = .ref b ∧ H b = some (.tup (k.map kV)) ∧ r = valV kvs k
def DPut (H : Hp) (a : Addr) (y v : V) (H' : Hp) : Prop :=
 (∃ kvs k, H a = some (.dK kvs) ∧ y = kV k ∧ kvs.length < sizeLine ∧ H' = upd H a (.dK (putK kvs k v))) ∨
 ∃ kvs k b, H a = some (.dT kvs) ∧ y = .ref b ∧ H b = some (.tup (k.map kV)) ∧ kvs.length < sizeLine ∧ H' = upd H a (.dT (putK kvs k v))
theorem DGet.k {H : Hp} {a : Addr} {kvs : List (Key × V)} {k : Key} (e : H a = some (.dK kvs)) : DGet H a (kV k) (valV kvs k) := .inl ⟨kvs, k, .inl e, rfl, rfl⟩
theorem DGet.t {H : Hp} {a b : Addr} {kvs : List (List Key × V)} {k : List Key} (e : H a = some (.dT kvs)) (eb : H b = some (.tup (k.map kV))) : DGet H a (.ref b) (valV kvs k) := .inr ⟨kvs, k, b, .inl e, rfl, eb, rfl⟩
theorem DPut.k {H : Hp} {a : Addr} {kvs : List (Key × V)} {k : Key} {v : V} (e : H a = some (.dK kvs)) (hl : kvs.length < sizeLine) : DPut H a (kV k) v (upd H a (.dK (putK kvs k v))) := .inl ⟨kvs, k, e, rfl, hl, rfl⟩
section
variable {X : Cx} {pins : List (Addr × Obj)} {σ : St} {H : Hp} {s : Shared} {a : Addr} {y v : V} {u r : Value} {o : Option V} {A : Around} {E : Value → Shared → Prop}
theorem Inv.big (I : Inv X pins σ H s) : sysModules < s.heap.objs.size := by
 have h : mainGlobals < s.heap.objs.size := (I.mod.glob.keeps I.bk).lt
 exact Nat.lt_trans (by decide) h
theorem d_getItem {Q : Value → Shared → Prop} (hu : A.units + 1 < cLine) (I : Inv X pins σ H s) (g : DGet H a y (some v)) (ry : RelV y u) (h : ∀ w' s', Inv X pins σ H s' → RelV v w' → Q w' s') :
   wpAny (model X.prog X.w) A (getItem (.ref a) u) Q E s := by
 rcases g with ⟨kvs, k, e, ey, l⟩ | ⟨kvs, k, b, e, ey, eb, l⟩
 · subst ey
   obtain ⟨z, hd, vs, rel, dd⟩ := dk_rd I.hok e
   obtain ⟨w', hw, rw'⟩ := RelO.some_of (v := v) (o := valueAt vs k) (by rw [l]; exact rel.val k)
   exact wpAny_getItem_of (kV_is ry) dd.mapOf hw (h w' _ (I.tok _) rw')
 · subst ey
   cases (show u = Value.ref b from ry)
   obtain ⟨z, hd, xs, rel, dd⟩ := dt_rd I.hok e
   obtain ⟨w', hw, rw'⟩ := RelO.some_of (v := v) (o := (atKey xs k).map (·.2)) (by rw [l]; exact rel.val k)
   obtain ⟨p, hp, hp2⟩ := Option.map_eq_some_iff.mp hw
   refine wpAny_getItem_heap (tupleKind_room_in1 hu) (key_of I.hok eb) dd hp ?_
   rw [hp2]
   exact h w' _ (I.tok _) rw'
theorem d_in {Q : Value → Shared → Prop} (hu : A.units + 1 < cLine) (I : Inv X pins σ H s) (g : DGet H a y o) (ry : RelV y u) (h : ∀ s', Inv X pins σ H s' → Q (.bool o.isSome) s') :
   wpAny (model X.prog X.w) A (compareOp .In u (.ref a)) Q E s := by
 rcases g with ⟨kvs, k, e, ey, l⟩ | ⟨kvs, k, b, e, ey, eb, l⟩
 · subst ey
   obtain ⟨z, hd, vs, rel, dd⟩ := dk_rd I.hok e
   refine wpAny_in_of (kV_is ry) hd dd.mapOf ?_
   rw [← (rel.val k).isSome_eq, ← l]
   exact h _ (I.tok _)
 · subst ey
   cases (show u = Value.ref b from ry)
   obtain ⟨z, hd, xs, rel, dd⟩ := dt_rd I.hok e
   refine wpAny_in_heap (tupleKind_room_in1 hu) (key_of I.hok eb) hd dd ?_
   have q := (rel.val k).isSome_eq
   rw [Option.isSome_map] at q
   rw [← q, ← l]
   exact h _ (I.tok _)
theorem d_write {h' : Heap} {t' : Nat} {ob : HO} (I : Inv X pins σ H s) (mu : Mut (H a)) (hs : Heap.SameBut a s.heap h') (he : ∃ q, h'.get? a = some q) (new : ObjOk X.prog X.w (upd H a ob) h' a ob) :
  Inv X pins σ (upd H a ob) { s with heap := h', toks := t' } :=
 I.write (x := a) (e := a) mu (.inl rfl) (fun b q hb z => (hs.2 b hb).trans z) he new
theorem dk_new {P : Program} {w : World} {H' : Hp} {h' : Heap} {kvs : List (Key × V)} {vs : List (Key × Value)} (z : kvs.length ≤ sizeLine) (hd : (a == sysModules) = false) (rel : KV kvs vs) (dd : h'.DictOf (mixKind P w) a vs) :
 ObjOk P w H' h' a (.dK kvs) := ⟨z, hd, vs, rel, dd⟩
end
section
variable {X : Cx} {pins : List (Addr × Obj)} {σ : St} {H : Hp} {s : Shared} {a : Addr} {kvs : List (Key × V)} {k : Key} {u : Value} {A : Around} {E : Value → Shared → Prop}
theorem d_len {Q : Value → Shared → Prop} (I : Inv X pins σ H s) (e : Rd H a (.dK kvs)) (h : ∀ t s', Inv X pins σ H s' → Q (.int kvs.length t) s') : wpAny (model X.prog X.w) A (call (.builtin "len") [.ref a]) Q E s := by
 obtain ⟨z, hd, vs, rel, dd⟩ := dk_rd I.hok e
 refine call_len_dict hd dd (by rw [← rel.length]; rw [sizeLine_eq] at z; omega) ?_
 rw [← rel.length]
 exact h _ _ (I.tok _)
end
theorem dict_typeIs {X : Cx} {pins : List (Addr × Obj)} {σ : St} {H : Hp} {s : Shared} {a : Addr} {y : V} {o : Option V} (I : Inv X pins σ H s) (g : DGet H a y o) : s.TypeIs (.ref a) "dict" := by
 rcases g with ⟨kvs, k, e, _, _⟩ | ⟨kvs, k, b, e, _, _, _⟩
 · obtain ⟨_, _, vs, _, dd⟩ := dk_rd I.hok e
   exact dd.typeIs
 · obtain ⟨_, _, xs, _, dd⟩ := dt_rd I.hok e
   exact dd.typeIs
section
variable {X : Cx} {o i e value : Expr} {pos pos' tpos : Pos} {td ty tv : TE}
end
theorem dk_empty {P : Program} {w : World} {H : Hp} (h : Heap) (hb : sysModules < h.objs.size) : ObjOk P w H (h.push { cls := .type "dict", data := .dict #[] }) h.objs.size (.dK []) :=
 ⟨Nat.zero_le _, beq_eq_false_iff_ne.mpr (Ne.symm (Nat.ne_of_lt hb)), [], .nil, Heap.DictOf.new h⟩
theorem dt_empty {P : Program} {w : World} {H : Hp} (h : Heap) (hb : sysModules < h.objs.size) : ObjOk P w H (h.push { cls := .type "dict", data := .dict #[] }) h.objs.size (.dT []) :=
 ⟨Nat.zero_le _, beq_eq_false_iff_ne.mpr (Ne.symm (Nat.ne_of_lt hb)), [], .nil, _, #[], 0, Heap.get?_push_size _ rfl, ⟨rfl, rfl, rfl⟩, rfl, rfl, List.nodup_nil⟩
def tDNewK : TE := fun _ H Q => ∀ p, H p = none → Q (.ref p) (upd H p (.dK []))
def tDNewT : TE := fun _ H Q => ∀ p, H p = none → Q (.ref p) (upd H p (.dT []))
section
variable {X : Cx} {pos : Pos}
theorem pe_dnewK : PE X (.Dict [] [] pos) tDNewK := fun pins s σ H Q I h =>
 wpAny_Dict_empty ⟨.ref s.heap.objs.size, _, I.laid (a := s.heap.objs.size) (o := .dK []) (t' := s.toks) (fun _ _ q => Heap.get?_push_of_some _ q) (Nat.le_refl _) (dk_empty s.heap I.big), rfl, h _ (I.hok.fresh (Nat.le_refl _))⟩
theorem pe_dnewT : PE X (.Dict [] [] pos) tDNewT := fun pins s σ H Q I h =>
 wpAny_Dict_empty ⟨.ref s.heap.objs.size, _, I.laid (a := s.heap.objs.size) (o := .dT []) (t' := s.toks) (fun _ _ q => Heap.get?_push_of_some _ q) (Nat.le_refl _) (dt_empty s.heap I.big), rfl, h _ (I.hok.fresh (Nat.le_refl _))⟩
end
section
variable {X : Cx} {pins : List (Addr × Obj)} {σ : St} {H : Hp} {s : Shared} {a : Addr} {y d : V} {u r : Value} {o : Option V} {A : Around} {E : Value → Shared → Prop}
end
section
variable {X : Cx} {o e f : Expr} {apos cpos : Pos} {td ty tx : TE}
end
section
variable {X : Cx} {pins : List (Addr × Obj)} {σ : St} {H : Hp} {s : Shared} {a : Addr} {kvs : List (Key × V)} {A : Around} {E : Value → Shared → Prop}
end
section
variable {X : Cx} {pins : List (Addr × Obj)} {σ : St} {H : Hp} {s : Shared} {a : Addr} {y : V} {u : Value} {A : Around} {E : Value → Shared → Prop}
end
end L2
namespace Att
open PySem PySem.W PySem.Calls PyProof.Rows
theorem ints_of_wellAll {P : Params} {h : Heap} : ∀ (ns : List Int) (vs : List Value), WellAll P h vs (ns.map WData.int) → IntsAre vs ns := by
  intro ns
  induction ns with
  | nil =>
    intro vs w
    rw [List.map_nil] at w
    cases w
    exact .nil
  | cons n ns ih =>
    intro vs w
    rw [List.map_cons] at w
    cases w with
    | cons a b =>
      cases a
      exact .cons _ _ (ih _ b)
theorem script_of {l : OpenLaw} {n : Nat} (hn : l.most = some n) {P : Params} {h : Heap} {args : List WData} {vals : List Value}
    (hpre : l.row.toRowW.claim.pre args = true) (hwl : WellAll P h vals args) :
    ∃ a vs ns, vals = [Value.ref a] ∧ args = [WData.list (ns.map WData.int)] ∧ h.get? a = some { cls := .type "list", data := .seq vs.toArray } ∧ IntsAre vs ns ∧ ns.length ≤ n := by
  have hsh : WShape.hasAll [] args [.list .int] = true := (pre_splitW hpre).1
  have hc : l.pre.holds [] { args := args } = true := (pre_splitW hpre).2
  obtain ⟨d, r, rfl, h1, h2⟩ := hasAllW_cons hsh
  obtain rfl := hasAllW_nil h2
  obtain ⟨xs, rfl, h3⟩ := hasW_list h1
  obtain ⟨ns, rfl⟩ := items_int h3
  have hlen : ns.length ≤ n := by
    unfold OpenLaw.pre at hc
    have h4 : (WTm.not (.lt (.lit (.int (n : Int))) (.len (.arg 0)))).holds [] { args := [.list (ns.map .int)] } = true := by
      have h4 := (holds_andW hc).1
      rw [hn] at h4
      exact h4
    have h5 := condW_of h4 (w_not (w_lt w_lit (w_len_list (w_arg rfl))))
    rw [List.length_map] at h5
    refine Nat.le_of_not_lt fun q => ?_
    have q' : (n : Int) < ((ns.length : Nat) : Int) := by omega
    first
      | (rw [decide_eq_true q'] at h5; exact absurd h5 (by decide))
      | (simp at h5; omega)
  cases hwl with
  | cons w1 w2 =>
    cases w2
    cases w1 with
    | list ho hall => exact ⟨_, _, ns, rfl, rfl, ho, ints_of_wellAll ns _ hall, hlen⟩
theorem post_true (l : OpenLaw) (args : List WData) : l.row.toRowW.claim.post args (.bool true) args = true :=
 postW_of (r := l.row.toRowW) (X := (true == true))
  (show WShape.has [] (.bool true) .bool = true by first | rfl | decide | simp [WShape.has, WShape.arms, WShape.armsAll])
  (show (WTm.eq .res (.lit (.bool true))).value [] { args := args, res := some (.bool true), after := args } = some (.bool (true == true)) from w_eq_bool (w_res rfl) w_lit) rfl
theorem attach_call {l : OpenLaw} {n : Nat} {q : Program} {loose : List Str} {XP : (Str → Option Value) → Heap → Prop} {YP : World → Heap → Prop} {d : DefRec}
  (hn : l.most = some n) (hdf : d.params.defaults = [])
  (call : ∀ (w : World) (s₀ s₁ : Shared) (mg mb : Str → Option Value) (fa : Addr) (o : Obj) (pm cd doc : Value) (a : Addr) (vs : List Value) (ns : List Int),
   Ground q loose [] XP w s₀ mg mb s₁.heap → YP w s₁.heap →
   s₁.heap.get? fa = some o → o.data = .func (docDef d.name d.params d.body d.scope pm cd doc) → s₁.heap.CodeRec cd d.name → mg d.name = some (.ref fa) →
   s₁.heap.get? a = some { cls := .type "list", data := .seq vs.toArray } → IntsAre vs ns → ns.length ≤ n → s₁.gens = #[] →
   codeAny (model l.prog w) callerA (.call (.ref fa) ⟨[.ref a], []⟩) (fun r s' => r = .ok (.ret (.bool true)) ∧ OldK s₁.heap s'.heap ∧ s'.os = s₁.os ∧ AllBare s'.gens) s₁) :
  WalkO q loose XP YP l.row.toRowW d [] (fun f vs => PySem.call f vs) := by
 intro w s₀ s₁ mg mb G Y fa o pm cd doc dV kV ho hd hcd hD hmg hg args vals as hpre hlay hrd hwl hlo
 obtain rfl : dV = .none := Dflts.none hD hdf
 obtain rfl : kV = .none := Dflts.noKw hD
 obtain ⟨a, vs, ns, rfl, rfl, hobj, hints, hlen⟩ := script_of hn hpre hwl
 refine enter_call (codeAny_mono (call w s₀ s₁ mg mb fa o pm cd doc a vs ns G Y ho (fd_plain hd) hcd hmg hobj hints hlen hg) fun r s' hq => ?_)
 obtain ⟨rfl, h2, h3, h4⟩ := hq
 exact ⟨.inl ⟨.bool true, .bool true, [], rfl, fun _ => rfl, .bool true, post_true l _, fun _ => ⟨List.Pairwise.nil, fun _ hm => (nomatch hm)⟩⟩, h2, h3, h4⟩
section
variable {prog : Program} {w : World} {A : Around} {E : Value → Shared → Prop} {s : Shared} {K : Frag}
end
end Att
namespace L2
open PySem PySem.Spec PyProof.Rows
theorem vals_ints : ∀ {vs : List Value} {ns : List Int}, IntsAre vs ns → Vals (ns.map V.int) vs
 | _, _, .nil => .nil
 | _, _, .cons n t h => .cons ⟨t, rfl⟩ (vals_ints h)
end L2
namespace L2
open PySem PySem.Spec PyProof.Rows
end L2
namespace L2
open PySem PySem.Spec PyProof.Rows
def defArgs (s : Stmt) : Arguments := match s with
 | .FunctionDef _ a _ _ _ _ _ _ _ _ => a
 | _ => { posonlyargs := [], args := [], vararg := none, kwonlyargs := [], kw_defaults := [], kwarg := none, defaults := [] }
def defBody (s : Stmt) : List Stmt := match s with
 | .FunctionDef _ _ b _ _ _ _ _ _ _ => b
 | _ => []
def defScope (s : Stmt) : Scope := match s with
 | .FunctionDef _ _ _ _ _ _ sc _ _ _ => sc
 | _ => { kind := .function, names := [], isGenerator := false, isCoroutine := false }
abbrev E0 : XK := fun _ _ _ => False
structure Fun (K : PySem.W.Frag) (x qual : Str) (st : Stmt) (f : Addr) (fd : FuncData) : Prop where
 ex : ∃ (oc : Value) (od : Option Addr) (kV doc pm : Value) (an : Option Addr) (cdv ct : Value) (osl : Array (Option Value)),
  fd = PySem.W.fnOf x qual (defArgs st) (defBody st) (defScope st) .none kV doc pm an cdv ct ∧ K.lookup f = some ⟨oc, od, .func fd, osl⟩ ∧ PySem.W.codeIn K cdv qual = true
 kp : PySem.W.keepIn K (.ref f) = true
section
variable {P : Program} {w : World} {K : PySem.W.Frag} {mg : Str → Option Value} {base : Heap}
theorem Fun.binds {x qual : Str} {st : Stmt} {f : Addr} {fd : FuncData} {ps : List Str} (F : Fun K x qual st f fd)
  (h : ∀ (kV doc pm : Value) (an : Option Addr) (cdv ct : Value) (us : List Value), us.length = ps.length → bindArgs (PySem.W.fnOf x qual (defArgs st) (defBody st) (defScope st) .none kV doc pm an cdv ct) ⟨us, []⟩ = pure (ps.zip us)) : Binds K fd ps [] := by
 obtain ⟨oc, od, kV, doc, pm, an, cdv, ct, osl, rfl, lk, hcd⟩ := F.ex
 exact .all (h kV doc pm an cdv ct)
theorem fun_mk {x qual : Str} {st : Stmt} {f : Addr} {oc : Value} {od an : Option Addr} {osl : Array (Option Value)} {kV doc pm cdv ct : Value} (l : K.lookup f = some ⟨oc, od, .func (PySem.W.fnOf x qual (defArgs st) (defBody st) (defScope st) .none kV doc pm an cdv ct), osl⟩)
 (c : PySem.W.codeIn K cdv qual = true) (k : PySem.W.keepIn K (.ref f) = true) : Fun K x qual st f (PySem.W.fnOf x qual (defArgs st) (defBody st) (defScope st) .none kV doc pm an cdv ct) := ⟨⟨oc, od, kV, doc, pm, an, cdv, ct, osl, rfl, l, c⟩, k⟩
end
theorem small1000 {n : Nat} (h : n ≤ 1000) : n < sizeLine := Nat.lt_of_le_of_lt h (by decide)
section
variable {X : Cx}
theorem call_lenD : CallR X (.builtin "len") (fun xs H Q => ∃ a kvs, xs = [V.ref a] ∧ H a = some (.dK kvs) ∧ Q (.int kvs.length) H) := by
 intro pins s σ H xs us Q I r h
 obtain ⟨a, kvs, rfl, ha, q⟩ := h
 obtain ⟨u, rfl, ru⟩ := vals1 r
 cases ru
 exact d_len I (.inl ha) fun t s' I' => ⟨.int kvs.length, H, I', ⟨t, rfl⟩, q⟩
end
theorem iteF {A B : Prop} (h : B) : if false = true then A else B := by
 rw [if_neg Bool.false_ne_true]
 exact h
def Same (H H' : Hp) : Prop := ∀ b o, H b = some o → H' b = some o
theorem Same.refl (H : Hp) : Same H H := fun _ _ h => h
theorem Same.trans {H H1 H2 : Hp} (a : Same H H1) (b : Same H1 H2) : Same H H2 := fun c o h => b c o (a c o h)
theorem Same.seq {K : PySem.W.Frag} {H H' : Hp} {a : Addr} {xs : List V} (e : Same H H') (h : SqL K H a xs) : SqL K H' a xs := by
 rcases h with (h | ⟨o, h⟩) | h
 · exact .inl (.inl (e _ _ h))
 · exact .inl (.inr ⟨o, e _ _ h⟩)
 · exact .inr h
section
variable {κ : Type} [DecidableEq κ]
end
end L2
namespace L2
open PySem PySem.Spec PyProof.Rows
def closL : List (Str × NameKind) → List (Str × Addr) → List (Str × Addr) → List (Str × Addr)
 | [], _, cs => cs
 | (n, k) :: r, cells, cs => closL r cells (if k == .free then (match cells.lookup n with | some a => (n, a) :: cs | none => cs) else cs)
theorem closureFor_L {scope : Scope} {env : Env} (h : ∀ y ∈ scope.names, y.2 = .free → (env.cells.lookup y.1).isSome = true) : closureFor scope env = pure (closL scope.names env.cells []) := by
  have key : ∀ (l : List (Str × NameKind)) (cs : List (Str × Addr)), (∀ y ∈ l, y.2 = .free → (env.cells.lookup y.1).isSome = true) →
      (forIn l cs (fun (x : Str × NameKind) (cs : List (Str × Addr)) => (if (x.2 == NameKind.free) = true then (do let a ← cellOf env x.1; pure (ForInStep.yield ((x.1, a) :: cs))) else (pure (ForInStep.yield cs) : Sem _))) : Sem (List (Str × Addr))) = pure (closL l env.cells cs) := by
    intro l
    induction l with
    | nil => intro cs _; rfl
    | cons y r ih =>
      intro cs hy
      obtain ⟨n, k⟩ := y
      rw [List.forIn_cons]
      by_cases hk : k = .free
      · subst hk
        have hs := hy (n, .free) List.mem_cons_self rfl
        cases e : env.cells.lookup n with
        | none => rw [e] at hs; cases hs
        | some a =>
          have := ih ((n, a) :: cs) (fun z hz => hy z (List.mem_cons_of_mem _ hz))
          simp only [closL, beq_self_eq_true, if_true, e, cellOf, pure_bind]
          exact this
      · have hb : (k == NameKind.free) = false := by simpa using hk
        have := ih cs (fun z hz => hy z (List.mem_cons_of_mem _ hz))
        simp only [closL, hb, Bool.false_eq_true, if_false, pure_bind]
        exact this
  have := key scope.names [] h
  unfold closureFor
  simpa using this
theorem closL_sub : ∀ {l : List (Str × NameKind)} {cells cs : List (Str × Addr)} {x : Str} {c : Addr}, (∀ x c, cs.lookup x = some c → cells.lookup x = some c) → (closL l cells cs).lookup x = some c → cells.lookup x = some c
  | [], _, _, _, _, h, e => h _ _ e
  | (n, k) :: r, cells, cs, x, c, h, e => by
    refine closL_sub (l := r) (fun y d hy => ?_) e
    split at hy
    · split at hy
      · rename_i a ha
        by_cases hyn : y = n
        · subst hyn
          rw [List.lookup_cons_self] at hy
          rw [← hy]; exact ha
        · rw [List.lookup_cons] at hy
          have : (y == n) = false := by simpa using hyn
          rw [this] at hy
          exact h _ _ hy
      · exact h _ _ hy
    · exact h _ _ hy
theorem closL_keep : ∀ {l : List (Str × NameKind)} {cells cs : List (Str × Addr)} {x : Str}, (cs.lookup x).isSome = true → ((closL l cells cs).lookup x).isSome = true
  | [], _, _, _, h => h
  | (n, k) :: r, cells, cs, x, h => by
    refine closL_keep (l := r) ?_
    split
    · split
      · rw [List.lookup_cons]
        split
        · rfl
        · exact h
      · exact h
    · exact h
theorem closL_has : ∀ {l : List (Str × NameKind)} {cells cs : List (Str × Addr)} {x : Str}, (x, NameKind.free) ∈ l → (cells.lookup x).isSome = true → ((closL l cells cs).lookup x).isSome = true
  | [], _, _, _, h, _ => by cases h
  | (n, k) :: r, cells, cs, x, h, hs => by
    rcases List.mem_cons.mp h with e | h
    · cases e
      refine closL_keep (l := r) ?_
      simp only [beq_self_eq_true, if_true]
      cases e : cells.lookup n with
      | none => rw [e] at hs; cases hs
      | some a => simp only [List.lookup_cons_self]; rfl
    · exact closL_has (l := r) h hs
theorem mem_lookup {x : Str} {k : NameKind} : ∀ {l : List (Str × NameKind)}, l.lookup x = some k → (x, k) ∈ l := fun h => PySem.mem_of_lookup h
inductive Caps (X : Cx) (scope : Scope) : List Str → List Nat → Prop where
 | nil : Caps X scope [] []
 | cons {y : Str} {i : Nat} {ys : List Str} {is : List Nat} (h1 : X.N[i]? = some y) (h2 : X.env.kindOf y = some .cell ∨ X.env.kindOf y = some .free) (h3 : scope.names.lookup y = some .free) (h : Caps X scope ys is) : Caps X scope (y :: ys) (i :: is)
structure CompScope (scope : Scope) (x : Str) (ys : List Str) : Prop where
 kind : scope.kind = .function
 nocell : ∀ y ∈ scope.names, y.2 ≠ .cell
 names : ∀ y ∈ scope.names, y.2 = .local → scope.names.lookup y.1 = some .local
 own : scope.names.lookup x = some .local
 all : ∀ y ∈ scope.names, y.2 = .free → y.1 ∈ ys
 nd : (x :: ys).Nodup
def cxComp (X : Cx) (scope : Scope) (C : Addr) (N : List Str) (s : Shared) (H : Hp) (fp : List Addr) : Cx :=
 { X with N := N, s₀ := s, H₀ := H, env := compEnvC scope (closL scope.names X.env.cells []) C X.env, outer := X.stack, ex := fp, fn := fun _ => false, pn := [], xe := fun _ _ => False }
def capSt (σ : St) (is : List Nat) : St := is.map fun i => (σ[i]?).getD none
theorem lookup_map_fst {f : Str × NameKind → Str × NameKind} (hf : ∀ p, (f p).1 = p.1) {x : Str} : ∀ (l : List (Str × NameKind)), (l.map f).lookup x = (l.lookup x).map fun k => (f (x, k)).2
  | [] => rfl
  | (n, k) :: r => by
    have ih := lookup_map_fst hf (x := x) r
    have e : f (n, k) = (n, (f (n, k)).2) := Prod.ext (hf (n, k)) rfl
    rw [List.map_cons, e, List.lookup_cons, List.lookup_cons]
    cases hx : x == n with
    | true =>
      have e' : x = n := by simpa using hx
      subst e'; rfl
    | false => exact ih
theorem relabel_at (scope : Scope) (env : Env) (x : Str) : (relabel scope env).names.lookup x = (scope.names.lookup x).map fun k => if (k == NameKind.free && env.scope.kind == .function && env.kindOf x == some .cell) then NameKind.cell else k := by
 have hf : ∀ p : Str × NameKind, ((fun (n, k) => if (k == NameKind.free && env.scope.kind == .function && env.kindOf n == some .cell) then (n, NameKind.cell) else (n, k)) p : Str × NameKind).1 = p.1 := by
  intro p
  obtain ⟨n, k⟩ := p
  show (if _ then (n, NameKind.cell) else (n, k)).1 = n
  split <;> rfl
 have := lookup_map_fst hf (x := x) scope.names
 show List.lookup x (List.map _ scope.names) = _
 rw [this]
 congr 1
 funext k
 show (if _ then (x, NameKind.cell) else (x, k)).2 = _
 split <;> rfl
theorem relabel_lookup {scope : Scope} {env : Env} {x : Str} {k : NameKind} (nc : ∀ y ∈ scope.names, y.2 ≠ .cell) (h : (relabel scope env).names.lookup x = some k) (hk : k = .cell ∨ k = .free) : (x, NameKind.free) ∈ scope.names := by
  rw [relabel_at] at h
  cases q : scope.names.lookup x with
  | none => rw [q] at h; cases h
  | some k' =>
    have hm := mem_lookup q
    rw [q] at h
    have h : (if (k' == NameKind.free && env.scope.kind == .function && env.kindOf x == some .cell) then NameKind.cell else k') = k := Option.some.inj h
    by_cases hc : k' = .free
    · subst hc; exact hm
    · have hb : (k' == NameKind.free) = false := by simpa using hc
      rw [hb] at h
      have h : k' = k := h
      subst h
      rcases hk with z | z
      · exact absurd z (nc _ hm)
      · exact absurd z hc
theorem relabel_free {scope : Scope} {env : Env} {x : Str} (h : scope.names.lookup x = some .free) : (relabel scope env).names.lookup x = some .cell ∨ (relabel scope env).names.lookup x = some .free := by
 rw [relabel_at, h]
 show some (if _ then _ else _) = _ ∨ some (if _ then _ else _) = _
 split
 · exact .inl rfl
 · exact .inr rfl
theorem relabel_local {scope : Scope} {env : Env} {x : Str} (h : scope.names.lookup x = some .local) : (relabel scope env).names.lookup x = some .local := by
 rw [relabel_at, h]; rfl
theorem caps_look {X : Cx} {scope : Scope} {ys : List Str} {is : List Nat} {m : Str → Option Value} {h : Heap} {σ : St} (hc : Caps X scope ys is)
    (hl : ∀ (i : Nat) (x : Str) (v : V), X.N[i]? = some x → σ[i]? = some (some v) → Vis X.env.scope x → ∃ u, RelV v u ∧ Look X.env h m x u) (nd : True) :
    ∀ (j : Nat) (y : Str) (v : V), ys[j]? = some y → (capSt σ is)[j]? = some (some v) → ∃ u, RelV v u ∧ scope.names.lookup y = some .free ∧ ∃ c, X.env.cells.lookup y = some c ∧ h.IsCell c (some u) := by
  induction hc with
  | nil => intro j y v e; simp at e
  | @cons z i zs js h1 h2 h3 hr ih =>
    intro j y v e1 e2
    cases j with
    | zero =>
      simp at e1; subst e1
      have e2 : (σ[i]?).getD none = some v := by simpa [capSt] using e2
      have e3 : σ[i]? = some (some v) := by
        cases q : σ[i]? with
        | none => rw [q] at e2; simp at e2
        | some o => rw [q] at e2; simp at e2; rw [e2]
      have hv : Vis X.env.scope z := by
        rcases h2 with q | q
        · exact .inr (.inl q)
        · exact .inr (.inr q)
      obtain ⟨u, r, l⟩ := hl i z v h1 e3 hv
      refine ⟨u, r, h3, ?_⟩
      rcases l with ⟨k, _⟩ | ⟨_, c, e, ic⟩
      · rcases h2 with q | q
        · rw [q] at k; cases k
        · rw [q] at k; cases k
      · exact ⟨c, e, ic⟩
    | succ j =>
      exact ih j y v (by simpa using e1) (by simpa [capSt] using e2)
end L2
namespace L2
open PySem PySem.Spec PyProof.Rows
def CompW (is : List Nat) (tc : TT) (te : TE) (σ : St) (D : Addr) (J : It) (H1 : Hp) (Q : VK) : Prop := ∃ W : Nat → Nat → List V → Hp → Prop, (∃ m, W 0 m [] (upd H1 D (.lst []))) ∧
 ∀ i m ys H2, W i m ys H2 → (J.stop i H2 ∧ Q (.ref D) H2) ∨ (J.go i H2 ∧ ∀ x H3, J.yld i H2 x H3 → tc (some x :: capSt σ is) H3 fun b H4 => if b = true then
  te (some x :: capSt σ is) H4 fun y H5 => H5 D = some (.lst ys) ∧ ys.length < sizeLine ∧ ∃ m', m' < m ∧ W (i + 1) m' (ys ++ [y]) (upd H5 D (.lst (ys ++ [y])))
  else ∃ m', m' < m ∧ W (i + 1) m' ys H4)
def tComp (is : List Nat) (wi : TI) (tc : TT) (te : TE) : TE := fun σ H Q => wi σ H fun J H1 => ∀ D, H1 D = none → CompW is tc te σ D J H1 Q
theorem compTurn_if (elt target iter c : Expr) (scope : Scope) (pos : Pos) (it acc : Value) (env : Env) :
    compTurn (.ListComp elt [⟨target, iter, [c], 0⟩] scope pos) 0 it acc env = (standAt iter.pos >>= fun _ => pyNext it >>= fun r => match r with
      | none => pure (.done .next)
      | some v => letOwnedTupleGo target it v >>= fun _ => assign target env v >>= fun _ => isTrue c env (eval c env) >>= fun ok =>
        (if ok = true then (eval elt env >>= fun x => call (.builtin "list.append") [acc, x] >>= fun _ => pure ()) else pure ()) >>= fun _ =>
          again (.compLoop (.ListComp elt [⟨target, iter, [c], 0⟩] scope pos) 0 it acc env)) := by
  unfold compTurn
  simp only [List.forIn_cons, List.forIn_nil, List.getElem?_cons_zero, List.getElem?_cons_succ, List.getElem?_nil, bind_assoc, pure_bind, bne_self_eq_false, Bool.false_eq_true, if_false, if_true]
  congr 1
  funext _
  congr 1
  funext r
  cases r with
  | none => rfl
  | some v =>
    simp only [bind_assoc, pure_bind, if_true]
    congr 1; funext _
    congr 1; funext _
    congr 1; funext b
    cases b <;> simp
section
variable {prog : Program} {w : World} {A : Around} {R : Result → Shared → Prop} {s : Shared}
theorem codeAny_compLoop_if {elt target iter c : Expr} {scope : Scope} {pos : Pos} {it acc : Value} {env : Env} (I : Nat → Shared → Prop)
    (turn : ∀ n s, I n s → wpAny (model prog w) A (pyNext it) (fun r s₁ => match r with
      | none => R (.ok .next) s₁
      | some v => wpAny (model prog w) A (letOwnedTupleGo target it v) (fun _ s₁ => wpAny (model prog w) A (assign target env v) (fun _ s₂ => wpAny (model prog w) A (isTrue c env (eval c env)) (fun ok s₂ => if ok = true then wpAny (model prog w) A (eval elt env) (fun x s₃ =>
          wpAny (model prog w) A (call (.builtin "list.append") [acc, x]) (fun _ s₄ => ∃ m, m < n ∧ I m s₄) (notedBy (model prog w) A env fun e s' => R (.error e) s') s₃)
          (notedBy (model prog w) A env fun e s' => R (.error e) s') s₂ else ∃ m, m < n ∧ I m s₂) (notedBy (model prog w) A env fun e s' => R (.error e) s') s₂) (notedBy (model prog w) A env fun e s' => R (.error e) s') s₁) (notedBy (model prog w) A env fun e s' => R (.error e) s') s₁) (notedBy (model prog w) A env fun e s' => R (.error e) s') s)
    (n : Nat) (h : I n s) :
    codeAny (model prog w) A (.compLoop (.ListComp elt [⟨target, iter, [c], 0⟩] scope pos) 0 it acc env) R s := by
  refine codeAny_loop rfl I (fun n s hI => ?_) n h
  show wpAny _ _ ((compTurn (.ListComp elt [⟨target, iter, [c], 0⟩] scope pos) 0 it acc env).onRaise (fun x => do noteFrame x env; theTreesLotGoes x)) _ _ s
  refine wpAny_noted ?_
  rw [compTurn_if]
  refine wpAny_bind (wpAny_standAt (wpAny_bind (wpAny_mono (turn n s hI) (fun r s₁ h₁ => ?_) fun _ _ h' => h')))
  cases r with
  | none => exact wpAny_pure h₁
  | some v =>
    refine wpAny_bind (wpAny_mono h₁ (fun _ s₁ h₁ => wpAny_bind (wpAny_mono h₁ (fun _ s₂ h₂ => wpAny_bind (wpAny_mono h₂ (fun ok s₃ h₃ => ?_) fun _ _ h' => h')) fun _ _ h' => h')) fun _ _ h' => h')
    cases ok with
    | true =>
      rw [if_pos rfl] at h₃
      simp only [if_true]
      exact wpAny_bind (wpAny_bind (wpAny_mono h₃ (fun x s₃ h₃ => wpAny_bind (wpAny_mono h₃ (fun _ s₄ h₄ => wpAny_pure (wpAny_pure ⟨rfl, h₄⟩)) fun _ _ h' => h')) fun _ _ h' => h'))
    | false =>
      rw [if_neg Bool.false_ne_true] at h₃
      simp only [Bool.false_eq_true, if_false]
      exact wpAny_bind (wpAny_pure (wpAny_pure ⟨rfl, h₃⟩))
theorem codeAny_compLoop_no {elt target iter : Expr} {scope : Scope} {pos : Pos} {it acc : Value} {env : Env} (I : Nat → Shared → Prop)
    (turn : ∀ n s, I n s → wpAny (model prog w) A (pyNext it) (fun r s₁ => match r with
      | none => R (.ok .next) s₁
      | some v => wpAny (model prog w) A (letOwnedTupleGo target it v) (fun _ s₁ => wpAny (model prog w) A (assign target env v) (fun _ s₂ => wpAny (model prog w) A (eval elt env) (fun x s₃ =>
          wpAny (model prog w) A (call (.builtin "list.append") [acc, x]) (fun _ s₄ => ∃ m, m < n ∧ I m s₄) (notedBy (model prog w) A env fun e s' => R (.error e) s') s₃)
          (notedBy (model prog w) A env fun e s' => R (.error e) s') s₂) (notedBy (model prog w) A env fun e s' => R (.error e) s') s₁) (notedBy (model prog w) A env fun e s' => R (.error e) s') s₁) (notedBy (model prog w) A env fun e s' => R (.error e) s') s)
    (n : Nat) (h : I n s) :
    codeAny (model prog w) A (.compLoop (.ListComp elt [⟨target, iter, [], 0⟩] scope pos) 0 it acc env) R s := by
  refine codeAny_loop rfl I (fun n s hI => ?_) n h
  show wpAny _ _ ((compTurn (.ListComp elt [⟨target, iter, [], 0⟩] scope pos) 0 it acc env).onRaise (fun x => do noteFrame x env; theTreesLotGoes x)) _ _ s
  refine wpAny_noted ?_
  rw [compTurn_list1]
  refine wpAny_bind (wpAny_standAt (wpAny_bind (wpAny_mono (turn n s hI) (fun r s₁ h₁ => ?_) fun _ _ h' => h')))
  cases r with
  | none => exact wpAny_pure h₁
  | some v =>
    exact wpAny_bind (wpAny_mono h₁ (fun _ s₁ h₁ => wpAny_bind (wpAny_mono h₁ (fun _ s₂ h₂ => wpAny_bind (wpAny_bind (wpAny_mono h₂ (fun x s₃ h₃ => wpAny_bind (wpAny_mono h₃
      (fun _ s₄ h₄ => wpAny_pure (wpAny_pure ⟨rfl, h₄⟩)) fun _ _ h' => h')) fun _ _ h' => h'))) fun _ _ h' => h')) fun _ _ h' => h')
end
def PIfs (X : Cx) (ifs : List Expr) (tc : TT) : Prop := match ifs with
 | [] => tc = fun _ H Q => Q true H
 | [c] => PT X c tc
 | _ => False
section
variable {X : Cx}
theorem caps_len {scope : Scope} {ys : List Str} {is : List Nat} (h : Caps X scope ys is) : is.length = ys.length := by
 induction h with
 | nil => rfl
 | cons _ _ _ _ ih => simp [ih]
theorem caps_kind {scope : Scope} {ys : List Str} {is : List Nat} (h : Caps X scope ys is) {y : Str} (hy : y ∈ ys) : X.env.kindOf y = some .cell ∨ X.env.kindOf y = some .free := by
  induction h with
  | nil => cases hy
  | cons _ h2 _ _ ih =>
    rcases List.mem_cons.mp hy with e | e
    · rw [e]; exact h2
    · exact ih e
theorem comp_core {elt iter : Expr} {ifs : List Expr} {x : Str} {px pos : Pos} {scope : Scope} {ys : List Str} {is : List Nat} {tc : TT} {te : TE} {pins : List (Addr × Obj)} {σ : St} {H2 : Hp} {s2 : Shared} {it : Addr} {fp : List Addr} {tn : Nat → Heap → Prop} {J : It} {E : Value → Shared → Prop} {Q : VK} {RR : Value → Addr → Result → Shared → Prop}
    (hc : X.calm = true) (S : CompScope scope x ys) (hcap : Caps X scope ys is)
    (hif : ∀ C s H fp, PIfs (cxComp X scope C (x :: ys) s H fp) ifs tc) (he : ∀ C s H fp, PE (cxComp X scope C (x :: ys) s H fp) elt te)
    (I2 : Inv X pins σ H2 s2) (T : Turn X.prog X.w X.K (.Name x px) J fp it tn) (st2 : tn 0 s2.heap) (f2 : ∀ b ∈ fp, FpOk X pins H2 b)
    (hW : ∀ D, H2 D = none → ∃ W : Nat → Nat → List V → Hp → Prop, (∃ m, W 0 m [] (upd H2 D (.lst []))) ∧
      ∀ i m ys H2, W i m ys H2 → (J.stop i H2 ∧ Q (.ref D) H2) ∨ (J.go i H2 ∧ ∀ x H3, J.yld i H2 x H3 → tc (some x :: capSt σ is) H3 fun b H4 => if b = true then
        te (some x :: capSt σ is) H4 fun y H5 => H5 D = some (.lst ys) ∧ ys.length < sizeLine ∧ ∃ m', m' < m ∧ W (i + 1) m' (ys ++ [y]) (upd H5 D (.lst (ys ++ [y])))
        else ∃ m', m' < m ∧ W (i + 1) m' ys H4))
    (hRR : ∀ D C H' s', (X.s₀.heap.objs.size ≤ C ∧ ∀ p ∈ X.pn ++ pins, p.1 ≠ C) → (∃ m, s'.heap.Ns C m) → C ≠ X.env.locals → H' C = none → Inv X pins σ H' s' → (∀ h', Heap.SameBut C s'.heap h' → Inv X pins σ H' { s' with heap := h' }) → Q (.ref D) H' → RR (.ref D) C (.ok .next) s') :
    wpAny (model X.prog X.w) X.A (newList []) (fun acc s₃ => wpAny (model X.prog X.w) X.A (newFunctionEnv scope X.env.globals (closL scope.names X.env.cells []) [] X.env.qual none .none (some X.env)) (fun cenv s₄ =>
      codeAny (model X.prog X.w) X.A (.compStart (.ListComp elt [⟨.Name x px, iter, ifs, 0⟩] scope pos) 0 (.ref it) acc { cenv with scope := relabel scope X.env }) (RR acc cenv.locals) s₄) E s₃) E s2 := by
  have hf2 : H2 s2.heap.objs.size = none := I2.fresh
  refine wpAny_newObj_type (wpAny_newFunctionEnv S.nocell (by intro y hy; simp at hy) (fun h₁ hns₁ hsb₁ => ?_) S.kind)
  dsimp only at hns₁ hsb₁ ⊢
  have I3 : Inv X pins σ (upd H2 s2.heap.objs.size (.lst [])) { s2 with heap := s2.heap.push { cls := .type "list", data := .seq ([] : List Value).toArray } } := I2.lnew (t' := s2.toks) (ys := []) .nil (Nat.zero_le _)
  obtain ⟨W, ⟨m0, w0⟩, turn⟩ := hW _ hf2
  generalize hD : s2.heap.objs.size = D at I3 w0 turn hf2 ⊢
  generalize hs3 : ({ s2 with heap := s2.heap.push { cls := .type "list", data := .seq ([] : List Value).toArray } } : Shared) = s3 at I3
  have hp3 : s2.heap.push { cls := .type "list", dict := none, data := .seq ([] : List Value).toArray } = s3.heap := by rw [← hs3]
  rw [hp3] at hns₁ hsb₁ ⊢
  have tk3 : s2.toks = s3.toks := by rw [← hs3]
  generalize hH3 : upd H2 D (.lst []) = H3 at I3 w0
  generalize hC : s3.heap.objs.size = C at hns₁ hsb₁ ⊢
  have keep2 : ∀ b o, s2.heap.get? b = some o → s3.heap.get? b = some o := fun b o e => by rw [← hp3]; exact Heap.get?_push_of_some _ e
  have keep3 : ∀ b o, s3.heap.get? b = some o → h₁.get? b = some o := fun b o e => hsb₁.extBut b o (by rw [← hC]; exact Nat.ne_of_lt (Heap.lt_size e)) (Heap.get?_push_of_some _ e)
  have st3 : tn 0 s3.heap := T.keep _ _ _ st2 fun b _ o e => keep2 b o e
  have st4 : tn 0 h₁ := T.keep _ _ _ st3 fun b _ o e => keep3 b o e
  have fp3 : ∀ b ∈ fp, H3 b = none ∧ b < C := fun b hb => by
    obtain ⟨o, e, _⟩ := T.obj _ _ st2 b hb
    refine ⟨?_, by rw [← hC]; exact Heap.lt_size (keep2 b o e)⟩
    rw [← hH3, upd_ne (by rw [← hD]; exact Nat.ne_of_lt (Heap.lt_size e))]
    exact (f2 b hb).1
  have hcells : ∀ {z : Str} {c : Addr}, (closL scope.names X.env.cells []).lookup z = some c → X.env.cells.lookup z = some c := fun h => closL_sub (fun _ _ q => by cases q) h
  have hX : (cxComp X scope C (x :: ys) s3 H3 fp).Ok := by
    refine ⟨I3.ok.mod, S.kind, I3.ok.glob, I3.ok.blt, Nat.le_of_eq hC, fun y z c h1 h2 => I3.ok.inj y z c (hcells h1) (hcells h2), fun y hy => ?_, fun y c h _ => absurd (show false = true from h) Bool.false_ne_true, I3.ok.hd, I3.ok.frames, .inl rfl, fun b hb => ⟨Nat.ne_of_lt (fp3 b hb).2, fun y c h => (f2 b hb).2.2.2.2.1 y c (hcells h)⟩, fun b o e => I3.bs b o e, Nat.le_trans I3.ok.bsz I3.sz, fun b o e hb => ?_, fun b hb z => ?_, I3.stack, I3.stkFree⟩
    · have hy : (relabel scope X.env).names.lookup y = some .cell ∨ (relabel scope X.env).names.lookup y = some .free := hy
      have hm : (y, NameKind.free) ∈ scope.names := by
        rcases hy with q | q
        · exact relabel_lookup S.nocell q (.inl rfl)
        · exact relabel_lookup S.nocell q (.inr rfl)
      have hs : ∃ c, X.env.cells.lookup y = some c := by
        by_cases hk : X.env.kindOf y = some .cell ∨ X.env.kindOf y = some .free
        · exact I3.ok.has y hk
        · exact absurd (caps_kind hcap (S.all _ hm rfl)) hk
      exact Option.isSome_iff_exists.mp (closL_has hm (Option.isSome_iff_exists.mpr hs))
    · rcases (f2 b hb).2.2.2.1 with z | z
      · exact I3.ok.noex b o e z
      · exact absurd (Nat.lt_of_lt_of_le (Heap.lt_size e) (Nat.le_trans I3.ok.bsz z)) (Nat.lt_irrefl _)
    · rcases List.mem_cons.mp (I3.stkSub b z) with q | q
      · exact (f2 b hb).2.1 q
      · exact (f2 b hb).2.2.1 q
  have I4 : Inv (cxComp X scope C (x :: ys) s3 H3 fp) [] (none :: capSt σ is) H3 { s2 with heap := h₁, toks := s2.toks + ([] : List (Str × Value)).length } := by
    obtain ⟨m3, hm3, hl3⟩ := id I3.loc
    refine ⟨hX, ?_, ?_, Un.kept keep3, ⟨_, hns₁, fun i y v e1 e2 e3 => ?_⟩, fun y c e => ?_, ?_, fun y c e => I3.freeC y c (hcells e), fun p hp => absurd (show p ∈ ([] : List (Addr × Obj)) from hp) (by simp), I3.hok.kept keep3, ?_⟩
    · show s2.os = s3.os
      rw [← hs3]
    · have := I2.bare; exact this
    · cases i with
      | zero => simp at e2
      | succ j =>
        obtain ⟨u, r, hfr, c, ec, ic⟩ := caps_look hcap hl3 trivial j y v (by have e1' : (x :: ys)[j + 1]? = some y := e1; simpa using e1') (by simpa using e2)
        have hk := relabel_free (env := X.env) hfr
        obtain ⟨c', ec'⟩ := Option.isSome_iff_exists.mp (closL_has (cs := []) (mem_lookup hfr) (by rw [ec]; rfl) (cells := X.env.cells))
        have : c' = c := by have := hcells ec'; rw [ec] at this; exact (Option.some.inj this).symm
        subst this
        obtain ⟨o, ho, hd⟩ := ic
        exact ⟨u, r, .inr ⟨hk, c', ec', o, keep3 _ _ ho, hd⟩⟩
    · obtain ⟨v, o, ho, hd⟩ := I3.cell y c (hcells e)
      exact ⟨v, o, keep3 _ _ ho, hd⟩
    · have := I3.hok.fresh (a := C) (Nat.le_of_eq hC)
      exact this
    · have := caps_len hcap
      show (none :: capSt σ is).length = (x :: ys).length
      simp [capSt, this]
  have lenσ : ∀ v : Option V, (v :: capSt σ is).set 0 = fun w => w :: capSt σ is := fun v => rfl
  have hown : (relabel scope X.env).names.lookup x = some .local := relabel_local S.own
  have loop : codeAny (model X.prog X.w) X.A (.compLoop (.ListComp elt [⟨.Name x px, iter, ifs, 0⟩] scope pos) 0 (.ref it) (.ref D) (compEnvC scope (closL scope.names X.env.cells []) C X.env)) (RR (.ref D) C)
      { s2 with heap := h₁, toks := s2.toks + ([] : List (Str × Value)).length } := by
    have fin : ∀ {H' : Hp} {v : Option V} {s' : Shared}, Inv (cxComp X scope C (x :: ys) s3 H3 fp) [] (v :: capSt σ is) H' s' → Q (.ref D) H' → RR (.ref D) C (.ok .next) s' := fun {H' v s'} J q => by
      obtain ⟨m', hm', _⟩ := J.loc
      have hCL : C ≠ X.env.locals := Ne.symm (by rw [← hC]; exact Nat.ne_of_lt I3.lt)
      have back : ∀ h', Heap.SameBut C s'.heap h' → Inv X pins σ H' { s' with heap := h' } := fun h' hs' => by
        have os' : s'.os = s3.os := J.os
        refine I3.call' (s' := { s' with heap := h' }) (ch := fp) os' ⟨fun b o e n hb hx => ?_, fun b o e n hb hx => ?_, fun b o e n hx => J.base.free b o e n hx, fun b o e hx => ?_, J.base.tups, J.base.frzs, J.base.tbls⟩ (fun b o e => ?_) J.bare fun b hb => ?_
        · exact hs'.extBut b o (by rw [← hC]; exact Nat.ne_of_lt (Heap.lt_size e)) (J.base.keep b o e n hb hx)
        · obtain ⟨sl, e1⟩ := J.base.slot b o e n hb hx
          exact ⟨sl, hs'.extBut b _ (by rw [← hC]; exact Nat.ne_of_lt (Heap.lt_size e)) e1⟩
        · obtain ⟨o', e1⟩ := J.base.there b o e hx
          exact ⟨o', hs'.extBut b _ (by rw [← hC]; exact Nat.ne_of_lt (Heap.lt_size e)) e1⟩
        · refine (J.hok b o e).stay (fun c w' hc q => (hs'.2 c ?_).trans q) (fun _ q => q) fun _ _ q => q
          have fC : H' C = none := J.free
          rintro rfl
          rcases hc with rfl | hc
          · rw [fC] at e; cases e
          · rw [fC] at hc; cases hc
        · obtain ⟨_, a1, _, a2, a3, a4⟩ := f2 b hb
          exact ⟨a2, a1, a3, a4⟩
      refine hRR D C H' s' ⟨by rw [← hC]; exact I3.sz, fun p hp => by rw [← hC]; exact Nat.ne_of_lt (Heap.lt_size (I3.pin p hp).1)⟩ ⟨m', hm'⟩ hCL J.free ?_ back q
      have := back s'.heap (.refl ..)
      exact this
    have stat : ∀ {H' : Hp}, (∀ b ∈ fp, H' b = none) → ∀ b ∈ fp, FpOk (cxComp X scope C (x :: ys) s3 H3 fp) [] H' b := fun hn b hb => by
      obtain ⟨_, a1, a5, a2, a3, a4⟩ := f2 b hb
      refine ⟨hn b hb, Nat.ne_of_lt (fp3 b hb).2, fun z => ?_, .inl hb, fun y c e => a3 y c (hcells e), fun p hp => absurd (show p ∈ ([] : List (Addr × Obj)) from hp) (by simp)⟩
      rcases List.mem_cons.mp (I3.stkSub b z) with q | q
      · exact a1 q
      · exact a5 q
    have turnAt : ∀ n s, (∃ i v ys' H', Inv (cxComp X scope C (x :: ys) s3 H3 fp) [] (v :: capSt σ is) H' s ∧ tn i s.heap ∧ (∀ b ∈ fp, H' b = none) ∧ W i n ys' H') →
        wpAny (model X.prog X.w) X.A (pyNext (.ref it)) (fun r s₁ => match r with
          | none => RR (.ref D) C (.ok .next) s₁
          | some u => wpAny (model X.prog X.w) X.A (letOwnedTupleGo (.Name x px) (.ref it) u) (fun _ s₁ => wpAny (model X.prog X.w) X.A (assign (.Name x px) (compEnvC scope (closL scope.names X.env.cells []) C X.env) u) (fun _ s₂ =>
            ∃ (xx : V) (i : Nat) (ys' : List V) (H3' H6 : Hp) (pl : List (Addr × Obj)), Inv (cxComp X scope C (x :: ys) s3 H3 fp) ([] ++ pl) (some xx :: capSt σ is) H6 s₂ ∧
              (∀ s7 v7 H7, Inv (cxComp X scope C (x :: ys) s3 H3 fp) ([] ++ pl) (v7 :: capSt σ is) H7 s7 → Inv (cxComp X scope C (x :: ys) s3 H3 fp) [] (v7 :: capSt σ is) H7 s7 ∧ tn (i + 1) s7.heap ∧ ∀ b ∈ fp, H7 b = none) ∧
              (tc (some xx :: capSt σ is) H6 fun b H4 => if b = true then te (some xx :: capSt σ is) H4 fun y H5 => H5 D = some (.lst ys') ∧ ys'.length < sizeLine ∧ ∃ m', m' < n ∧ W (i + 1) m' (ys' ++ [y]) (upd H5 D (.lst (ys' ++ [y])))
                else ∃ m', m' < n ∧ W (i + 1) m' ys' H4)) (fun _ _ => False) s₁) (fun _ _ => False) s₁) (fun _ _ => False) s := by
      rintro n s ⟨i, v, ys', H', J, st, fr, w'⟩
      rcases turn i n ys' H' w' with ⟨stop, qn⟩ | ⟨go, step⟩
      · refine thn (T.done (cxComp X scope C (x :: ys) s3 H3 fp) rfl rfl rfl hc i [] s _ H' (fun _ _ => False) J (stat fr) st stop) fun r s4 ⟨hr, J4⟩ => ?_
        subst hr
        exact fin J4 qn
      · refine thn (T.item (cxComp X scope C (x :: ys) s3 H3 fp) rfl rfl rfl hc i [] s _ H' (fun _ _ => False) J (stat fr) st go) fun r s4 ⟨u, hr, h4⟩ => ?_
        subst hr
        refine thn h4 fun _ s5 ⟨xx, H5, J5, r5, y5, st5, fr5⟩ => ?_
        have J5' := J5.pinned (stat fr5) (T.obj _ _ st5)
        refine wpAny_assign_Name (store_ok (i := 0) J5' S.nd rfl (.inl hown) r5 (fun s6 J6 => ?_) (.inr hown))
        refine ⟨xx, i, ys', H5, H5, pinsAt fp s5.heap, J6, fun s7 v7 H7 J7 => ⟨J7.unpinned, T.keep _ _ _ st5 fun b hb o e => (J7.pin (b, o) (List.mem_append_right _ (List.mem_append_right _ (mem_pinsAt hb e)))).1, fun b hb => ?_⟩, step xx H5 y5⟩
        obtain ⟨o, e, d⟩ := T.obj _ _ st5 b hb
        exact (J7.pin (b, o) (List.mem_append_right _ (List.mem_append_right _ (mem_pinsAt hb e)))).2.1
    have start0 : ∃ i v ys' H', Inv (cxComp X scope C (x :: ys) s3 H3 fp) [] (v :: capSt σ is) H' { s2 with heap := h₁, toks := s2.toks + ([] : List (Str × Value)).length } ∧ tn i h₁ ∧ (∀ b ∈ fp, H' b = none) ∧ W i m0 ys' H' :=
      ⟨0, none, [], H3, I4, st4, fun b hb => (fp3 b hb).1, w0⟩
    have emit : ∀ (n : Nat) (xx : V) (i : Nat) (ys' : List V) (H4 : Hp) (pl : List (Addr × Obj)) (s₂ : Shared), Inv (cxComp X scope C (x :: ys) s3 H3 fp) ([] ++ pl) (some xx :: capSt σ is) H4 s₂ →
        (∀ s7 v7 H7, Inv (cxComp X scope C (x :: ys) s3 H3 fp) ([] ++ pl) (v7 :: capSt σ is) H7 s7 → Inv (cxComp X scope C (x :: ys) s3 H3 fp) [] (v7 :: capSt σ is) H7 s7 ∧ tn (i + 1) s7.heap ∧ ∀ b ∈ fp, H7 b = none) →
        (te (some xx :: capSt σ is) H4 fun y H5 => H5 D = some (.lst ys') ∧ ys'.length < sizeLine ∧ ∃ m', m' < n ∧ W (i + 1) m' (ys' ++ [y]) (upd H5 D (.lst (ys' ++ [y])))) →
        wpAny (model X.prog X.w) X.A (eval elt (compEnvC scope (closL scope.names X.env.cells []) C X.env)) (fun y s₃ => wpAny (model X.prog X.w) X.A (call (.builtin "list.append") [.ref D, y]) (fun _ s₄ =>
          ∃ m, m < n ∧ ∃ i v ys' H', Inv (cxComp X scope C (x :: ys) s3 H3 fp) [] (v :: capSt σ is) H' s₄ ∧ tn i s₄.heap ∧ (∀ b ∈ fp, H' b = none) ∧ W i m ys' H') (fun _ _ => False) s₃) (fun _ _ => False) s₂ := by
      intro n xx i ys' H4 pl s₂ J2 back q
      refine thn (he C s3 H3 fp ([] ++ pl) s₂ _ H4 _ J2 q) fun y s₃ ⟨yv, H5, J3, r3, q1, q2, q3⟩ => ?_
      refine thn (mt_append (X := cxComp X scope C (x :: ys) s3 H3 fp) ([] ++ pl) s₃ _ H5 (.ref D) [yv] (.ref D) [y] (fun v H7 => v = .non ∧ H7 = upd H5 D (.lst (ys' ++ [yv]))) J3 rfl (.cons r3 .nil) ⟨D, ys', yv, rfl, rfl, q1, q2, rfl, rfl⟩) fun _ s₄ ⟨_, H7, J4, _, _, e7⟩ => ?_
      subst e7
      obtain ⟨m', hm', w'⟩ := q3
      obtain ⟨b1, b2, b3⟩ := back s₄ _ _ J4
      exact ⟨m', hm', i + 1, some xx, ys' ++ [yv], _, b1, b2, b3, w'⟩
    have ex0 : ∀ {α : Type} {t : Sem α} {Q' : α → Shared → Prop} {E' : Value → Shared → Prop} {s : Shared}, wpAny (model X.prog X.w) X.A t Q' (fun _ _ => False) s → wpAny (model X.prog X.w) X.A t Q' E' s := fun h => wpAny_mono h (fun _ _ q => q) fun _ _ q => q.elim
    cases ifs with
    | nil =>
      have htc : tc = fun _ H Q => Q true H := hif C s3 H3 fp
      subst htc
      refine codeAny_compLoop_no (fun n s => ∃ i v ys' H', Inv (cxComp X scope C (x :: ys) s3 H3 fp) [] (v :: capSt σ is) H' s ∧ tn i s.heap ∧ (∀ b ∈ fp, H' b = none) ∧ W i n ys' H') (fun n s hI => ?_) m0 start0
      refine wpAny_mono (turnAt n s hI) (fun r s₁ h₁ => ?_) fun _ _ q => q.elim
      cases r with
      | none => exact h₁
      | some u =>
        refine wpAny_mono h₁ (fun _ s₁ h₁ => wpAny_mono h₁ (fun _ s₂ h₂ => ?_) fun _ _ q => q.elim) fun _ _ q => q.elim
        obtain ⟨xx, i, ys', _, H6, pl, J2, back, q⟩ := h₂
        dsimp only at q
        rw [if_pos rfl] at q
        exact wpAny_mono (emit n xx i ys' H6 pl s₂ J2 back q) (fun y s₃ h₃ => ex0 h₃) fun _ _ q => q.elim
    | cons c r0 =>
      cases r0 with
      | cons _ _ => exact (hif C s3 H3 fp).elim
      | nil =>
        have hpt : PT (cxComp X scope C (x :: ys) s3 H3 fp) c tc := hif C s3 H3 fp
        refine codeAny_compLoop_if (fun n s => ∃ i v ys' H', Inv (cxComp X scope C (x :: ys) s3 H3 fp) [] (v :: capSt σ is) H' s ∧ tn i s.heap ∧ (∀ b ∈ fp, H' b = none) ∧ W i n ys' H') (fun n s hI => ?_) m0 start0
        refine wpAny_mono (turnAt n s hI) (fun r s₁ h₁ => ?_) fun _ _ q => q.elim
        cases r with
        | none => exact h₁
        | some u =>
          refine wpAny_mono h₁ (fun _ s₁ h₁ => wpAny_mono h₁ (fun _ s₂ h₂ => ?_) fun _ _ q => q.elim) fun _ _ q => q.elim
          obtain ⟨xx, i, ys', _, H6, pl, J2, back, q⟩ := h₂
          refine wpAny_mono (hpt ([] ++ pl) s₂ _ H6 _ J2 q) (fun b s₃ h₃ => ?_) fun _ _ q => q.elim
          obtain ⟨H4, J4, q4⟩ := h₃
          cases b with
          | true =>
            rw [if_pos rfl] at q4 ⊢
            exact wpAny_mono (emit n xx i ys' H4 pl s₃ J4 back q4) (fun y s₃ h₃ => ex0 h₃) fun _ _ q => q.elim
          | false =>
            rw [if_neg Bool.false_ne_true] at q4 ⊢
            obtain ⟨m', hm', w'⟩ := q4
            obtain ⟨b1, b2, b3⟩ := back s₃ _ _ J4
            exact ⟨m', hm', i + 1, some xx, ys', _, b1, b2, b3, w'⟩
  exact codeAny_compStart_list loop (T.self X.A 0 _ _ _ st4 loop)
end
end L2
namespace L2
open PySem PySem.Spec PyProof.Rows
section
variable {X : Cx}
theorem clos_ok {scope : Scope} {x : Str} {ys : List Str} {is : List Nat} (ok : X.Ok) (S : CompScope scope x ys) (hcap : Caps X scope ys is) : closureFor scope X.env = pure (closL scope.names X.env.cells []) :=
 closureFor_L fun y hy hk => by
  obtain ⟨c, e⟩ := ok.has y.1 (caps_kind hcap (S.all y hy hk))
  rw [e]; rfl
theorem pe_comp {elt iter : Expr} {ifs : List Expr} {x : Str} {px pos : Pos} {scope : Scope} {ys : List Str} {is : List Nat} {wi : TI} {tc : TT} {te : TE}
  (hc : X.calm = true) (S : CompScope scope x ys) (hcap : Caps X scope ys is) (hi : PI X (.Name x px) iter wi)
  (hif : ∀ C s H fp, PIfs (cxComp X scope C (x :: ys) s H fp) ifs tc) (he : ∀ C s H fp, PE (cxComp X scope C (x :: ys) s H fp) elt te)
  (hs : ∀ x, foldedSetIterable iter X.env x = pure x := by intro _; rfl) : PE X (.ListComp elt [⟨.Name x px, iter, ifs, 0⟩] scope pos) (tComp is wi tc te) := by
 intro pins s σ H Q I h
 rw [eval_ListComp]
 refine wpAny_comprehension_free (use := none) rfl hs (clos_ok I.ok S hcap) S.kind S.names (thn (hi pins s σ H _ I h) fun v s1 h1 => thn h1 fun itv s2 h2 => ?_)
 obtain ⟨it, fp, tn, J, H2, rfl, I2, T, st2, f2, hW⟩ := h2
 refine comp_core (RR := fun acc C => compPost (model X.prog X.w) X.A X.xe none (EP X pins σ Q) acc C) hc S hcap hif he I2 T st2 f2 hW ?_
 intro D C H' s' hlt hns hne hfr I' back q
 obtain ⟨m, hm⟩ := hns
 exact ⟨m, hm, fun h' hs' => ⟨.ref D, H', back h' hs', rfl, q⟩⟩
theorem ps_setComp {elt iter : Expr} {ifs : List Expr} {x y : Str} {px py pos spos : Pos} {scope : Scope} {ys : List Str} {is : List Nat} {wi : TI} {tc : TT} {te : TE} {j : Nat}
  (hN : X.N.Nodup) (hj : X.N[j]? = some y) (hy : Loc X.env.scope y)
  (hc : X.calm = true) (S : CompScope scope x ys) (hcap : Caps X scope ys is) (hi : PI X (.Name x px) iter wi)
  (hif : ∀ C s H fp, PIfs (cxComp X scope C (x :: ys) s H fp) ifs tc) (he : ∀ C s H fp, PE (cxComp X scope C (x :: ys) s H fp) elt te)
  (hsw : swapsWith (.ListComp elt [⟨.Name x px, iter, ifs, 0⟩] scope pos) (some (.Name y py)) spos.line X.env = pure true := by rfl)
  (hf : X.fn y = true ∨ X.env.scope.names.lookup y = some .local := by first | exact .inl rfl | exact .inr rfl | assumption)
  (hs : ∀ x, foldedSetIterable iter X.env x = pure x := by intro _; rfl) : PS X (.Assign [.Name y py] (.ListComp elt [⟨.Name x px, iter, ifs, 0⟩] scope pos) spos) (tAsg (tComp is wi tc te) (gName j)) := by
 intro pins s σ H D I h
 rw [exec_Assign_Name_used _ _ _ _ hsw]
 refine wpAny_bind (wpAny_standAt (wpAny_bind ?_))
 show wpAny _ X.A (do let _ ← comprehension (.ListComp elt [⟨.Name x px, iter, ifs, 0⟩] scope pos) scope X.env _ (newList []) false (eval iter X.env) (some (assign (.Name y py) X.env))) _ _ s
 refine wpAny_bind (wpAny_mono (wpAny_comprehension_free (use := some (assign (.Name y py) X.env)) (Q := fun _ s' => SP X pins D .next s') rfl hs (clos_ok I.ok S hcap) S.kind S.names
  (thn (hi pins s σ H _ I h) fun v s1 h1 => thn h1 fun itv s2 h2 => ?_)) (fun _ s' hq => wpAny_pure (wpAny_pure hq)) fun _ _ e => e)
 obtain ⟨it, fp, tn, J, H2, rfl, I2, T, st2, f2, hW⟩ := h2
 refine comp_core (Q := fun x H1 => gName j x σ H1 D.nx) (RR := fun acc C => compPost (model X.prog X.w) X.A X.xe (some (assign (.Name y py) X.env)) (fun _ s' => SP X pins D .next s') acc C) hc S hcap hif he I2 T st2 f2 hW ?_
 intro Da C H' s' hlt hns hne hfr I' back q
 show wpAny _ X.A (assign (.Name y py) X.env (.ref Da)) _ _ _
 obtain ⟨m, hm⟩ := hns
 refine wpAny_assign_Name (store_ok2 I' hN hj hy (v := .ref Da) rfl (fun s2 I2' ⟨a, hsb, ha⟩ => ?_) hf)
 have hCa : C ≠ a := by
  rcases ha with e | e
  · rw [e]; exact hne
  · rintro rfl
    obtain ⟨v, o, ho, hd⟩ := I'.cell y C e
    obtain ⟨o2, es, ep, ho2, hd2, _⟩ := hm
    rw [ho] at ho2; cases ho2; rw [hd] at hd2; cases hd2
 refine ⟨m, hm.sameBut hsb hCa, fun h' hs' => ?_⟩
 have hCn : ∀ y c, X.env.cells.lookup y = some c → c ≠ C := fun z c e q => by
  subst q
  obtain ⟨v, o, ho, hd⟩ := I'.cell z c e
  obtain ⟨o2, es, ep, ho2, hd2, _⟩ := hm
  rw [ho] at ho2; cases ho2; rw [hd] at hd2; cases hd2
 have I3 : Inv X pins (σ.set j (some (.ref Da))) H' { s2 with heap := h' } := by
  refine I2'.step (g' := s2.gens) (d' := s2.drawn) (t' := s2.toks) (ch := [C]) (fun b hb => ?_) (fun b o _ _ hb e _ => (hs'.2 b (fun z => hb (by simp [z]))).trans e) (fun b o _ _ hb e _ => ⟨o.slots, (hs'.2 b (fun z => hb (by simp [z]))).trans e⟩) (fun _ _ _ _ n => n) (fun b o hb e => ⟨o, (hs'.2 b (fun z => hb (by simp [z]))).trans e⟩)
    (fun _ _ e => e) (fun _ _ _ e => e) (fun b ps e => ⟨#[], by rw [e]; simp⟩) (fun m' hm' => hm'.sameBut hs' (Ne.symm hne)) (fun b o e => ?_) I2'.bare
  · have e : b = C := by simpa using hb
    subst e
    exact ⟨.inr hlt.1, hne, fun z c e => hCn z c e, hlt.2⟩
  · refine (I2'.hok b o e).stay (fun c w' hc q => (hs'.2 c ?_).trans q) (fun _ q => q) fun _ _ q => q
    rintro rfl
    rcases hc with rfl | hc
    · rw [hfr] at e; cases e
    · rw [hfr] at hc; cases hc
 exact ⟨_, H', I3, q⟩
end
end L2
namespace L2
open PySem PySem.Spec PyProof.Rows
def tyN (H : Hp) : V → Option String
  | .non => some "NoneType"
  | .bl _ => some "bool"
  | .int _ => some "int"
  | .str _ => some "str"
  | .ref a => match H a with
    | some (.lst _) => some "list"
    | some (.frz _ (.lst _)) => some "list"
    | some (.tup _) => some "tuple"
    | some (.dK _) => some "dict"
    | some (.dT _) => some "dict"
    | _ => none
  | _ => none
theorem tyN_of {K : PySem.W.Frag} {H : Hp} {x : V} {t : String} (h : tyN H x = some t) : TyOf K H x (.type t) := by
  cases x with
  | non => cases h; exact .non
  | bl b => cases h; exact .bl b
  | int i => cases h; exact .int i
  | str x => cases h; exact .str x
  | byt _ => cases h
  | flt _ => cases h
  | ty _ => cases h
  | ref a =>
    unfold tyN at h
    dsimp only at h
    split at h
    · rename_i e; cases h; exact .lst e
    · rename_i e; cases h; exact .frz e
    · rename_i e; cases h; exact .tup e
    · rename_i e; cases h; exact .dK e
    · rename_i e; cases h; exact .dT e
    · cases h
def tyL : List String := ["NoneType", "bool", "int", "str", "list", "tuple", "dict"]
theorem tyN_in {H : Hp} {x : V} {t : String} (h : tyN H x = some t) : t ∈ tyL := by
  cases x with
  | non => cases h; decide
  | bl b => cases h; decide
  | int i => cases h; decide
  | str x => cases h; decide
  | byt _ => cases h
  | flt _ => cases h
  | ty _ => cases h
  | ref a =>
    unfold tyN at h
    dsimp only at h
    split at h <;> first | (cases h; decide) | cases h
def isI (t T : String) : Bool := t == T || (T == "int" && t == "bool")
theorem kit_ty (K : PySem.W.Frag) : ∀ t ∈ tyL, ∀ T ∈ ["int", "bool", "str", "tuple", "list", "dict"], PySem.W.kitOne K (.type t) (.type T) = some (isI t T) := by
 intro t ht T hT
 simp only [tyL, List.mem_cons, List.not_mem_nil, or_false] at ht hT
 rcases ht with rfl | rfl | rfl | rfl | rfl | rfl | rfl <;> rcases hT with rfl | rfl | rfl | rfl | rfl | rfl <;> (unfold PySem.W.kitOne; first | rfl | decide +kernel | (simp only [PySem.W.kitCls]; rfl))
section
variable {X : Cx}
theorem call_isi : CallR X (.builtin "isinstance") (fun xs H Q => ∃ x T t, xs = [x, .ty T] ∧ T ∈ ["int", "bool", "str", "tuple", "list", "dict"] ∧ tyN H x = some t ∧ Q (.bl (isI t T)) H) := by
 intro pins s σ H xs us Q I r h
 obtain ⟨x, T, t, rfl, hT, ht, q⟩ := h
 obtain ⟨u, w', rfl, r1, r2⟩ := vals2 r
 cases r2
 exact isinst_ok I r1 (tyN_of ht) (kit_ty X.K t (tyN_in ht) T hT) fun tk => ⟨.bl _, H, I.tok tk, rfl, q⟩
end
end L2
namespace L2
open PySem PySem.Spec PyProof.Rows
section
variable {X : Cx}
end
end L2
namespace L2
open PySem PySem.Spec PyProof.Rows
@[irreducible] def Sel (b : Bool) (A B : Prop) : Prop := if b = true then A else B
theorem Sel.mk {b : Bool} {A B : Prop} (h1 : b = true → A) (h2 : b = false → B) : Sel b A B := by
 unfold Sel
 cases b with
 | true => exact h1 rfl
 | false => exact h2 rfl
theorem Sel.t {A B : Prop} (h : A) : Sel true A B := .mk (fun _ => h) fun e => by cases e
theorem Sel.f {A B : Prop} (h : B) : Sel false A B := .mk (fun e => by cases e) fun _ => h
theorem Sel.dec {p A B : Prop} [Decidable p] (h1 : p → A) (h2 : ¬ p → B) : Sel (decide p) A B := .mk (fun e => h1 (of_decide_eq_true e)) fun e => h2 (of_decide_eq_false e)
theorem Sel.ndec {p A B : Prop} [Decidable p] (h1 : ¬ p → A) (h2 : p → B) : Sel (!decide p) A B := .mk (fun e => h1 (by simpa using e)) fun e => h2 (by simpa using e)
theorem Sel.yes {b : Bool} {A B : Prop} (e : b = true) (h : A) : Sel b A B := by rw [e]; exact .t h
theorem Sel.no {b : Bool} {A B : Prop} (e : b = false) (h : B) : Sel b A B := by rw [e]; exact .f h
theorem sel_ite {b : Bool} {A B : Prop} (h : Sel b A B) : if b = true then A else B := by unfold Sel at h; exact h
def mVar (i : Nat) : TE := fun σ H Q => match σ[i]? with | some (some v) => Q v H | _ => False
section
variable {X : Cx}
theorem PE.imp {e : Expr} {t t' : TE} (h : PE X e t) (i : ∀ σ H Q, t' σ H Q → t σ H Q) : PE X e t' := fun pins s σ H Q I q => h pins s σ H Q I (i _ _ _ q)
theorem OpR.imp {f : Value → Value → Sem Value} {r r' : R2} (h : OpR X f r) (i : ∀ x y H Q, r' x y H Q → r x y H Q) : OpR X f r' := fun pins s σ H x y v u Q I rx ry q => h pins s σ H x y v u Q I rx ry (i _ _ _ _ q)
theorem qv (i : Nat) {x : Str} {pos : Pos} (hN : X.N[i]? = some x := by rfl) (hv : Vis X.env.scope x := by first | exact Or.inl rfl | exact Or.inr (Or.inl rfl) | exact Or.inr (Or.inr rfl)) (hd : (x == ("__debug__" : Str)) = false := by decide)
   (hcd : (x == ("__classdict__" : Str)) = false := by decide) : PE X (.Name x pos) (mVar i) := (pe_var hN hv hd hcd).imp fun σ H Q q => by
 unfold mVar at q
 split at q
 · rename_i v e; exact ⟨v, e, q⟩
 · exact q.elim
theorem qgi {x : Str} {i : Int} {pos : Pos} (hm : ∃ t, X.mg x = some (.int i t)) (hg : Gl X x := by rfl) (hd : (x == ("__debug__" : Str)) = false := by decide) : PE X (.Name x pos) (tC (.int i)) := by
 obtain ⟨t, e⟩ := hm
 exact pe_glob hg e ⟨t, rfl⟩ hd
def mSub : R2 := fun x y H Q => match x, y with | .int i, .int j => Q (.int (i - j)) H | _, _ => False
theorem oSub : OpR X (binaryOp .Sub) mSub := op_sub.imp fun x y H Q q => by
 unfold mSub at q
 split at q
 · exact ⟨_, _, rfl, rfl, q⟩
 · exact q.elim
theorem op_mulG : OpR X (binaryOp .Mult) (rI IntMulOk fun i j => .int (i * j)) := opI fun _ _ _ _ _ _ _ hc q => mul_int q hc
def mMul : R2 := fun x y H Q => match x, y with
 | .int i, .int j => IntMulOk i j ∧ Q (.int (i * j)) H
 | _, _ => False
theorem oMul : OpR X (binaryOp .Mult) mMul := op_mulG.imp fun x y H Q q => by
 unfold mMul at q
 split at q
 · exact ⟨_, _, rfl, rfl, q.1, q.2⟩
 · exact q.elim
def mMod : R2 := fun x y H Q => match x, y with | .int i, .int j => 0 < j ∧ Q (.int (i % j)) H | _, _ => False
theorem oMod : OpR X (binaryOp .Mod) mMod := op_mod.imp fun x y H Q q => by
 unfold mMod at q
 split at q
 · exact ⟨_, _, rfl, rfl, q.1, q.2⟩
 · exact q.elim
def mPow : R2 := fun x y H Q => match x, y with | .int i, .int j => (0 ≤ j ∧ j ≤ 1000000 ∧ i.natAbs < 2 ^ 64) ∧ Q (.int (i ^ j.toNat)) H | _, _ => False
theorem oPow : OpR X (binaryOp .Pow) mPow := op_pow.imp fun x y H Q q => by
 unfold mPow at q
 split at q
 · exact ⟨_, _, rfl, rfl, q.1, q.2⟩
 · exact q.elim
def mShl : R2 := fun x y H Q => match x, y with | .int i, .int j => (0 ≤ j ∧ j ≤ 1000000 ∧ i.natAbs < 2 ^ 64) ∧ Q (.int (i * 2 ^ j.toNat)) H | _, _ => False
theorem oShl : OpR X (binaryOp .LShift) mShl := op_shl.imp fun x y H Q q => by
 unfold mShl at q
 split at q
 · exact ⟨_, _, rfl, rfl, q.1, q.2⟩
 · exact q.elim
def mShr : R2 := fun x y H Q => match x, y with | .int i, .int j => 0 ≤ j ∧ Q (.int (i / 2 ^ j.toNat)) H | _, _ => False
theorem oShr : OpR X (binaryOp .RShift) mShr := op_shr.imp fun x y H Q q => by
 unfold mShr at q
 split at q
 · exact ⟨_, _, rfl, rfl, q.1, q.2⟩
 · exact q.elim
def mXor : R2 := fun x y H Q => match x, y with | .int i, .int j => Q (.int (Builtin.bitXor i j)) H | _, _ => False
theorem oXor : OpR X (binaryOp .BitXor) mXor := op_xor.imp fun x y H Q q => by
 unfold mXor at q
 split at q
 · exact ⟨_, _, rfl, rfl, q⟩
 · exact q.elim
def mLt : R2 := fun x y H Q => match x, y with | .int i, .int j => Q (.bl (decide (i < j))) H | _, _ => False
theorem oLt : OpR X (compareOp .Lt) mLt := op_lt.imp fun x y H Q q => by
 unfold mLt at q
 split at q
 · exact ⟨_, _, rfl, rfl, q⟩
 · exact q.elim
def mLe : R2 := fun x y H Q => match x, y with | .int i, .int j => Q (.bl (decide (i ≤ j))) H | _, _ => False
theorem oLe : OpR X (compareOp .LtE) mLe := op_le.imp fun x y H Q q => by
 unfold mLe at q
 split at q
 · exact ⟨_, _, rfl, rfl, q⟩
 · exact q.elim
def mGt : R2 := fun x y H Q => match x, y with | .int i, .int j => Q (.bl (decide (j < i))) H | _, _ => False
theorem oGt : OpR X (compareOp .Gt) mGt := op_gt.imp fun x y H Q q => by
 unfold mGt at q
 split at q
 · exact ⟨_, _, rfl, rfl, q⟩
 · exact q.elim
def mEq : R2 := fun x y H Q => match x, y with
 | .int i, .int j => Q (.bl (decide (i = j))) H
 | .str i, .str j => Q (.bl (decide (i = j))) H
 | .bl i, .bl j => Q (.bl (decide (i = j))) H
 | .non, .non => Q (.bl true) H
 | .non, .int _ => Q (.bl false) H | .int _, .non => Q (.bl false) H | .non, .bl _ => Q (.bl false) H | .bl _, .non => Q (.bl false) H | .non, .str _ => Q (.bl false) H | .str _, .non => Q (.bl false) H
 | .int _, .str _ => Q (.bl false) H | .str _, .int _ => Q (.bl false) H | .bl _, .str _ => Q (.bl false) H | .str _, .bl _ => Q (.bl false) H
 | _, _ => False
theorem decV {α : Type} [DecidableEq α] {f : α → V} (hf : ∀ a b, f a = f b → a = b) (a b : α) : decide (f a = f b) = decide (a = b) := by
 by_cases h : a = b
 · subst h; simp
 · rw [decide_eq_false h, decide_eq_false fun e => h (hf a b e)]
theorem oEq : OpR X (compareOp .Eq) mEq := op_eq.imp fun x y H Q q => by
 unfold mEq at q
 split at q
 · exact ⟨rfl, by rw [decV (f := V.int) fun _ _ e => V.int.inj e]; exact q⟩
 · exact ⟨rfl, by rw [decV (f := V.str) fun _ _ e => V.str.inj e]; exact q⟩
 · exact ⟨rfl, by rw [decV (f := V.bl) fun _ _ e => V.bl.inj e]; exact q⟩
 · exact ⟨rfl, by simpa using q⟩
 all_goals first | exact q.elim | exact ⟨rfl, q⟩
def mNe : R2 := fun x y H Q => match x, y with
 | .int i, .int j => Q (.bl (!decide (i = j))) H
 | .str i, .str j => Q (.bl (!decide (i = j))) H
 | .bl i, .bl j => Q (.bl (!decide (i = j))) H
 | .non, .non => Q (.bl false) H
 | .non, .int _ => Q (.bl true) H | .int _, .non => Q (.bl true) H | .non, .bl _ => Q (.bl true) H | .bl _, .non => Q (.bl true) H | .non, .str _ => Q (.bl true) H | .str _, .non => Q (.bl true) H
 | .int _, .str _ => Q (.bl true) H | .str _, .int _ => Q (.bl true) H | .bl _, .str _ => Q (.bl true) H | .str _, .bl _ => Q (.bl true) H
 | _, _ => False
theorem oNe : OpR X (compareOp .NotEq) mNe := op_ne.imp fun x y H Q q => by
 unfold mNe at q
 split at q
 · exact ⟨rfl, by rw [decV (f := V.int) fun _ _ e => V.int.inj e]; exact q⟩
 · exact ⟨rfl, by rw [decV (f := V.str) fun _ _ e => V.str.inj e]; exact q⟩
 · exact ⟨rfl, by rw [decV (f := V.bl) fun _ _ e => V.bl.inj e]; exact q⟩
 · exact ⟨rfl, by simpa using q⟩
 all_goals first | exact q.elim | exact ⟨rfl, q⟩
def mIsN : R2 := fun x y H Q => match y with | .non => Q (.bl (match x with | .non => true | _ => false)) H | _ => False
theorem oIs : OpR X (compareOp .Is) mIsN := op_isN.imp fun x y H Q q => by
 unfold mIsN at q
 split at q
 · refine ⟨rfl, ?_⟩
   cases x <;> simpa using q
 · exact q.elim
def mTest (t : TE) : TT := fun σ H Q => t σ H fun x H' => match x with | .bl k => Q k H' | _ => False
theorem qtc {op : CmpOp} {r : R2} {a b : Expr} {ta tb : TE} {pos : Pos} (ho : OpR X (compareOp op) r) (ha : PE X a ta) (hb : PE X b tb) (hm : behindInMarks op b = false := by first | exact nomark _ | rfl) : PT X (.Compare a [op] [b] pos) (mTest (tOp r ta tb)) := by
 intro pins s σ H Q I h
 refine wpAny_isTrue_Compare1 (thn (ha pins s σ H _ I h) fun v s1 ⟨x, H1, I1, r1, q1⟩ => thn (hb pins s1 σ H1 _ I1 q1) fun u s2 ⟨y, H2, I2, r2, q2⟩ =>
  thn (ho pins s2 σ H2 x y v u _ I2 r1 r2 q2) fun c s3 ⟨z, H3, I3, r3, q3⟩ => ?_) hm
 cases z <;> first | exact q3.elim | (cases r3; exact wpAny_truthy_bool ⟨H3, I3, q3⟩)
theorem qc {op : CmpOp} {r : R2} {a b : Expr} {ta tb : TE} {pos : Pos} (ho : OpR X (compareOp op) r) (ha : PE X a ta) (hb : PE X b tb) (hm : behindInMarks op b = false := by first | exact nomark _ | rfl) : PE X (.Compare a [op] [b] pos) (tOp r ta tb) := pe_cmpR ho ha hb hm
def mChain (r r' : R2) (ta tb tc : TE) : TE := fun σ H Q => ta σ H fun x H1 => tb σ H1 fun y H2 => r x y H2 fun z H3 => match z with
 | .bl k => Sel k (tc σ H3 fun w' H4 => r' y w' H4 Q) (Q (.bl false) H3)
 | _ => False
theorem qch {op op' : CmpOp} {r r' : R2} {a b c : Expr} {ta tb tc : TE} {pos : Pos} (ho : OpR X (compareOp op) r) (ho' : OpR X (compareOp op') r') (ha : PE X a ta) (hb : PE X b tb) (hc : PE X c tc)
  (hm : lastMarks [op, op'] [b, c] = false := by with_unfolding_all rfl) : PE X (.Compare a [op, op'] [b, c] pos) (mChain r r' ta tb tc) := by
 intro pins s σ H Q I h
 refine Compare_chain (thn (ha pins s σ H _ I h) fun v s1 ⟨x, H1, I1, r1, q1⟩ => chain_link (thn (hb pins s1 σ H1 _ I1 q1) fun u s2 ⟨y, H2, I2, r2, q2⟩ =>
  thn (ho pins s2 σ H2 x y v u _ I2 r1 r2 q2) fun d s3 ⟨z, H3, I3, r3, q3⟩ => ?_)) hm
 cases z <;> first | exact q3.elim | skip
 rename_i k
 cases r3
 refine wpAny_truthy_bool ?_
 have q3 := sel_ite q3
 cases k with
 | false => exact ite_ff ⟨.bl false, H3, I3, rfl, q3⟩
 | true => exact ite_tt (chain_last (thn (hc pins s3 σ H3 _ I3 q3) fun w' s4 ⟨z', H4, I4, r4, q4⟩ => ho' pins s4 σ H4 y z' u w' Q I4 r2 r4 q4))
theorem qtch {op op' : CmpOp} {r r' : R2} {a b c : Expr} {ta tb tc : TE} {pos : Pos} (ho : OpR X (compareOp op) r) (ho' : OpR X (compareOp op') r') (ha : PE X a ta) (hb : PE X b tb) (hc : PE X c tc)
    (hm : lastMarks [op, op'] [b, c] = false := by with_unfolding_all rfl) : PT X (.Compare a [op, op'] [b, c] pos) (mTest (mChain r r' ta tb tc)) := by
  intro pins s σ H Q I h
  refine isTrue_chain (thn (ha pins s σ H _ I h) fun v s1 ⟨x, H1, I1, r1, q1⟩ => test_link (thn (hb pins s1 σ H1 _ I1 q1) fun u s2 ⟨y, H2, I2, r2, q2⟩ =>
    thn (ho pins s2 σ H2 x y v u _ I2 r1 r2 q2) fun d s3 ⟨z, H3, I3, r3, q3⟩ => ?_)) hm
  cases z <;> first | exact q3.elim | skip
  rename_i k
  cases r3
  refine wpAny_truthy_bool ?_
  have q3 := sel_ite q3
  cases k with
  | false => exact ite_ff ⟨H3, I3, q3⟩
  | true =>
    refine ite_tt (test_last (thn (hc pins s3 σ H3 _ I3 q3) fun w' s4 ⟨z', H4, I4, r4, q4⟩ => thn (ho' pins s4 σ H4 y z' u w' _ I4 r2 r4 q4) fun d' s5 ⟨z2, H5, I5, r5, q5⟩ => ?_))
    cases z2 <;> first | exact q5.elim | (cases r5; exact wpAny_truthy_bool ⟨H5, I5, q5⟩)
def mTru (K : PySem.W.Frag) (t : TE) : TT := fun σ H Q => t σ H fun x H' => match x with
 | .bl k => Q k H'
 | .non => Q false H'
 | .int i => Q (i != 0) H'
 | x => ∃ k, TruV K x H' k ∧ Q k H'
theorem qtb {e : Expr} {t : TE} (h : PE X e t) (he : ∀ whole, isTrue e X.env whole = (do let v ← whole; standAt e.pos; holding [v] (truthy v)) := by intro _; rfl) : PT X e (mTru X.K t) := by
 intro pins s σ H Q I q
 refine isTrue_plain (thn (h pins s σ H _ I q) fun v s1 ⟨x, H1, I1, r1, q1⟩ => tru_ok pins s1 σ H1 x v Q I1 r1 ?_) (he _)
 cases x <;> first | exact ⟨_, rfl, q1⟩ | exact q1
def mAnd (t u : TT) : TT := fun σ H Q => t σ H fun c H1 => Sel c (u σ H1 Q) (Q false H1)
def mOr (t u : TT) : TT := fun σ H Q => t σ H fun c H1 => Sel c (Q true H1) (u σ H1 Q)
variable {a b c : Expr} {ta tb : TE} {tA tB' : TT} {rest : List Expr} {pos : Pos}
theorem qw_and1 (ha : PT X a tA) : PW X (.BoolOp .And [a] pos) tA := pw_and1 ha
theorem qw_or1 (ha : PT X a tA) : PW X (.BoolOp .Or [a] pos) tA := pw_or1 ha
theorem qw_and (ha : PT X a tA) (hb : PW X (.BoolOp .And (b :: rest) pos) tB') : PW X (.BoolOp .And (a :: b :: rest) pos) (mAnd tA tB') := by
 intro wh pins s σ H Q I h
 refine isTrue_and (thn (ha pins s σ H _ I h) fun c s1 ⟨H1, I1, q1⟩ => ?_)
 have q1 := sel_ite q1
 cases c with
 | true => exact hb wh pins s1 σ H1 Q I1 q1
 | false => exact ⟨H1, I1, q1⟩
theorem qw_or (ha : PT X a tA) (hb : PW X (.BoolOp .Or (b :: rest) pos) tB') : PW X (.BoolOp .Or (a :: b :: rest) pos) (mOr tA tB') := by
 intro wh pins s σ H Q I h
 refine isTrue_or (thn (ha pins s σ H _ I h) fun c s1 ⟨H1, I1, q1⟩ => ?_)
 have q1 := sel_ite q1
 cases c with
 | true => exact ⟨H1, I1, q1⟩
 | false => exact hb wh pins s1 σ H1 Q I1 q1
def mAndV (ta tb : TE) : TE := fun σ H Q => ta σ H fun x H1 => match x with | .bl c => Sel c (tb σ H1 Q) (Q (.bl false) H1) | _ => False
def mOrV (ta tb : TE) : TE := fun σ H Q => ta σ H fun x H1 => match x with | .bl c => Sel c (Q (.bl true) H1) (tb σ H1 Q) | _ => False
def mNotV (ta : TE) : TE := fun σ H Q => ta σ H fun x H1 => match x with | .bl c => Q (.bl (!c)) H1 | _ => False
theorem qand (ha : PE X a ta) (hb : PE X (.BoolOp .And (b :: rest) pos) tb) : PE X (.BoolOp .And (a :: b :: rest) pos) (mAndV ta tb) := by
 intro pins s σ H Q I h
 refine BoolOp_and (thn (ha pins s σ H _ I h) fun v s1 ⟨x, H1, I1, r1, q1⟩ => ?_)
 cases x <;> first | exact q1.elim | skip
 rename_i c
 cases r1
 refine wpAny_truthy_bool ?_
 have q1 := sel_ite q1
 cases c with
 | true => exact hb pins s1 σ H1 Q I1 q1
 | false => exact ⟨.bl false, H1, I1, rfl, q1⟩
theorem qor (ha : PE X a ta) (hb : PE X (.BoolOp .Or (b :: rest) pos) tb) : PE X (.BoolOp .Or (a :: b :: rest) pos) (mOrV ta tb) := by
 intro pins s σ H Q I h
 refine BoolOp_or (thn (ha pins s σ H _ I h) fun v s1 ⟨x, H1, I1, r1, q1⟩ => ?_)
 cases x <;> first | exact q1.elim | skip
 rename_i c
 cases r1
 refine wpAny_truthy_bool ?_
 have q1 := sel_ite q1
 cases c with
 | false => exact hb pins s1 σ H1 Q I1 q1
 | true => exact ⟨.bl true, H1, I1, rfl, q1⟩
theorem qnotV (ha : PE X a ta) : PE X (.UnaryOp .Not a pos) (mNotV ta) := by
 intro pins s σ H Q I h
 refine UnaryOp_ (thn (ha pins s σ H _ I h) fun v s1 ⟨x, H1, I1, r1, q1⟩ => ?_)
 cases x <;> first | exact q1.elim | skip
 rename_i c
 cases r1
 exact not_of (wpAny_truthy_bool ⟨.bl (!c), H1, I1, rfl, q1⟩)
def mIf (t : TT) (ta tb : TE) : TE := fun σ H Q => t σ H fun c H1 => Sel c (ta σ H1 Q) (tb σ H1 Q)
theorem qifx {c : Expr} (hc : PT X c tA) (ha : PE X a ta) (hb : PE X b tb) : PE X (.IfExp c a b pos) (mIf tA ta tb) := by
 intro pins s σ H Q I h
 refine wpAny_IfExp (thn (hc pins s σ H _ I h) fun d s1 ⟨H1, I1, q1⟩ => ?_)
 have q1 := sel_ite q1
 cases d with
 | true => exact ha pins s1 σ H1 Q I1 q1
 | false => exact hb pins s1 σ H1 Q I1 q1
def mIfS (c : TT) (t u : TS) : TS := fun D σ H => c σ H fun b H1 => Sel b (t D σ H1) (u D σ H1)
theorem qif {c : Expr} {l m : List Stmt} {tc : TT} {t u : TS} (hc : PT X c tc) (ha : PSs X l t) (hb : PSs X m u) : PS X (.If c l m pos) (mIfS tc t u) := by
 intro pins s σ H D I h
 refine wpAny_If (thn (hc pins s σ H _ I h) fun d s1 ⟨H1, I1, q1⟩ => ?_)
 have q1 := sel_ite q1
 cases d with
 | true => exact ha pins s1 σ H1 D I1 q1
 | false => exact hb pins s1 σ H1 D I1 q1
theorem qlen : CallR X (.builtin "len") (fun xs H Q => match xs with
   | [.str y] => y.length ≤ sizeLine ∧ Q (.int y.length) H
   | [.ref p] => (∃ xs, SqL X.K H p xs ∧ Q (.int xs.length) H) ∨ (∃ xs, SqT X.K H p xs ∧ Q (.int xs.length) H) ∨ ∃ kvs, H p = some (.dK kvs) ∧ Q (.int kvs.length) H
   | _ => False) := by
 intro pins s σ H xs us Q I r h
 split at h
 · rename_i y
   exact call_len pins s σ H _ us Q I r ⟨_, _, rfl, ⟨h.1, rfl⟩, h.2⟩
 · rename_i p
   rcases h with ⟨ys, h1, h2⟩ | ⟨ys, h1, h2⟩ | ⟨kvs, h1, h2⟩
   · exact call_len pins s σ H _ us Q I r ⟨_, _, rfl, .inl ⟨ys, h1, rfl⟩, h2⟩
   · exact call_len pins s σ H _ us Q I r ⟨_, _, rfl, .inr ⟨ys, h1, rfl⟩, h2⟩
   · exact call_lenD pins s σ H _ us Q I r ⟨p, kvs, rfl, h1, h2⟩
 · exact h.elim
end
end L2
namespace L2
open PySem PySem.Spec PyProof.Rows
section
variable {X : Cx} {tg : Expr}
def mNeg : V → Hp → VK → Prop := fun x H Q => match x with | .int i => Q (.int (-i)) H | _ => False
theorem uNeg : UnR X (unaryOp .USub) mNeg := fun pins s σ H x v Q I rx q => un_neg pins s σ H x v Q I rx (by
 unfold mNeg at q
 split at q
 · exact ⟨_, rfl, q⟩
 · exact q.elim)
def kLen (K : PySem.W.Frag) : List V → Hp → VK → Prop := fun xs H Q => match xs with
 | [.str y] => y.length ≤ sizeLine ∧ Q (.int y.length) H
 | [.ref p] => (∃ xs, SqL K H p xs ∧ Q (.int xs.length) H) ∨ (∃ xs, SqT K H p xs ∧ Q (.int xs.length) H) ∨ ∃ kvs, H p = some (.dK kvs) ∧ Q (.int kvs.length) H
 | _ => False
theorem cLen : CallR X (.builtin "len") (kLen X.K) := qlen
def kIsi : List V → Hp → VK → Prop := fun xs H Q => match xs with
 | [x, .ty T] => T ∈ ["int", "bool", "str", "tuple", "list", "dict"] ∧ ∃ t, tyN H x = some t ∧ Q (.bl (isI t T)) H
 | _ => False
theorem cIsi : CallR X (.builtin "isinstance") kIsi := fun pins s σ H xs us Q I r h => by
 unfold kIsi at h
 split at h
 · obtain ⟨h1, t, h2, h3⟩ := h
   exact call_isi pins s σ H _ us Q I r ⟨_, _, t, rfl, h1, h2, h3⟩
 · exact h.elim
def kStr : List V → Hp → VK → Prop := fun xs H Q => match xs with
 | [.int i] => i.natAbs.log2 < 1920 ∧ Q (.str (toString i)) H
 | _ => False
theorem cStr : CallR X (.type "str") kStr := fun pins s σ H xs us Q I r h => by
 unfold kStr at h
 split at h
 · exact call_str_int pins s σ H _ us Q I r ⟨_, rfl, h.1, h.2⟩
 · exact h.elim
end
end L2
namespace L2
open PySem PySem.Spec PyProof.Rows
structure Items (J : It) (n : Nat) (it : Nat → V) (Pv : Hp → Prop) : Prop where
 go : ∀ i H, i < n → Pv H → J.go i H
 yld : ∀ i H x H', i < n → Pv H → J.yld i H x H' → H' = H ∧ x = it i
 stop : ∀ H, Pv H → J.stop n H
theorem Items.list {K : PySem.W.Frag} {a : Addr} {xs : List V} (d : V) : Items (Itl K a) xs.length (fun i => xs.getD i d) (fun H => SqL K H a xs) where
 go := fun i H hi h => ⟨xs, xs[i], h, by simp [hi]⟩
 yld := fun i H x H' hi h y => ⟨y.1, by have := y.2 xs h; rw [List.getD_eq_getElem?_getD, this]; rfl⟩
 stop := fun H h => ⟨xs, h, Nat.le_refl _⟩
theorem Items.tuple {K : PySem.W.Frag} {a : Addr} {xs : List V} (d : V) : Items (Itt K a) xs.length (fun i => xs.getD i d) (fun H => SqT K H a xs) where
 go := fun i H hi h => ⟨xs, xs[i], h, by simp [hi]⟩
 yld := fun i H x H' hi h y => ⟨y.1, by have := y.2 xs h; rw [List.getD_eq_getElem?_getD, this]; rfl⟩
 stop := fun H h => ⟨xs, h, Nat.le_refl _⟩
def CWd (n : Nat) (Pv : Nat → List V → Hp → Prop) : Nat → Nat → List V → Hp → Prop := fun i m ys H => i ≤ n ∧ m = n - i ∧ Pv i ys H
theorem CWd.next {n i : Nat} {Pv : Nat → List V → Hp → Prop} {ys : List V} {H : Hp} (hi : i < n) (h : Pv (i + 1) ys H) : ∃ m', m' < n - i ∧ CWd n Pv (i + 1) m' ys H := ⟨n - (i + 1), by omega, hi, rfl, h⟩
theorem comp_by {J : It} {n : Nat} {it : Nat → V} {Pk : Hp → Prop} {σ : St} {is : List Nat} {tc : TT} {te : TE} {Q : VK} {H1 : Hp} {D : Addr} (T : Items J n it Pk) (Pv : Nat → List V → Hp → Prop)
   (hk : ∀ i ys H, i ≤ n → Pv i ys H → Pk H) (h0 : Pv 0 [] (upd H1 D (.lst [])))
   (hs : ∀ i ys H2, i < n → Pv i ys H2 → tc (some (it i) :: capSt σ is) H2 fun b H4 => if b = true then
    te (some (it i) :: capSt σ is) H4 fun y H5 => H5 D = some (.lst ys) ∧ ys.length < sizeLine ∧ ∃ m', m' < n - i ∧ CWd n Pv (i + 1) m' (ys ++ [y]) (upd H5 D (.lst (ys ++ [y])))
    else ∃ m', m' < n - i ∧ CWd n Pv (i + 1) m' ys H4)
   (hd : ∀ ys H, Pv n ys H → Q (.ref D) H) : CompW is tc te σ D J H1 Q := by
 refine ⟨CWd n Pv, ⟨n, Nat.zero_le _, rfl, h0⟩, ?_⟩
 rintro i m ys H2 ⟨hi, rfl, p⟩
 by_cases hlt : i < n
 · refine .inr ⟨T.go i H2 hlt (hk i ys H2 hi p), fun x H3 y => ?_⟩
   obtain ⟨rfl, rfl⟩ := T.yld i H2 x H3 hlt (hk i ys H2 hi p) y
   exact hs i ys _ hlt p
 · have e : i = n := by omega
   subst e
   exact .inl ⟨T.stop H2 (hk _ ys H2 hi p), hd ys H2 p⟩
theorem Same.upd {H : Hp} {p : Addr} {o : HO} (h : H p = none) : Same H (upd H p o) := fun b u e => by rw [upd_ne (ne_of_none e h)]; exact e
theorem Same.put {H H' : Hp} {p : Addr} {o : HO} (s : Same H H') (h : H p = none) : Same H (L2.upd H' p o) := fun b u e => by rw [upd_ne (ne_of_none e h)]; exact s b u e
theorem atI_lt {xs : List V} {i : Int} (h0 : 0 ≤ i) (h1 : i < xs.length) : atI xs i = some (xs.getD i.toNat .non) := by
 unfold atI ixN
 rw [if_pos h0, if_pos h1]
 show xs[i.toNat]? = _
 rw [List.getD_eq_getElem?_getD]
 have : i.toNat < xs.length := by omega
 rw [List.getElem?_eq_getElem this]; rfl
end L2
namespace L2
open PySem PySem.Spec PyProof.Rows
def notStar : Expr → Bool
 | .Starred _ _ => false
 | _ => true
theorem starEach_plain {e : Expr} (h : notStar e = true) (rest : List Expr) (env : Env) : starEach (e :: rest) env = (false, eval e env) :: starEach rest env := by
 cases e <;> first | rfl | cases h
def noStars : List Expr → Bool
 | [] => true
 | e :: r => notStar e && noStars r
theorem noStars_any : ∀ {es : List Expr} {env : Env} {pos : Pos}, noStars es = true → (backTo pos (starEach es env)).any (·.1) = false
  | [], _, _, _ => rfl
  | e :: r, env, pos, h => by
    have h : (notStar e && noStars r) = true := h
    rw [Bool.and_eq_true] at h
    rw [starEach_plain h.1]
    show (false || (backTo pos (starEach r env)).any (·.1)) = false
    rw [noStars_any h.2]; rfl
section
variable {X : Cx} {e : Expr} {es : List Expr} {te : TE} {t : TA} {pos : Pos}
theorem qa_cons (ha : PE X e te) (hr : PA X es t) (hs : notStar e = true := by rfl) : PA X (e :: es) (tCons te t) := pa_cons ha hr (starEach_plain hs es X.env)
variable {x : Str} {p apos cpos : Pos} {id T : String} {r : List V → Hp → VK → Prop}
theorem q_callB (hc : CallR X (.builtin id) r) (hg : Gl X x) (hm : X.mg x = none) (hv : bootBuiltins x = some (.builtin id)) (ha : PA X (e :: es) t) (hn : x ≠ "__name__" := by decide) (hdb : (x == ("__debug__" : Str)) = false := by decide)
  (hs : noStars (e :: es) = true := by rfl) : PE X (.Call (.Name x p) (e :: es) [] pos) (tCB r t) :=
 have h : (notStar e && noStars es) = true := hs
 pe_callB hc hg hm hv ha hn hdb (starEach_plain (Bool.and_eq_true_iff.mp h).1 es X.env) (noStars_any (Bool.and_eq_true_iff.mp h).2)
theorem q_callTy (hc : CallR X (.type T) r) (hg : Gl X x) (hm : X.mg x = none) (hv : bootBuiltins x = some (.type T)) (ha : PA X (e :: es) t) (hn : x ≠ "__name__" := by decide) (hdb : (x == ("__debug__" : Str)) = false := by decide)
  (hs : noStars (e :: es) = true := by rfl) : PE X (.Call (.Name x p) (e :: es) [] pos) (tCB r t) :=
 have h : (notStar e && noStars es) = true := hs
 pe_callTy hc hg hm hv ha hn hdb (starEach_plain (Bool.and_eq_true_iff.mp h).1 es X.env) (noStars_any (Bool.and_eq_true_iff.mp h).2)
variable {CX : CXT} {k : Nat} {f C : Addr} {fd : FuncData} {ps : List Str} {sp : Sp} {dvs : List V} {ds : List Value} {E : XK} {m : Str} {o : Expr} {ta : TE}
theorem all_noStars : ∀ {es : List Expr} {env : Env} {pos : Pos}, noStars es = true → (backTo pos (starEach es env)).all (fun x => !x.1) = true
  | [], _, _, _ => rfl
  | e :: r, env, pos, h => by
    have h : (notStar e && noStars r) = true := h
    rw [Bool.and_eq_true] at h
    rw [starEach_plain h.1]
    show (true && (backTo pos (starEach r env)).all (fun x => !x.1)) = true
    rw [all_noStars h.2]; rfl
variable {to : TE} {name : Str} {rm : V → List V → Hp → VK → Prop}
theorem q_bm (pa : PlainAttrs T) (slot : Slot T name id) (hty : typeOf (.builtin id) = pure (.type "method_descriptor")) (hm : MtR X id rm) (ho : PE X o to) (ha : PA X (e :: es) t)
  (hbase : attributeBase o name X.env (eval o X.env) = eval o X.env := by rfl) (hfew : decide ((e :: es).length < 30) = true := by rfl)
  (hline : (apos.endLine == cpos.line) = true := by rfl) (hs : noStars (e :: es) = true := by rfl) : PE X (.Call (.Attribute o name apos) (e :: es) [] cpos) (tBM X.K T rm to t) :=
 have h : (notStar e && noStars es) = true := hs
 pe_bm pa slot hty hm ho ha hbase (by rw [all_noStars hs]; exact hfew) hline (starEach_plain (Bool.and_eq_true_iff.mp h).1 es X.env) (noStars_any (Bool.and_eq_true_iff.mp h).2)
end
end L2
namespace L2
open PySem PySem.Spec PyProof.Rows
structure QE (X : Cx) (e : Expr) (t : TE) : Prop where
 out : PE X e t
structure QT (X : Cx) (e : Expr) (t : TT) : Prop where
 out : PT X e t
structure QW (X : Cx) (e : Expr) (t : TT) : Prop where
 out : PW X e t
structure QA (X : Cx) (e : List Expr) (t : TA) : Prop where
 out : PA X e t
structure QS (X : Cx) (e : Stmt) (t : TS) : Prop where
 out : PS X e t
structure QSs (X : Cx) (e : List Stmt) (t : TS) : Prop where
 out : PSs X e t
structure QI (X : Cx) (tg iter : Expr) (t : TI) : Prop where
 out : PI X tg iter t
structure QO (X : Cx) (e : Option Expr) (t : TO) : Prop where
 out : PO X e t
structure QIfs (X : Cx) (e : List Expr) (t : TT) : Prop where
 out : PIfs X e t
section
variable {X : Cx} {a b c e o : Expr} {es rest : List Expr} {ta tb tc te to tv : TE} {tA tB' : TT} {t : TA} {pos apos cpos p : Pos} {x y : Str}
theorem x_var (i : Nat) (hN : X.N[i]? = some x := by rfl) (hv : Vis X.env.scope x := by first | exact Or.inl rfl | exact Or.inr (Or.inl rfl) | exact Or.inr (Or.inr rfl)) (hd : (x == ("__debug__" : Str)) = false := by decide)
 (hcd : (x == ("__classdict__" : Str)) = false := by decide) : QE X (.Name x pos) (mVar i) := ⟨qv i hN hv hd hcd⟩
theorem x_gi {i : Int} (hm : ∃ t, X.mg x = some (.int i t)) (hg : Gl X x := by rfl) (hd : (x == ("__debug__" : Str)) = false := by decide) : QE X (.Name x pos) (tC (.int i)) := ⟨qgi hm hg hd⟩
theorem x_ty {T : String} (hm : X.mg x = none) (hv : bootBuiltins x = some (.type T)) (hg : Gl X x := by rfl) (hn : x ≠ "__name__" := by decide) (hd : (x == ("__debug__" : Str)) = false := by decide) : QE X (.Name x pos) (tC (.ty T)) := ⟨pe_bltn hg hm hv rfl hn hd⟩
theorem x_int {i : Int} {j} : QE X (.Constant (.int i) j pos) (tC (.int i)) := ⟨pe_int⟩
theorem x_bl {b : Bool} {j} : QE X (.Constant (.bool b) j pos) (tC (.bl b)) := ⟨pe_bl⟩
theorem x_non {j} : QE X (.Constant .none j pos) (tC .non) := ⟨pe_non⟩
theorem x_str {z : Str} {j} : QE X (.Constant (.str z) j pos) (tC (.str z)) := ⟨pe_str⟩
theorem x_neg (ha : QE X a ta) : QE X (.UnaryOp .USub a pos) (tUn mNeg ta) := ⟨pe_un uNeg ha.out⟩
theorem x_not (ha : QE X a ta) : QE X (.UnaryOp .Not a pos) (mNotV ta) := ⟨qnotV ha.out⟩
theorem x_op {op : Operator} {r : R2} (ho : OpR X (binaryOp op) r) (ha : QE X a ta) (hb : QE X b tb) : QE X (.BinOp a op b pos) (tOp r ta tb) := ⟨pe_op ho ha.out hb.out⟩
theorem x_cmp {op : CmpOp} {r : R2} (ho : OpR X (compareOp op) r) (ha : QE X a ta) (hb : QE X b tb) (hm : behindInMarks op b = false := by first | exact nomark _ | rfl) : QE X (.Compare a [op] [b] pos) (tOp r ta tb) := ⟨qc ho ha.out hb.out hm⟩
theorem x_chain {op op' : CmpOp} {r r' : R2} (ho : OpR X (compareOp op) r) (ho' : OpR X (compareOp op') r') (ha : QE X a ta) (hb : QE X b tb) (hc : QE X c tc) (hm : lastMarks [op, op'] [b, c] = false := by with_unfolding_all rfl) :
 QE X (.Compare a [op, op'] [b, c] pos) (mChain r r' ta tb tc) := ⟨qch ho ho' ha.out hb.out hc.out hm⟩
theorem x_one {op} (h : QE X a ta) : QE X (.BoolOp op [a] pos) ta := ⟨pe_one h.out⟩
theorem x_and (ha : QE X a ta) (hb : QE X (.BoolOp .And (b :: rest) pos) tb) : QE X (.BoolOp .And (a :: b :: rest) pos) (mAndV ta tb) := ⟨qand ha.out hb.out⟩
theorem x_or (ha : QE X a ta) (hb : QE X (.BoolOp .Or (b :: rest) pos) tb) : QE X (.BoolOp .Or (a :: b :: rest) pos) (mOrV ta tb) := ⟨qor ha.out hb.out⟩
theorem x_if (hc : QT X c tA) (ha : QE X a ta) (hb : QE X b tb) : QE X (.IfExp c a b pos) (mIf tA ta tb) := ⟨qifx hc.out ha.out hb.out⟩
theorem x_nil : QA X [] tNil := ⟨pa_nil⟩
theorem x_cons (ha : QE X e te) (hr : QA X es t) (hs : notStar e = true := by rfl) : QA X (e :: es) (tCons te t) := ⟨qa_cons ha.out hr.out hs⟩
theorem x_lst (h : QA X es t) : QE X (.List es pos) (tLst t) := ⟨pe_lst h.out⟩
theorem x_tup {x1} (h : QA X es t) : QE X (.Tuple es x1 pos) (tTup t) := ⟨pe_tup h.out⟩
theorem x_ix {r : R2} (hr : IxR X r) (ha : QE X a ta) (hb : QE X b tb) (hs : PlainIx b) : QE X (.Subscript a b pos) (tOp r ta tb) := ⟨pe_ix hr ha.out hb.out hs⟩
theorem x_onone : QO X none tNoPart := ⟨po_none⟩
theorem x_osome (h : QE X e te) : QO X (some e) (tPart te) := ⟨po_some h.out⟩
theorem x_slice {r : V → Option Int → Option Int → Hp → VK → Prop} {lo hi : Option Expr} {tl th : TO} {p2 : Pos} (hr : SlR X r) (he : QE X e te) (hl : QO X lo tl) (hu : QO X hi th) : QE X (.Subscript e (.Slice lo hi none p2) pos) (tSl r te tl th) := ⟨pe_slice hr he.out hl.out hu.out⟩
variable {id T : String} {r : List V → Hp → VK → Prop}
theorem x_callB (hc : CallR X (.builtin id) r) (hm : X.mg x = none) (hv : bootBuiltins x = some (.builtin id)) (ha : QA X (e :: es) t) (hg : Gl X x := by rfl) (hn : x ≠ "__name__" := by decide) (hdb : (x == ("__debug__" : Str)) = false := by decide)
 (hs : noStars (e :: es) = true := by rfl) : QE X (.Call (.Name x p) (e :: es) [] pos) (tCB r t) := ⟨q_callB hc hg hm hv ha.out hn hdb hs⟩
theorem x_callTy (hc : CallR X (.type T) r) (hm : X.mg x = none) (hv : bootBuiltins x = some (.type T)) (ha : QA X (e :: es) t) (hg : Gl X x := by rfl) (hn : x ≠ "__name__" := by decide) (hdb : (x == ("__debug__" : Str)) = false := by decide)
 (hs : noStars (e :: es) = true := by rfl) : QE X (.Call (.Name x p) (e :: es) [] pos) (tCB r t) := ⟨q_callTy hc hg hm hv ha.out hn hdb hs⟩
variable {CX : CXT} {k : Nat} {f C : Addr} {fd : FuncData} {ps : List Str} {sp : Sp} {dvs : List V} {ds : List Value} {E : XK} {m : Str}
variable {name : Str} {rm : V → List V → Hp → VK → Prop}
theorem x_bm (pa : PlainAttrs T) (slot : Slot T name id) (hty : typeOf (.builtin id) = pure (.type "method_descriptor")) (hm : MtR X id rm) (ho : QE X o to) (ha : QA X (e :: es) t)
 (hbase : attributeBase o name X.env (eval o X.env) = eval o X.env := by rfl) (hfew : decide ((e :: es).length < 30) = true := by rfl)
 (hline : (apos.endLine == cpos.line) = true := by rfl) (hs : noStars (e :: es) = true := by rfl) : QE X (.Call (.Attribute o name apos) (e :: es) [] cpos) (tBM X.K T rm to t) := ⟨q_bm pa slot hty hm ho.out ha.out hbase hfew hline hs⟩
theorem x_tcmp {op : CmpOp} {r : R2} (ho : OpR X (compareOp op) r) (ha : QE X a ta) (hb : QE X b tb) (hm : behindInMarks op b = false := by first | exact nomark _ | rfl) : QT X (.Compare a [op] [b] pos) (mTest (tOp r ta tb)) := ⟨qtc ho ha.out hb.out hm⟩
theorem x_tchain {op op' : CmpOp} {r r' : R2} (ho : OpR X (compareOp op) r) (ho' : OpR X (compareOp op') r') (ha : QE X a ta) (hb : QE X b tb) (hc : QE X c tc) (hm : lastMarks [op, op'] [b, c] = false := by with_unfolding_all rfl) :
 QT X (.Compare a [op, op'] [b, c] pos) (mTest (mChain r r' ta tb tc)) := ⟨qtch ho ho' ha.out hb.out hc.out hm⟩
theorem x_test (h : QE X e te) (he : ∀ whole, isTrue e X.env whole = (do let v ← whole; standAt e.pos; holding [v] (truthy v)) := by intro _; rfl) : QT X e (mTru X.K te) := ⟨qtb h.out he⟩
theorem x_tnot (ha : QT X a tA) : QT X (.UnaryOp .Not a pos) (tNot tA) := ⟨pt_not ha.out⟩
theorem x_w (h : QW X e tA) : QT X e tA := ⟨h.out.pt⟩
theorem x_wand1 (ha : QT X a tA) : QW X (.BoolOp .And [a] pos) tA := ⟨qw_and1 ha.out⟩
theorem x_wor1 (ha : QT X a tA) : QW X (.BoolOp .Or [a] pos) tA := ⟨qw_or1 ha.out⟩
theorem x_wand (ha : QT X a tA) (hb : QW X (.BoolOp .And (b :: rest) pos) tB') : QW X (.BoolOp .And (a :: b :: rest) pos) (mAnd tA tB') := ⟨qw_and ha.out hb.out⟩
theorem x_wor (ha : QT X a tA) (hb : QW X (.BoolOp .Or (b :: rest) pos) tB') : QW X (.BoolOp .Or (a :: b :: rest) pos) (mOr tA tB') := ⟨qw_or ha.out hb.out⟩
variable {tg iter elt : Expr} {wi : TI} {ifs : List Expr} {scope : Scope} {ys : List Str} {is : List Nat} {px py spos : Pos}
theorem x_range1 (hm : X.mg "range" = none) (ha : QA X [a] t) (hg : Gl X "range" := by rfl) (hs : notStar a = true := by rfl) : QI X tg (.Call (.Name "range" p) [a] [] pos) (iRng1 t) := ⟨pi_range1 hg hm ha.out (starEach_plain hs [] X.env)⟩
theorem x_oneif (h : QT X c tA) : QIfs X [c] tA := ⟨h.out⟩
theorem x_comp {tcn : TT} (S : CompScope scope x ys) (hcap : Caps X scope ys is) (hi : QI X (.Name x px) iter wi)
 (hif : ∀ C s H fp, QIfs (cxComp X scope C (x :: ys) s H fp) ifs tcn) (he : ∀ C s H fp, QE (cxComp X scope C (x :: ys) s H fp) elt te) (hc : X.calm = true := by rfl)
 (hs : ∀ x, foldedSetIterable iter X.env x = pure x := by intro _; rfl) : QE X (.ListComp elt [⟨.Name x px, iter, ifs, 0⟩] scope pos) (tComp is wi tcn te) := ⟨pe_comp hc S hcap hi.out (fun C s H fp => (hif C s H fp).out) (fun C s H fp => (he C s H fp).out) hs⟩
variable {st : Stmt} {sts : List Stmt} {tS uS : TS} {i j : Nat}
theorem x_snil : QSs X [] tNext := ⟨pss_nil⟩
theorem x_sone (h : QS X st tS) : QSs X [st] tS := ⟨pss_one h.out⟩
theorem x_scons (h1 : QS X st tS) (h2 : QSs X sts uS) : QSs X (st :: sts) (tSeq tS uS) := ⟨pss_cons h1.out h2.out⟩
theorem x_ret (h : QE X e te) : QS X (.Return (some e) pos) (tRet te) := ⟨ps_ret h.out⟩
theorem x_ifS {l m : List Stmt} (hc : QT X c tA) (ha : QSs X l tS) (hb : QSs X m uS) : QS X (.If c l m pos) (mIfS tA tS uS) := ⟨qif hc.out ha.out hb.out⟩
theorem x_set (i : Nat) (hN : X.N.Nodup) (he : QE X e te) (hi : X.N[i]? = some x := by rfl) (hx : Loc X.env.scope x := by first | exact .inl rfl | exact .inr rfl)
 (hs : swapsWith e (some (.Name x p)) pos.line X.env = pure false := by rfl) (hf : X.fn x = true ∨ X.env.scope.names.lookup x = some .local := by first | exact .inl rfl | exact .inr rfl) : QS X (.Assign [.Name x p] e pos) (tAsg te (gName i)) := ⟨ps_set hN hi hx he.out hs hf⟩
theorem x_setComp (j : Nat) {tcn : TT} (hN : X.N.Nodup) (S : CompScope scope x ys) (hcap : Caps X scope ys is) (hi : QI X (.Name x px) iter wi)
  (hif : ∀ C s H fp, QIfs (cxComp X scope C (x :: ys) s H fp) ifs tcn) (he : ∀ C s H fp, QE (cxComp X scope C (x :: ys) s H fp) elt te) (hc : X.calm = true := by rfl)
  (hj : X.N[j]? = some y := by rfl) (hy : Loc X.env.scope y := by first | exact .inl rfl | exact .inr rfl)
  (hsw : swapsWith (.ListComp elt [⟨.Name x px, iter, ifs, 0⟩] scope pos) (some (.Name y py)) spos.line X.env = pure true := by rfl) (hf : X.fn y = true ∨ X.env.scope.names.lookup y = some .local := by first | exact .inl rfl | exact .inr rfl)
  (hs : ∀ x, foldedSetIterable iter X.env x = pure x := by intro _; rfl) : QS X (.Assign [.Name y py] (.ListComp elt [⟨.Name x px, iter, ifs, 0⟩] scope pos) spos) (tAsg (tComp is wi tcn te) (gName j)) :=
 ⟨ps_setComp hN hj hy hc S hcap hi.out (fun C s H fp => (hif C s H fp).out) (fun C s H fp => (he C s H fp).out) hsw hf hs⟩
theorem x_drop (h : QE X e te) (hs : swapsWith e none pos.line X.env = pure false := by rfl) : QS X (.Expr e pos) (tDrop te) := ⟨ps_expr h.out hs⟩
theorem x_for (i : Nat) (hN : X.N.Nodup) {body : List Stmt} (hi : QI X (.Name x px) iter wi) (hb : QSs X body tS) (hp : PassesOwn (model X.prog X.w) X.A X.env X.xe) (hc : X.calm = true := by rfl)
 (hj : X.N[i]? = some x := by rfl) (hx : Loc X.env.scope x := by first | exact .inl rfl | exact .inr rfl) (hf : X.fn x = true ∨ X.env.scope.names.lookup x = some .local := by first | exact .inl rfl | exact .inr rfl)
 (hs : ∀ x, foldedSetIterable iter X.env x = pure x := by intro _; rfl) : QS X (.For (.Name x px) iter body [] pos) (tFor wi (gName i) tS) := ⟨ps_for hp hc hi.out (pg_name hN hj hx hf) hb.out hs⟩
theorem x_never : QS X st tNever := ⟨ps_never⟩
end
end L2
namespace L2
open PySem PySem.Spec PyProof.Rows
structure Fly (P : Program) (w : World) (l : List Env) (H : Hp) (s : Shared) (cls fl : Value) (a : Addr) (H' : Hp) (s' : Shared) : Prop where
 os : s'.os = s.os
 bare : AllBare s'.gens
 un : Un (frs l) [] H H' s.heap s'.heap
 hok : HOk P w H' s'.heap
 new : s.heap.get? a = none
 free : H' a = none
 tr : ∃ oe vs a0 T oT ts, s'.heap.get? a = some oe ∧ oe.cls = cls ∧ oe.data = .fields vs ∧ vs[0]? = some a0 ∧ vs[1]? = some (.ref T) ∧ T ≠ a ∧ s'.heap.get? T = some oT ∧ oT.data = .fields ts ∧ ts[3]? = some fl ∧ s.heap.get? T = none ∧ H' T = none
def CX1 (P : Program) (w : World) : CXT := fun outer H s E e s' => ∃ a C H', e = .ref a ∧ Fly P w outer H s (.ref C) .none a H' s' ∧ E (.ref C) none H'
theorem obj_some {P : Program} {w : World} {H : Hp} {h : Heap} {a : Addr} {o : HO} (x : ObjOk P w H h a o) : ∃ u, h.get? a = some u := by
 cases o with
 | lst xs => obtain ⟨_, _, _, _, e⟩ := x; exact ⟨_, e⟩
 | tup xs => obtain ⟨_, _, _, p⟩ := x; obtain ⟨o, e, _⟩ := p; exact ⟨_, e⟩
 | dK kvs => obtain ⟨_, _, _, _, o, _, _, e, _⟩ := x; exact ⟨_, e⟩
 | dT kvs => obtain ⟨_, _, _, _, o, _, _, e, _⟩ := x; exact ⟨_, e⟩
 | set S n => obtain ⟨o, _, _, _, e, _⟩ := x; exact ⟨_, e⟩
 | ins C dx fs => obtain ⟨_, _, _, e, _⟩ := x; exact ⟨_, e⟩
 | own y => exact x
 | xd fs => obtain ⟨_, ⟨_, _, _, e, _⟩, _⟩ := x; exact ⟨_, e⟩
 | rng lo hi => obtain ⟨_, _, _, e⟩ := x; exact ⟨_, e⟩
 | frz ob u => obtain ⟨e, _⟩ := x; exact ⟨_, e⟩
 | tbl ps => exact ⟨_, (show h.get? a = some _ from x)⟩
 | met f y => exact ⟨_, (show h.get? a = some _ from x)⟩
 | ext φ => obtain ⟨_, e, _⟩ := x; exact e
section
variable {P : Program} {w : World} {l : List Env} {H H' : Hp} {s s' : Shared} {cls fl fl' : Value} {a : Addr} {base : Heap}
end
end L2
namespace L2
open PySem PySem.Spec PyProof.Rows
section
variable {X : Cx} {pins : List (Addr × Obj)} {σ : St} {H H' : Hp} {s s' : Shared} {cls fl : Value} {a : Addr}
end
def PassS (CX : CXT) (X : Cx) (E : St → XK) : Prop := ∀ (pins : List (Addr × Obj)) (σ : St) (H : Hp) (s : Shared) (e : Value) (s' : Shared), Inv X pins σ H s → CX X.stack H s (E σ) e s' → X.xe e s'
theorem passF {P : Program} {w : World} {X : Cx} : PassS (CX1 P w) X (fun _ => E0) := fun pins σ H s e s' I ⟨_, _, _, _, _, h⟩ => h.elim
section
variable {P : Program} {w : World} {K : PySem.W.Frag} {mg : Str → Option Value} {base : Heap} {N : List Str} {qual : Str} {scope : Scope} {f : Addr} {cd : Value} {A : Around} {outer : List Env} {s : Shared} {H : Hp} {E : XK}
end
def tCallX (sp : Sp) (E : St → XK) (t : TA) : TE := fun σ H Q => t σ H fun vs H1 => sp vs H1 Q (E σ)
section
variable {X : Cx} {CX : CXT} {k : Nat} {f : Addr} {fd : FuncData} {ps : List Str} {sp : Sp} {E : St → XK} {x : Str} {p pos : Pos} {e : Expr} {es : List Expr} {t : TA}
theorem run_fnX {pins : List (Addr × Obj)} {σ : St} {H : Hp} {s : Shared} {Q : VK} {us : List Value} {vs : List V} (F : FnOk X.prog X.w X.K X.mg X.base CX k f fd ps sp) (hr : Room k X.A) (hb : Binds X.K fd ps []) (hx : PassS CX X E)
    (I : Inv X pins σ H s) (r : Vals vs us) (h : sp vs H Q (E σ)) : wpAny (model X.prog X.w) X.A (call (.ref f) us) (EP X pins σ Q) X.xe s := by
  have hl : us.length = ps.length := by rw [← r.length]; exact F.len _ _ _ _ h
  have hb' := hb s us I.kIn (by rw [List.append_nil]; exact hl)
  rw [List.append_nil] at hb'
  refine wpAny_call (codeAny_mono (F.run X.A X.stack s H ⟨us, []⟩ us vs Q (E σ) hr I.env0 hb' r h) fun r s' hq => ?_)
  cases r with
  | error e => exact hx pins σ H s e s' I hq
  | ok fl =>
    cases fl with
    | ret u => exact I.after hq
    | next => exact False.elim hq
    | brk => exact False.elim hq
    | cont => exact False.elim hq
theorem x_callX (F : FnOk X.prog X.w X.K X.mg X.base CX k f fd ps sp) (hr : Room k X.A) (hm : X.mg x = some (.ref f)) (hk : PySem.W.keepIn X.K (.ref f) = true) (hb : Binds X.K fd ps []) (hx : PassS CX X E)
  (ha : QA X (e :: es) t) (hg : Gl X x := by rfl) (hdb : (x == ("__debug__" : Str)) = false := by decide) (hs : noStars (e :: es) = true := by rfl) : QE X (.Call (.Name x p) (e :: es) [] pos) (tCallX sp E t) := by
 refine ⟨fun pins s σ H Q I h => ?_⟩
 have h' : (notStar e && noStars es) = true := hs
 refine wpAny_Call_Name_kw (ld_glob I hg hm ?_ hdb)
 refine PySem.W.callWith_K (h₀ := X.base) I.ok.mod.kin hk (thn (ha.out pos pins s σ H _ I h) fun us s1 ⟨vs, H1, I1, r, q⟩ => ⟨I1.kIn, ?_⟩) (starEach_plain (Bool.and_eq_true_iff.mp h').1 es X.env) (noStars_any (Bool.and_eq_true_iff.mp h').2)
 exact run_fnX F hr hb hx I1 r q
end
end L2
namespace L2
open PySem PySem.Spec PyProof.Rows
section
variable {X : Cx} {pins : List (Addr × Obj)} {σ : St} {H H1 H' : Hp} {s s0 : Shared} {a : Addr} {o : HO}
end
section
variable {X : Cx} {pins : List (Addr × Obj)} {σ : St} {H : Hp} {s : Shared} {a : Addr}
end
abbrev TH := Ends → St → Addr → Hp → Prop
section
variable {X : Cx}
variable {x n : Str} {np hp : Pos} {Dc : Addr} {b0 : Stmt} {suite : List Stmt} {rest : List ExceptHandler} {ts : TS} {r : TH} {i : Nat}
end
end L2
namespace L2
open PySem PySem.Spec PyProof.Rows
section
variable {X : Cx} {pins pn : List (Addr × Obj)} {σ : St} {H : Hp} {s : Shared} {E' : Value → Shared → Prop}
end
section
variable {X : Cx}
end
end L2
namespace L2
open PySem PySem.Spec PyProof.Rows
section
variable {K : PySem.W.Frag} {prog : Program} {w : World} {A : Around} {E : Value → Shared → Prop} {h : Heap} {g : Array GenState} {d : Drawn} {t : Nat} {os : OsState} {a C : Addr} {o : Obj}
end
section
variable {X : Cx}
end
end L2
namespace HT
open PySem PyProof.Rows
section
variable {prog : Program} {w : World} {A : Around} {E : Value → Shared → Prop} {s : Shared}
theorem getItem_tuple_whole {t sl : Addr} {items : Array Value} {vl vu : Value} {lo hi : Option Int} {Q : Value → Shared → Prop} (ht : IsTup s.heap t items) (hs : s.heap.IsSliceOf sl vl vu .none) (pl : IsPart vl lo) (pu : IsPart vu hi)
  (hw : sIx items.size 0 lo = 0 ∧ sIx items.size items.size hi = items.size) (h : Q (.ref t) s) : wpAny (model prog w) A (getItem (.ref t) (.ref sl)) Q E s := by
 obtain ⟨os, hos, hcs, hds⟩ := id hs
 have hTs : s.TypeIs (.ref sl) "slice" := ⟨os, hos, hcs⟩
 unfold getItem
 try with_reducible refine wpAny_holding ?_
 first | refine wpAny_bind (wpAny_pure ?_) | skip
 refine wpAny_bind (wpAny_sequenceKey ht.typeIs (by decide) ?_)
 refine wpAny_bind (wpAny_callSpecial?_slot (name := Str.ofString "__getitem__") ht.typeIs PyProof.Rows.slot_tuple_getitem
  (wpAny_call_entry PyProof.Rows.slot_tuple_getitem ht.typeIs entry_tuple_getitem ?_ (args_tuple_getitem _ _)))
 show wpAny _ _ (Builtin.Tuple.tupleItemsOf (.ref t) >>= _) _ _ s
 refine wpAny_bind (tupleItemsOf_ ht ?_)
 refine wpAny_bind (wpAny_typeOf hTs ?_)
 rw [if_pos (by decide)]
 refine wpAny_bind (sliceApplied_gen hs pl pu ?_)
 have hyes : (((sIx items.size 0 lo : Nat) : Int) == 0 && (1 : Int) == 1 && (sIx items.size items.size hi - sIx items.size 0 lo) == items.size) = true := by
  rw [hw.1, hw.2]; simp
 show wpAny _ _ (if (((sIx items.size 0 lo : Nat) : Int) == 0 && (1 : Int) == 1 && (sIx items.size items.size hi - sIx items.size 0 lo) == items.size) = true then _ else _) _ _ s
 rw [if_pos hyes]
 have hte : s.TypeIs (.ref t) "tuple" := ht.typeIs
 unfold Builtin.Tuple.tupleIsExact
 repeat (first | exact ⟨_, rfl, wpAny_pure h⟩ | (with_reducible refine wpAny_typeOf hte ?_) | wp_step)
end
end HT
namespace HT
open PySem PyProof.Rows
section
variable {prog : Program} {w : World} {A : Around} {E : Value → Shared → Prop} {s : Shared}
theorem cat_tup0 {t b : Addr} {ws : List Value} {Q : Value → Shared → Prop} (ht : IsTup s.heap t #[]) (hb : IsTup s.heap b ws.toArray) (h1 : Q (.ref b) s) : wpAny (model prog w) A (binaryOp .Add (.ref t) (.ref b)) Q E s := by
 obtain ⟨⟨cls, dd, data, sl⟩, ho, hc, n, hd⟩ := id ht
 obtain ⟨⟨cls2, dd2, data2, sl2⟩, ho2, hc2, n2, hd2⟩ := id hb
 simp only at hc hd hc2 hd2
 subst hc hd hc2 hd2
 exact concat_meets ⟨_, ho, rfl⟩ ⟨_, ho2, rfl⟩ noFill_tuple_add seq_tuple_add PySem.F.slot_tuple_add PySem.F.entry_tuple_add (PySem.F.args_tuple_add_2 _ _)
  (tuple_addW0 t b #[] ws.toArray n n2 dd dd2 sl sl2 (by simp)) ⟨ho, ho2, h1⟩
end
end HT
namespace L2
open PySem PySem.Spec PyProof.Rows
theorem Same.rfl' {H : Hp} : Same H H := fun _ _ e => e
theorem cutV_whole {xs : List V} {lo hi : Option Int} (h : HT.sIx xs.length 0 lo = 0 ∧ HT.sIx xs.length xs.length hi = xs.length) : cutV xs lo hi = xs := by
 unfold cutV
 rw [h.1, h.2, List.drop_zero, Nat.sub_zero, List.take_length]
section
variable {X : Cx}
def rSlTG : V → Option Int → Option Int → Hp → VK → Prop := fun x lo hi H Q => ∃ a xs, x = .ref a ∧ H a = some (.tup xs) ∧ ∀ p H', Same H H' → H' p = some (.tup (cutV xs lo hi)) → Q (.ref p) H'
theorem sl_tupG : SlR X rSlTG := by
 intro pins s σ H x v vl vu lo hi sl Q I rx hs pl pu h
 obtain ⟨a, xs, rfl, hx, q⟩ := h
 have hq : SqT X.K H a xs := .inl (.inl hx)
 by_cases hw : HT.sIx xs.length 0 lo = 0 ∧ HT.sIx xs.length xs.length hi = xs.length
 · cases rx
   obtain ⟨its, r, ht, hz⟩ := I.tuple hq
   have hlen : its.toArray.size = xs.length := by rw [List.size_toArray]; exact r.length.symm
   refine ⟨"tuple", _, PyProof.Rows.slot_tuple_getitem.lookup, ht.typeIs, ?_⟩
   refine HT.getItem_tuple_whole ht hs pl pu (by rw [hlen]; exact hw) ?_
   exact ⟨.ref a, H, I, rfl, q a H Same.rfl' (by rw [cutV_whole hw]; exact hx)⟩
 · exact sl_tup pins s σ H _ v vl vu lo hi sl Q I rx hs pl pu ⟨a, xs, rfl, hq, hw, fun p hp => q p _ (Same.upd hp) (upd_same ..)⟩
def rCatG : R2 := fun x y H Q => ∃ a b xs ys, x = .ref a ∧ y = .ref b ∧ H a = some (.tup xs) ∧ H b = some (.tup ys) ∧ xs.length + ys.length ≤ sizeLine ∧ ∀ p H', Same H H' → H' p = some (.tup (xs ++ ys)) → Q (.ref p) H'
theorem op_catG : OpR X (binaryOp .Add) rCatG := by
 intro pins s σ H x y v u Q I rx ry h
 obtain ⟨a, b, xs, ys, rfl, rfl, ha, hb, hz, q⟩ := h
 by_cases hx : xs = []
 · subst hx
   cases rx
   cases ry
   obtain ⟨its, r1, p1, _⟩ := I.tuple (.inl (.inl ha))
   obtain ⟨its2, r2, p2, _⟩ := I.tuple (.inl (.inl hb))
   cases r1
   exact HT.cat_tup0 p1 p2 ⟨.ref b, H, I, rfl, q b H Same.rfl' hb⟩
 · refine op_catT pins s σ H _ _ v u Q I rx ry ⟨a, b, xs, ys, rfl, rfl, .inl (.inl ha), .inl (.inl hb), hx, hz, fun e => ?_, fun _ p hp => q p _ (Same.upd hp) (upd_same ..)⟩
   subst e
   exact q a H Same.rfl' (by rw [List.append_nil]; exact ha)
def mAddG (K : PySem.W.Frag) : R2 := fun x y H Q => match x, y with
 | .int i, .int j => Q (.int (i + j)) H
 | .str i, .str j => i.length + j.length ≤ sizeLine ∧ Q (.str (i ++ j)) H
 | .ref a, .ref b => rCat (.ref a) (.ref b) H Q ∨ rCatG (.ref a) (.ref b) H Q
 | _, _ => False
theorem oAddG : OpR X (binaryOp .Add) (mAddG X.K) := (op_add.or (op_add_str.or (op_cat.or op_catG))).imp fun x y H Q q => by
 unfold mAddG at q
 split at q
 · exact .inl ⟨_, _, rfl, rfl, q⟩
 · exact .inr (.inl ⟨_, _, rfl, rfl, q.1, q.2⟩)
 · exact .inr (.inr q)
 · exact q.elim
def rSlG (K : PySem.W.Frag) : V → Option Int → Option Int → Hp → VK → Prop := fun x lo hi H Q => rSlL K x lo hi H Q ∨ rSlTG x lo hi H Q
theorem sl_any : SlR X (rSlG X.K) := sl_list.or sl_tupG
end
end L2
namespace L2
open PySem PySem.Spec PyProof.Rows
theorem Fun.okN {P : Program} {w : World} {K : PySem.W.Frag} {mg : Str → Option Value} {base : Heap} {CX : CXT} {x qual : Str} {st : Stmt} {f : Addr} {fd : FuncData} {N ps : List Str} {k : Nat} {sp : Sp} (F : Fun K x qual st f fd) (S : FnScope N ps (defScope st)) (len : ∀ vs H Q E, sp vs H Q E → vs.length = ps.length)
  (hbody : ∀ (cdv : Value) (A : Around) (outer : List Env) (s : Shared) (H : Hp) (vs : List V) (Q : VK) (E : XK), Room k (A.deeper (envOfC qual (defScope st) s.heap.objs.size f cdv)) → sp vs H Q E →
   ∃ t, PSs (cxOf CX P w K mg base N qual (defScope st) f cdv A outer s H E).nox (defBody st) t ∧ t { nx := fun _ H' => Q .non H', rt := Q } (start N vs) H) : FnOk P w K mg base CX (k + 1) f fd ps sp := by
 obtain ⟨oc, od, kV, doc, pm, an, cdv, ct, osl, rfl, lk, hcd⟩ := F.ex
 refine fn_of lk hcd S len fun A outer s H vs Q E hr hsp => ?_
 obtain ⟨t, h, q⟩ := hbody cdv A outer s H vs Q E hr hsp
 exact ⟨t, h.nox, q⟩
end L2
namespace L2
open PySem PySem.Spec PyProof.Rows
section
variable {X : Cx}
def rSlS : V → Option Int → Option Int → Hp → VK → Prop := fun x lo hi H Q => ∃ z, x = .str z ∧ z.length ≤ sizeLine ∧ Q (.str (Txt.slice z lo hi)) H
theorem sl_str : SlR X rSlS := by
  intro pins s σ H x v vl vu lo hi sl Q I rx hs pl pu h
  obtain ⟨z, rfl, hz, q⟩ := h
  obtain ⟨t, rfl⟩ := (show ∃ t, v = Value.str z t from rx)
  refine ⟨"str", _, F.slot_str_getitem.lookup, typeIs_str _ _ _, ?_⟩
  have fin : ∀ (l u : Option (Int × Tok)), l.map (·.1) = lo → u.map (·.1) = hi → s.heap.IsSlice sl l u none → wpAny (model X.prog X.w) X.A (getItem (.str z t) (.ref sl)) (EP X pins σ Q) X.xe s := fun l u e1 e2 hs' => by
    subst e1 e2
    refine wpAny_getItem_str_slice (l := l) (u := u) (st := none) hs' rfl (post_val_or_str ⟨Nat.le_trans (Txt.slice_le z _ _) hz, fun t' k => ⟨.str _, H, I.tok k, ⟨_, rfl⟩, q⟩⟩)
  obtain ⟨os, hos, hcs, hds⟩ := hs
  cases pl with
  | none => cases pu with
    | none => exact fin none none rfl rfl ⟨os, hos, hcs, hds⟩
    | int j tj => exact fin none (some (j, tj)) rfl rfl ⟨os, hos, hcs, hds⟩
  | int i ti => cases pu with
    | none => exact fin (some (i, ti)) none rfl rfl ⟨os, hos, hcs, hds⟩
    | int j tj => exact fin (some (i, ti)) (some (j, tj)) rfl rfl ⟨os, hos, hcs, hds⟩
def rSlA (K : PySem.W.Frag) : V → Option Int → Option Int → Hp → VK → Prop := fun x lo hi H Q => rSlG K x lo hi H Q ∨ rSlS x lo hi H Q
theorem sl_all : SlR X (rSlA X.K) := sl_any.or sl_str
def plainP : V → Bool
 | .int _ => true
 | .str _ => true
 | _ => false
theorem eqAt_plain {A : Around} {s : Shared} {x y : V} {u v : Value} (rx : RelV x u) (ry : RelV y v) (hx : plainP x = true) (hy : plainP y = true) : PySem.SeqAt.EqAt A s u v (decide (x = y)) := by
 cases x <;> first | cases hx | skip
 all_goals (cases y <;> first | cases hy | skip)
 · obtain ⟨t, rfl⟩ := rx; obtain ⟨t', rfl⟩ := ry
   have e := PySem.SeqAt.EqAt.int_int (A := A) (s := s) ‹Int› t ‹Int› t'
   rename_i i j
   have e2 : decide (V.int i = V.int j) = (i == j) := by rw [decV (f := V.int) fun _ _ e => V.int.inj e]; rfl
   rw [e2]; exact PySem.SeqAt.EqAt.int_int i t j t'
 · obtain ⟨t, rfl⟩ := rx; obtain ⟨t', rfl⟩ := ry
   exact PySem.SeqAt.EqAt.int_str _ _ _ _
 · obtain ⟨t, rfl⟩ := rx; obtain ⟨t', rfl⟩ := ry
   exact PySem.SeqAt.EqAt.str_int _ _ _ _
 · obtain ⟨t, rfl⟩ := rx; obtain ⟨t', rfl⟩ := ry
   rename_i i j
   have e2 : decide (V.str i = V.str j) = (i == j) := by
    rw [decV (f := V.str) fun _ _ e => V.str.inj e]
    by_cases h : i = j
    · rw [h]; simp
    · rw [decide_eq_false h]; exact (beq_eq_false_iff_ne.mpr h).symm
   rw [e2]; exact PySem.SeqAt.EqAt.str_str i t j t'
theorem eq_by_get {xs ys : List V} : decide (xs = ys) = ((List.range (min xs.length ys.length)).all (fun j => decide (xs[j]? = ys[j]?)) && xs.length == ys.length) := by
 by_cases h : xs = ys
 · subst h; simp
 · rw [decide_eq_false h]
   by_cases hl : xs.length = ys.length
   · rw [hl, Nat.min_self, beq_self_eq_true, Bool.and_true]
     symm
     rw [List.all_eq_false]
     apply Classical.byContradiction
     intro hn
     apply h
     apply List.ext_getElem? fun i => ?_
     by_cases hi : i < ys.length
     · apply Classical.byContradiction
       intro hne
       exact hn ⟨i, List.mem_range.mpr hi, by simpa using hne⟩
     · rw [List.getElem?_eq_none (by omega), List.getElem?_eq_none (by omega)]
   · have : (xs.length == ys.length) = false := by simpa using hl
     rw [this, Bool.and_false]
def rEqT (K : PySem.W.Frag) : R2 := fun x y H Q => ∃ a b xs ys, x = .ref a ∧ y = .ref b ∧ SqT K H a xs ∧ SqT K H b ys ∧ xs.all plainP = true ∧ ys.all plainP = true ∧ Q (.bl (decide (xs = ys))) H
theorem op_eqT (hu : X.A.units < cLine) : OpR X (compareOp .Eq) (rEqT X.K) := by
 intro pins s σ H x y v u Q I rx ry h
 obtain ⟨a, b, xs, ys, rfl, rfl, ha, hb, px, py, q⟩ := h
 cases rx
 cases ry
 obtain ⟨its, r1, p1, _⟩ := I.tuple ha
 obtain ⟨its2, r2, p2, _⟩ := I.tuple hb
 have l1 := r1.length
 have l2 := r2.length
 refine PySem.SeqAt.eq_tupleAt (e := fun j => decide (xs[j]? = ys[j]?)) p1 p2 hu (fun j h1 h2 => ?_) ?_
 · have h1 : j < its.length := by simpa using h1
   have h2 : j < its2.length := by simpa using h2
   have e1 : xs[j]? = some xs[j] := List.getElem?_eq_getElem (by omega)
   have e2 : ys[j]? = some ys[j] := List.getElem?_eq_getElem (by omega)
   obtain ⟨u1, g1, ru1⟩ := r1.get e1
   obtain ⟨u2, g2, ru2⟩ := r2.get e2
   have g1' : its.toArray[j] = u1 := by
    rw [List.getElem?_eq_getElem h1] at g1; simpa using Option.some.inj g1
   have g2' : its2.toArray[j] = u2 := by
    rw [List.getElem?_eq_getElem h2] at g2; simpa using Option.some.inj g2
   rw [g1', g2', e1, e2]
   have : decide (some xs[j] = some ys[j]) = decide (xs[j] = ys[j]) := by simp
   rw [this]
   exact eqAt_plain ru1 ru2 (List.all_eq_true.mp px _ (List.getElem_mem _)) (List.all_eq_true.mp py _ (List.getElem_mem _))
 · have e := eq_by_get (xs := xs) (ys := ys)
   rw [l1, l2] at e
   simp only [List.size_toArray]
   rw [← e]
   exact ⟨.bl _, H, I, rfl, q⟩
def mInS : R2 := fun x y H Q => match x, y with
 | .str i, .str j => Q (.bl (!(Builtin.Str.occurrences j i 0 j.length 1).isEmpty)) H
 | _, _ => False
theorem oInS : OpR X (compareOp .In) mInS := op_in_str.imp fun x y H Q q => by
 unfold mInS at q
 split at q
 · exact ⟨_, _, rfl, rfl, q⟩
 · exact q.elim
end
end L2
namespace HT
open PySem PyProof.Rows
section
variable {prog : Program} {w : World} {A : Around} {E : Value → Shared → Prop} {s : Shared}
end
end HT
namespace HT
open PySem PyProof.Rows
section
variable {prog : Program} {w : World} {A : Around} {E : Value → Shared → Prop} {s : Shared}
end
end HT
namespace L2
open PySem PySem.Spec PyProof.Rows
section
variable {X : Cx} {pins : List (Addr × Obj)} {σ : St} {H : Hp} {s : Shared} {h' : Heap}
end
section
variable {X : Cx} {pins : List (Addr × Obj)} {σ : St} {H H1 : Hp} {s s0 : Shared} {a : Addr} {o : HO}
end
end L2
namespace L2
open PySem PySem.Spec PyProof.Rows
section
variable {X : Cx} {a b : Expr} {t : TA} {p pos ep : Pos} {elts : List Expr} {ek : Nat}
end
end L2
namespace L2
open PySem PySem.Spec PyProof.Rows
section
variable {X : Cx} {a b : Expr} {t : TA} {p pos ep px py : Pos} {elts : List Expr} {ek : Nat} {x y : Str} {iter : Expr} {wi : TI} {tS : TS}
end
end L2
namespace L2
open PySem PySem.Spec PyProof.Rows
section
variable {X : Cx} {CX : CXT} {k : Nat} {f C : Addr} {fd : FuncData} {ps : List Str} {sp : Sp} {E : St → XK} {x m fl : Str} {p pos apos pos' : Pos} {e o value : Expr} {es : List Expr} {ta tv to : TE} {t : TA}
end
end L2
namespace L2
open PySem PySem.Spec PyProof.Rows
mutual
inductive DatV (K : PySem.W.Frag) (H : Hp) : V → PyData → Prop
 | non : DatV K H .non .none
 | bl (b) : DatV K H (.bl b) (.bool b)
 | int (i) : DatV K H (.int i) (.int i)
 | str (z) : DatV K H (.str z) (.str z)
 | lst {a xs ds} : SqL K H a xs → DatVs K H xs ds → DatV K H (.ref a) (.list ds)
 | tup {a xs ds} : SqT K H a xs → DatVs K H xs ds → DatV K H (.ref a) (.tuple ds)
inductive DatVs (K : PySem.W.Frag) (H : Hp) : List V → List PyData → Prop
 | nil : DatVs K H [] []
 | cons {x xs d ds} : DatV K H x d → DatVs K H xs ds → DatVs K H (x :: xs) (d :: ds)
end
section
variable {X : Cx}
mutual
theorem datV_reads {pins : List (Addr × Obj)} {σ : St} {H : Hp} {s : Shared} (I : Inv X pins σ H s) : ∀ {x : V} {d : PyData}, DatV X.K H x d → ∀ {v : Value}, RelV x v → ∃ as, Reads s.heap v d as
  | _, _, .non, _, r => by cases r; exact ⟨_, .none⟩
  | _, _, .bl b, _, r => by cases r; exact ⟨_, .bool b⟩
  | _, _, .int i, _, r => by obtain ⟨t, rfl⟩ := r; exact ⟨_, .int i t⟩
  | _, _, .str z, _, r => by obtain ⟨t, rfl⟩ := r; exact ⟨_, .str z t⟩
  | _, _, .lst h hs, _, r => by
    cases r
    obtain ⟨its, r1, ⟨o, n, h1, h2, _, h3⟩, _⟩ := I.list h
    obtain ⟨as, ra⟩ := datVs_reads I hs r1
    exact ⟨_, .list h1 h2 h3 (by simpa using ra)⟩
  | _, _, .tup h hs, _, r => by
    cases r
    obtain ⟨its, r1, ⟨o, h1, h2, n, h3⟩, _⟩ := I.tuple h
    obtain ⟨as, ra⟩ := datVs_reads I hs r1
    exact ⟨_, .tuple h1 h2 h3 (by simpa using ra)⟩
theorem datVs_reads {pins : List (Addr × Obj)} {σ : St} {H : Hp} {s : Shared} (I : Inv X pins σ H s) : ∀ {xs : List V} {ds : List PyData}, DatVs X.K H xs ds → ∀ {vs : List Value}, Vals xs vs → ∃ as, ReadsAll s.heap vs ds as
  | _, _, .nil, _, r => by cases r; exact ⟨_, .nil⟩
  | _, _, .cons h hs, _, r => by
    cases r with
    | cons r1 r2 =>
      obtain ⟨as, a⟩ := datV_reads I h r1
      obtain ⟨bs, b⟩ := datVs_reads I hs r2
      exact ⟨_, .cons a b⟩
end
def rEqD (K : PySem.W.Frag) : R2 := fun x y H Q => ∃ d e, DatV K H x d ∧ DatV K H y e ∧ d.canLay0 = true ∧ e.canLay0 = true ∧ d.depth ≤ 150 ∧ Q (.bl (d.eqv e)) H
def rNeD (K : PySem.W.Frag) : R2 := fun x y H Q => ∃ d e, DatV K H x d ∧ DatV K H y e ∧ d.canLay0 = true ∧ e.canLay0 = true ∧ d.depth ≤ 150 ∧ Q (.bl (!d.eqv e)) H
theorem op_eqD (hu : X.A.units + 150 < cLine) : OpR X (compareOp .Eq) (rEqD X.K) := by
 intro pins s σ H x y v u Q I rx ry h
 obtain ⟨d, e, hd, he, cd, ce, dp, q⟩ := h
 obtain ⟨as, ra⟩ := datV_reads I hd rx
 obtain ⟨bs, rb⟩ := datV_reads I he ry
 exact PySem.SeqAt.compareEq_reads ra rb cd ce (by have := Nat.min_le_left d.depth e.depth; omega) ⟨.bl _, H, I, rfl, q⟩
theorem op_neD (hu : X.A.units + 150 < cLine) : OpR X (compareOp .NotEq) (rNeD X.K) := by
 intro pins s σ H x y v u Q I rx ry h
 obtain ⟨d, e, hd, he, cd, ce, dp, q⟩ := h
 obtain ⟨as, ra⟩ := datV_reads I hd rx
 obtain ⟨bs, rb⟩ := datV_reads I he ry
 exact PySem.SeqAt.compareNe_reads ra rb cd ce (by have := Nat.min_le_left d.depth e.depth; omega) ⟨.bl _, H, I, rfl, q⟩
theorem Room.units150 {k : Nat} {A : Around} (r : Room k A) : A.units + 150 < cLine := by have := r.un; omega
def mNeB (K : PySem.W.Frag) : R2 := fun x y H Q => match x, y with
 | .ref a, y => rNeD K (.ref a) y H Q
 | x, .ref b => rNeD K x (.ref b) H Q
 | x, y => mNe x y H Q
theorem oNeB (hu : X.A.units + 150 < cLine) : OpR X (compareOp .NotEq) (mNeB X.K) := ((op_neD hu).or oNe).imp fun x y H Q q => by
 unfold mNeB at q
 split at q
 · exact .inl q
 · exact .inl q
 · exact .inr q
def kMin : List V → Hp → VK → Prop := fun xs H Q => match xs with | [.int i, .int j] => Q (.int (if j < i then j else i)) H | _ => False
theorem cMin (hc : X.calm = true) : CallR X (.builtin "min") kMin := fun pins s σ H xs us Q I r q => by
 unfold kMin at q
 split at q
 · exact call_min2 hc pins s σ H _ us Q I r ⟨_, _, rfl, q⟩
 · exact q.elim
variable {o : Expr} {to : TE} {name : Str} {apos cpos : Pos} {T id : String} {rm : V → List V → Hp → VK → Prop}
end
def dInts (ns : List Int) : List PyData := ns.map PyData.int
theorem datVs_ints {K : PySem.W.Frag} {H : Hp} : ∀ ns : List Int, DatVs K H (ns.map V.int) (dInts ns)
 | [] => .nil
 | i :: r => .cons (.int i) (datVs_ints r)
theorem canLay_ints : ∀ ns : List Int, (PyData.list (dInts ns)).canLay0 = true
 | [] => rfl
 | i :: r => canLay_ints r
theorem depthAll_ints : ∀ ns : List Int, PyData.depthAll (dInts ns) = 0
 | [] => rfl
 | i :: r => by show max 0 (PyData.depthAll (dInts r)) = 0; rw [depthAll_ints r]; rfl
theorem depth_ints (ns : List Int) : (PyData.list (dInts ns)).depth ≤ 150 := by show PyData.depthAll (dInts ns) + 1 ≤ 150; rw [depthAll_ints]; decide
end L2
namespace L2
open PySem PySem.Spec PyProof.Rows
theorem line_ge {n : Nat} (h : n ≤ 1000000) : n ≤ sizeLine := by rw [sizeLine_eq]; omega
theorem pow2z (k : Nat) : ((2 ^ k : Nat) : Int) = (2 : Int) ^ k := by simp
theorem pow2_pos (k : Nat) : (0 : Int) < 2 ^ k := by have := Nat.two_pow_pos k; rw [← pow2z]; omega
theorem cutV_ints (ns : List Int) (lo hi : Option Int) : ∃ zs : List Int, cutV (ns.map V.int) lo hi = zs.map V.int ∧ zs.length ≤ ns.length := by
 refine ⟨(ns.drop (HT.sIx ns.length 0 lo)).take (HT.sIx ns.length ns.length hi - HT.sIx ns.length 0 lo), ?_, ?_⟩
 · unfold cutV
   rw [List.length_map, List.map_take, List.map_drop]
 · rw [List.length_take, List.length_drop]; omega
theorem atI_ex {α : Type} {xs : List α} {i : Int} (h0 : 0 ≤ i) (h1 : i < xs.length) : ∃ c, atI xs i = some c := by
 unfold atI ixN
 rw [if_pos h0, if_pos h1]
 have : i.toNat < xs.length := by omega
 exact ⟨xs[i.toNat], by show xs[i.toNat]? = _; rw [List.getElem?_eq_getElem this]⟩
theorem natXor_add (x y : Nat) : x ||| y = (x &&& y) + (x ^^^ y) := by
  have h : ∀ n, ∀ x y : Nat, x < 2 ^ n → y < 2 ^ n → x ||| y = (x &&& y) + (x ^^^ y) := by
    intro n
    induction n with
    | zero => intro x y hx hy; have : x = 0 := by simpa using hx
              have : y = 0 := by simpa using hy
              subst_vars; rfl
    | succ n ih =>
      intro x y hx hy
      have i := ih (x / 2) (y / 2) (by omega) (by omega)
      rw [← Nat.div_add_mod (x ||| y) 2, ← Nat.div_add_mod (x &&& y) 2, ← Nat.div_add_mod (x ^^^ y) 2]
      rw [Nat.or_div_two, Nat.and_div_two, Nat.xor_div_two, i]
      have hm : (x ||| y) % 2 = (x &&& y) % 2 + (x ^^^ y) % 2 := by
        have a := @Nat.or_mod_two_pow x y 1
        have b := @Nat.and_mod_two_pow x y 1
        have c := @Nat.xor_mod_two_pow x y 1
        rw [Nat.pow_one] at a b c
        rw [a, b, c]
        rcases Nat.mod_two_eq_zero_or_one x with h | h <;> rcases Nat.mod_two_eq_zero_or_one y with h' | h' <;> rw [h, h'] <;> rfl
      omega
  have h2 : max x y < 2 ^ (max x y) := Nat.lt_two_pow_self
  exact h (max x y) x y (by omega) (by omega)
theorem bitXor_nat (x y : Nat) : Builtin.bitXor x y = ((x ^^^ y : Nat) : Int) := by
 unfold Builtin.bitXor Builtin.bitOr
 have e1 : Builtin.bitAnd x y = ((x &&& y : Nat) : Int) := by
  unfold Builtin.bitAnd
  rw [decide_eq_true (by omega : (0:Int) ≤ x), decide_eq_true (by omega : (0:Int) ≤ y)]; rfl
 have n (z : Nat) : Builtin.bitNot z < 0 := by unfold Builtin.bitNot; omega
 have nn (z : Nat) : (Builtin.bitNot (Builtin.bitNot z)).toNat = z := by unfold Builtin.bitNot; omega
 have e2 : Builtin.bitAnd (Builtin.bitNot x) (Builtin.bitNot y) = Builtin.bitNot ((x ||| y : Nat) : Int) := by
  unfold Builtin.bitAnd
  rw [decide_eq_false (by have := n x; omega : ¬ 0 ≤ Builtin.bitNot x), decide_eq_false (by have := n y; omega : ¬ 0 ≤ Builtin.bitNot y)]
  show Builtin.bitNot (((Builtin.bitNot (Builtin.bitNot x)).toNat ||| (Builtin.bitNot (Builtin.bitNot y)).toNat : Nat) : Int) = _
  rw [nn, nn]
 rw [e1, e2, natXor_add]
 unfold Builtin.bitNot
 omega
end L2
namespace L2
open PySem PySem.Spec PyProof.Rows
section
variable {X : Cx}
theorem Room.units1 {k : Nat} {A : Around} (r : Room k A) : A.units + 1 < cLine := by have := r.un; omega
def rIxD : R2 := fun x y H Q => ∃ a v, x = .ref a ∧ DGet H a y (some v) ∧ Q v H
theorem ix_dict (hu : X.A.units + 1 < cLine) : IxR X rIxD := by
 intro value slice pins s σ H x y v u Q I rx ry h hs
 obtain ⟨a, w0, rfl, g, q⟩ := h
 obtain rfl : v = Value.ref a := rx
 have hT := dict_typeIs I g
 have h2 : wpAny (model X.prog X.w) X.A (getItem (.ref a) u) (EP X pins σ Q) X.xe s := d_getItem hu I g ry fun w' s3 I3 rw' => ⟨w0, H, I3, rw', q⟩
 unfold subscriptTail
 refine wpAny_bind ?_
 rw [getitemInPython_of_ne hT.not_modules]
 refine wpAny_bind (wpAny_specialOf hT PySem.F.slot_dict_getitem.lookup ?_)
 have fin : wpAny (model X.prog X.w) X.A (subscripted slice false (.ref a) u) (fun r s₃ => wpAny (model X.prog X.w) X.A (letTemporaryGo value (.ref a) r >>= fun _ => pure r) (EP X pins σ Q) X.xe s₃) X.xe s := by
  rw [hs]
  exact wpAny_operating (wpAny_mono h2 (fun r s₃ h₃ => wpAny_bind (wpAny_letTemporaryGo (wpAny_pure h₃))) fun _ _ x => x)
 first
  | exact wpAny_pure (wpAny_bind fin)
  | exact wpAny_bind (wpAny_pure (wpAny_bind fin))
  | exact wpAny_bind fin
def rIxA (K : PySem.W.Frag) : R2 := fun x y H Q => rIx K x y H Q ∨ rIxD x y H Q
theorem ix_any (hu : X.A.units + 1 < cLine) : IxR X (rIxA X.K) := ix_seq.or (ix_dict hu)
variable {o e : Expr} {to te : TE} {p pos : Pos}
def rInD : R2 := fun y x H Q => ∃ a o, x = .ref a ∧ DGet H a y o ∧ Q (.bl o.isSome) H
theorem op_inD (hu : X.A.units + 1 < cLine) : OpR X (compareOp .In) rInD := by
 intro pins s σ H x y v u Q I rx ry h
 obtain ⟨a, ov, rfl, g, q⟩ := h
 obtain rfl : u = Value.ref a := ry
 exact d_in hu I g rx fun s3 I3 => ⟨.bl ov.isSome, H, I3, rfl, q⟩
def rInL (K : PySem.W.Frag) : R2 := fun y x H Q => ∃ d ds, DatV K H y d ∧ (DatV K H x (.list ds) ∨ DatV K H x (.tuple ds)) ∧ PyData.canLayAll0 ds = true ∧ d.canLay0 = true ∧ d.depth ≤ 140 ∧ Q (.bl (ds.any fun e => e.eqv d)) H
theorem op_inL (hu : X.A.units + 150 < cLine) : OpR X (compareOp .In) (rInL X.K) := by
 intro pins s σ H x y v u Q I rx ry h
 obtain ⟨d, ds, hd, hx, c1, c2, dp, q⟩ := h
 obtain ⟨as, ra⟩ := datV_reads I hd rx
 have hm : X.A.units + 1 + min (PyData.depthAll ds) d.depth < cLine := by have := Nat.min_le_right (PyData.depthAll ds) d.depth; omega
 rcases hx with hx | hx
 · obtain ⟨bs, rb⟩ := datV_reads I hx ry
   exact PySem.SeqAt.in_list_reads rb ra c1 c2 hm ⟨.bl _, H, I, rfl, q⟩
 · obtain ⟨bs, rb⟩ := datV_reads I hx ry
   exact PySem.SeqAt.in_tuple_reads rb ra c1 c2 hm ⟨.bl _, H, I, rfl, q⟩
def mInA (K : PySem.W.Frag) : R2 := fun y x H Q => match y, x with
 | y, .ref a => rInD y (.ref a) H Q ∨ rInL K y (.ref a) H Q
 | y, x => mInS y x H Q
theorem oInA (hu : X.A.units + 150 < cLine) : OpR X (compareOp .In) (mInA X.K) := ((op_inD (by omega)).or ((op_inL hu).or oInS)).imp fun x y H Q q => by
 unfold mInA at q
 split at q
 · exact q.elim .inl fun z => .inr (.inl z)
 · exact .inr (.inr q)
def tDNewA : TE := fun σ H Q => tDNewK σ H Q ∨ tDNewT σ H Q
theorem x_dnewA : QE X (.Dict [] [] pos) tDNewA := ⟨fun pins s σ H Q I h => h.elim (pe_dnewK pins s σ H Q I) (pe_dnewT pins s σ H Q I)⟩
theorem call_lenT : CallR X (.builtin "len") (fun xs H Q => ∃ p kvs, xs = [.ref p] ∧ H p = some (.dT kvs) ∧ Q (.int kvs.length) H) := by
 intro pins s σ H xs us Q I r h
 obtain ⟨a, kvs, rfl, e, q⟩ := h
 obtain ⟨u, rfl, r1⟩ := vals1 r
 cases r1
 obtain ⟨z, hd, ps, rel, dd⟩ := dt_of I.hok e
 have hl : ps.length = kvs.length := (Paired.length rel).symm
 have hT : s.TypeIs (.ref a) "dict" := dd.typeIs
 obtain ⟨o, es, ep, ho, hc, hdat, he, his, hn⟩ := dd
 have hsz : es.size = kvs.length := by rw [← hl]; have := congrArg List.length he; simpa using this
 have M : MeetsIn X.prog X.w (Builtin.«dict.__len__» ⟨[.ref a], []⟩) (fun _ R s => s.heap.get? a = some o ∧ R (.ok (.ret (.int kvs.length s.toks))) { s with toks := s.toks + 1 }) :=
  .of_wp fun A R s ⟨ho, h⟩ => by
   show wpAny _ _ (dictSize a >>= _) _ _ s
   unfold dictSize
   refine wpAny_bind (wpAny_bind (wpAny_dictEntries ho hdat (wpAny_pure ?_)))
   show wpAny _ _ (Builtin.Dict.pendingCount a >>= _) _ _ s
   refine wpAny_bind (wpAny_pendingCount_other hd ?_)
   refine wpAny_ret_mkInt ?_
   rw [Nat.add_zero, hsz]; exact h
 refine Calls.call_function_entry kind_len plain_len entry_len (args_len1 _) ?_
 unfold Builtin.«len»
 refine wpAny_bind (m := oneArg "len" _) (wpAny_pure ?_)
 refine wpAny_bind (m := callSpecial? (.ref a) (Str.ofString "__len__")) (wpAny_callSpecial?_slot (name := Str.ofString "__len__") hT F.slot_dict_len
  (call_meetsIn F.slot_dict_len hT F.entry_dict_len (F.args_dict_len_1 _) M ⟨ho, ?_⟩))
 show wpAny _ _ _ _ _ { s with toks := s.toks + 1 }
 refine wpAny_bind (wpAny_holding (wpAny_pure ?_))
 refine wpAny_bind (wpAny_letGo ?_)
 have zz : kvs.length ≤ sizeLine := z
 rw [sizeLine_eq] at zz
 show wpAny _ _ (if ((kvs.length : Nat) : Int) < 0 then _ else _) _ _ _
 rw [if_neg (by omega)]
 show wpAny _ _ (if ((kvs.length : Nat) : Int) ≥ 2 ^ 63 then _ else _) _ _ _
 rw [if_neg (by omega)]
 exact wpAny_bind (wpAny_mkInt (wpAny_pure ⟨_, rfl, ⟨.int kvs.length, H, I.tok _, ⟨_, rfl⟩, q⟩⟩))
def kLenA (K : PySem.W.Frag) : List V → Hp → VK → Prop := fun xs H Q => kLen K xs H Q ∨ ∃ p kvs, xs = [.ref p] ∧ H p = some (.dT kvs) ∧ Q (.int kvs.length) H
theorem cLenA : CallR X (.builtin "len") (kLenA X.K) := cLen.or call_lenT
def DDef (H : Hp) (a : Addr) (y d : V) (r : V) (H' : Hp) : Prop := (DGet H a y (some r) ∧ H' = H) ∨ (DGet H a y none ∧ DPut H a y d H' ∧ r = d)
theorem dictSetDefault_heap {A : Around} {E : Value → Shared → Prop} {s : Shared} {P : Program} {w : World} {K : Type} [DecidableEq K] {knd : HeapKind P w K} {d a : Addr} {xs : List (K × Addr × Value)} {k : K} {v : Value} {Q : Value → Shared → Prop} (hu : knd.room A) (hkey : knd.is s.heap k a) (hm : s.heap.DictOfH knd d xs)
   (hthere : ∀ p, atKey xs k = some p → Q p.2 { s with toks := s.toks + knd.draws k })
   (hQ : atKey xs k = none → ∀ h', h'.DictOfH knd d (storedH xs k a v) → Heap.SameBut d s.heap h' → Q v { s with heap := h', toks := s.toks + knd.draws k })
   (hsz : xs.length ≤ sizeLine) :
   wpAny (model P w) A (dictSetDefault d (.ref a) v) Q E s := by
 obtain ⟨o, es, ep, ho, hc, hd, he, his, hn⟩ := hm
 unfold dictSetDefault
 try with_reducible refine wpAny_holding ?_
 refine wpAny_bind (knd.pyHash hu hkey ?_)
 refine wpAny_bind (wpAny_dictFind_heap (s := { s with toks := s.toks + knd.draws k }) hu hkey ho hd he his hn ?_ ?_)
 · intro hno
   have hnot : k ∉ xs.map (·.1) := not_mem_keys_of_get hno
   refine wpAny_bind (wpAny_rule (wpAny_bind (wpAny_updateDictKeys (hz := by have e := size_of_entries he; omega) (s := { s with toks := s.toks + knd.draws k }) ho hd (wpAny_pure (hQ (atKey_none_of_get hno) _ ⟨_, _, ep + 1, Heap.get?_update_self _ ho (Obj.isFreed_of_dict (Obj.data_mapDictKeys hd _)),
     hc.mapDictKeys _, Obj.data_mapDictKeys hd _, ?_, ?_, ?_⟩ (Heap.SameBut.update ..))))))
   · rw [storedH_new (atKey_none_of_get hno)]
     simp [he, entryOfKey]
   · rw [storedH_new (atKey_none_of_get hno)]
     intro x hx
     rcases List.mem_append.mp hx with hx | hx
     · exact knd.keeps (his x hx) ho hd (Heap.SameBut.update ..)
     · simp only [List.mem_singleton] at hx
       subst hx
       exact knd.keeps hkey ho hd (Heap.SameBut.update ..)
   · rw [storedH_new (atKey_none_of_get hno)]
     rw [List.map_append, List.nodup_append]
     refine ⟨hn, by simp, ?_⟩
     intro x hx y hy
     simp only [List.map_cons, List.map_nil, List.mem_singleton] at hy
     subst hy
     exact fun e => hnot (e ▸ hx)
 · intro j p hj
   refine wpAny_bind (wpAny_dictEntries (s := { s with toks := s.toks + knd.draws k }) ho hd ?_)
   rw [entry_at he j, hj]
   exact wpAny_bind (wpAny_rule (wpAny_pure (hthere p (atKey_of_get hn hj))))
end
end L2
namespace L2
open PySem PySem.Spec PyProof.Rows
theorem plain_is {h : Heap} {a : Addr} {its : Array Value} (p : PlainL h a its) : h.IsList a its := let ⟨o, n, e, c, _, d⟩ := p; ⟨o, e, c, n, d⟩
section
variable {X : Cx} {a b : Expr} {t : TA} {p pos ep : Pos} {elts : List Expr} {ek : Nat}
end
end L2
namespace L2
open PySem PySem.Spec PyProof.Rows
set_option genInjectivity false in
set_option genSizeOf false in
structure CloT where
 qual : Str
 body : FuncBody
 scope : Scope
 ps : List Str
 ys : List Str
def CloFd (t : CloT) (cs : List Addr) (c : Addr) (fd : FuncData) : Prop :=
 fd.qualname = t.qual ∧ fd.body = t.body ∧ fd.scope = t.scope ∧ fd.globals = mainGlobals ∧ fd.closure = t.ys.zip cs ∧ fd.code = .ref c ∧ fd.builtins = builtinsNs ∧
  (∀ us : List Value, us.length = t.ps.length → bindArgs fd ⟨us, []⟩ = pure (t.ps.zip us)) ∧ cs.Nodup ∧ cs.length = t.ys.length
def cloO (f : Addr) (t : CloT) (cs : List Addr) (c : Addr) : HO := .ext fun h => ∃ od fd sl, h.get? f = some ⟨.type "function", od, .func fd, sl⟩ ∧ CloFd t cs c fd
def codeO (c : Addr) (qual : Str) : HO := .ext fun h => ∃ o vs tk, h.get? c = some o ∧ o.data = .fields vs ∧ vs[1]? = some (.str qual tk)
def cellO (c : Addr) (v : V) : HO := .ext fun h => ∃ u o, RelV v u ∧ h.get? c = some o ∧ o.data = .cell (some u)
abbrev CellsAt (H : Hp) : List Addr → List V → Prop := Paired fun c v => H c = some (cellO c v)
structure CloAt (H : Hp) (f : Addr) (t : CloT) (cs : List Addr) (cvs : List V) : Prop where
 ex : ∃ c, H f = some (cloO f t cs c) ∧ H c = some (codeO c t.qual)
 cells : CellsAt H cs cvs
theorem CellsAt.mem {H : Hp} {cs : List Addr} {cvs : List V} (h : CellsAt H cs cvs) : ∀ c ∈ cs, ∃ v, H c = some (cellO c v) := by
  induction h with
  | nil => intro c hc; cases hc
  | cons r t ih =>
    intro c hc
    rcases List.mem_cons.mp hc with rfl | hc
    · exact ⟨_, r⟩
    · exact ih c hc
theorem CellsAt.get {H : Hp} {cs : List Addr} {cvs : List V} (h : CellsAt H cs cvs) : ∀ {i : Nat} {v : V}, cvs[i]? = some v → ∃ c, cs[i]? = some c ∧ H c = some (cellO c v) := by
  induction h with
  | nil => intro i v e; cases e
  | @cons c w cs ws r t ih =>
    intro i v e
    cases i with
    | zero => cases e; exact ⟨c, rfl, r⟩
    | succ i => exact ih e
def hideC (cs : List Addr) (H : Hp) : Hp := fun b => if b ∈ cs then none else H b
def backC (cs : List Addr) (H H' : Hp) : Hp := fun b => if b ∈ cs then H b else H' b
theorem hideC_in {cs : List Addr} {H : Hp} {b : Addr} (h : b ∈ cs) : hideC cs H b = none := if_pos h
theorem hideC_out {cs : List Addr} {H : Hp} {b : Addr} (h : b ∉ cs) : hideC cs H b = H b := if_neg h
theorem backC_in {cs : List Addr} {H H' : Hp} {b : Addr} (h : b ∈ cs) : backC cs H H' b = H b := if_pos h
theorem backC_out {cs : List Addr} {H H' : Hp} {b : Addr} (h : b ∉ cs) : backC cs H H' b = H' b := if_neg h
theorem backC_hide (cs : List Addr) (H : Hp) : backC cs H (hideC cs H) = H := by
 funext b
 by_cases h : b ∈ cs
 · exact backC_in h
 · rw [backC_out h, hideC_out h]
theorem backC_upd {cs : List Addr} {H H' : Hp} {d : Addr} {o : HO} (h : d ∉ cs) : backC cs H (upd H' d o) = upd (backC cs H H') d o := by
 funext b
 by_cases hb : b ∈ cs
 · have : b ≠ d := fun e => h (e ▸ hb)
   rw [backC_in hb, upd_ne this, backC_in hb]
 · rw [backC_out hb]
   by_cases e : b = d
   · subst e; rw [upd_same, upd_same]
   · rw [upd_ne e, upd_ne e, backC_out hb]
theorem CellsAt.notin {H : Hp} {cs : List Addr} {cvs : List V} (h : CellsAt H cs cvs) {b : Addr} {o : HO} (e : H b = some o) (hn : ∀ φ, o ≠ .ext φ) : b ∉ cs := fun hb => by
 obtain ⟨v, ev⟩ := h.mem b hb
 rw [e] at ev
 exact hn _ (Option.some.inj ev)
theorem CellsAt.hide {H : Hp} {cs : List Addr} {cvs : List V} (h : CellsAt H cs cvs) {b : Addr} {o : HO} (e : H b = some o) (hn : ∀ φ, o ≠ .ext φ) : hideC cs H b = some o := by
 rw [hideC_out (h.notin e hn)]; exact e
section
variable {P : Program} {w : World} {fs : List Addr} {H H' : Hp} {h h' : Heap} {cs : List Addr} {cvs : List V}
theorem hide_ok (hc : CellsAt H cs cvs) (ok : HOk P w H h) : HOk P w (hideC cs H) h := fun b o e => by
 by_cases hb : b ∈ cs
 · rw [hideC_in hb] at e; cases e
 · rw [hideC_out hb] at e
   exact (ok b o e).stay (fun c u _ q => q) (fun c q => hc.hide q fun φ z => nomatch z) fun c xs q => hc.hide q fun φ z => nomatch z
theorem back_ok (hc : CellsAt H cs cvs) (hfs : ∀ b ∈ fs, H b = none) (ok : HOk P w H h) (u : Un fs [] (hideC cs H) H' h h') (ok' : HOk P w H' h') : Un fs [] H (backC cs H H') h h' ∧ HOk P w (backC cs H H') h' := by
 have obj : ∀ c ∈ cs, ∃ v o, H c = some (cellO c v) ∧ h.get? c = some o ∧ h'.get? c = some o ∧ H' c = none := fun c hm => by
   obtain ⟨v, ev⟩ := hc.mem c hm
   obtain ⟨_, ⟨o, eo⟩, _⟩ := (show ObjOk P w H h c (cellO c v) from ok c _ ev)
   refine ⟨v, o, ev, eo, u.keep c o eo (hideC_in hm) (fun z => ?_) (by simp), u.free c o eo (hideC_in hm) (by simp)⟩
   rw [hfs c z] at ev; cases ev
 have nin : ∀ b, H b = none → b ∉ cs := fun b e hb => by
   obtain ⟨v, ev⟩ := hc.mem b hb
   rw [e] at ev; cases ev
 have nin' : ∀ b o, H' b = some o → b ∉ cs := fun b o e hb => by
   obtain ⟨_, _, _, _, _, z⟩ := obj b hb
   rw [e] at z; cases z
 refine ⟨⟨fun b o e n hb hx => u.keep b o e (by rw [hideC_out (nin b n)]; exact n) hb hx, fun b o e n hb hx => u.slot b o e (by rw [hideC_out (nin b n)]; exact n) hb hx,
   fun b o e n hx => by rw [backC_out (nin b n)]; exact u.free b o e (by rw [hideC_out (nin b n)]; exact n) hx, u.there, fun b xs e => ?_, fun b o v e => ?_, fun b ps e => ?_⟩, fun b o e => ?_⟩
 · have hb := hc.notin e fun φ z => nomatch z
   rw [backC_out hb]; exact u.tups b xs (by rw [hideC_out hb]; exact e)
 · have hb := hc.notin e fun φ z => nomatch z
   rw [backC_out hb]; exact u.frzs b o v (by rw [hideC_out hb]; exact e)
 · have hb := hc.notin e fun φ z => nomatch z
   rw [backC_out hb]; exact u.tbls b ps (by rw [hideC_out hb]; exact e)
 · by_cases hb : b ∈ cs
   · rw [backC_in hb] at e
     obtain ⟨v, o', ev, e1, e2, _⟩ := obj b hb
     rw [e] at ev; cases ev
     obtain ⟨φ1, _, φ3⟩ := (show ObjOk P w H h b (cellO b v) from ok b _ e)
     exact ⟨φ3 h h' φ1 fun q hq => by rw [e1] at hq; cases hq; exact e2, ⟨o', e2⟩, φ3⟩
   · rw [backC_out hb] at e
     exact (ok' b o e).stay (fun c u _ q => q) (fun c q => by rw [backC_out (nin' c _ q)]; exact q) fun c xs q => by rw [backC_out (nin' c _ q)]; exact q
theorem CR.back {outer : List Env} {s s' : Shared} {Q : VK} {E : XK} {r : Result} (hc : CellsAt H cs cvs) (hfs : ∀ b ∈ frs outer, H b = none) (ok : HOk P w H s.heap)
    (h : CR (CX1 P w) outer P w (hideC cs H) s (fun v H' => Q v (backC cs H H')) (fun c a H' => E c a (backC cs H H')) r s') : CR (CX1 P w) outer P w H s Q E r s' := by
  cases r with
  | error e =>
    obtain ⟨a, C, H', rfl, F, q⟩ := h
    obtain ⟨u, k⟩ := back_ok hc hfs ok F.un F.hok
    have na : a ∉ cs := fun hb => by
      obtain ⟨v, ev⟩ := hc.mem a hb
      obtain ⟨_, ⟨o, eo⟩, _⟩ := (show ObjOk P w H s.heap a (cellO a v) from ok a _ ev)
      rw [F.new] at eo; cases eo
    obtain ⟨oe, vs, a0, T, oT, ts, t1, t2, t3, t4, t5, t6, t7, t8, t9, t10, t11⟩ := F.tr
    have nT : T ∉ cs := fun hb => by
      obtain ⟨v, ev⟩ := hc.mem T hb
      obtain ⟨_, ⟨o, eo⟩, _⟩ := (show ObjOk P w H s.heap T (cellO T v) from ok T _ ev)
      rw [t10] at eo; cases eo
    exact ⟨a, C, _, rfl, ⟨F.os, F.bare, u, k, F.new, by rw [backC_out na]; exact F.free, ⟨oe, vs, a0, T, oT, ts, t1, t2, t3, t4, t5, t6, t7, t8, t9, t10, by rw [backC_out nT]; exact t11⟩⟩, q⟩
  | ok fl =>
    cases fl with
    | ret u =>
      obtain ⟨v, H', os, bare, un, hok, rv, q⟩ := h
      obtain ⟨u', k⟩ := back_ok hc hfs ok un hok
      exact ⟨v, _, os, bare, u', k, rv, q⟩
    | next => exact False.elim h
    | brk => exact False.elim h
    | cont => exact False.elim h
end
structure CloOk (P : Program) (w : World) (K : PySem.W.Frag) (mg : Str → Option Value) (base : Heap) (k : Nat) (t : CloT) (sp : Sp) : Prop where
 run : ∀ (A : Around) (outer : List Env) (s : Shared) (H : Hp) (f : Addr) (cs : List Addr) (us : List Value) (vs cvs : List V) (Q : VK) (E : XK), Room k A → Env0 P w K mg base A outer s H → CloAt H f t cs cvs → Vals vs us → vs.length = t.ps.length →
  sp (vs ++ cvs) (hideC cs H) (fun v H' => Q v (backC cs H H')) (fun c a H' => E c a (backC cs H H')) → codeAny (model P w) A (.call (.ref f) ⟨us, []⟩) (CR (CX1 P w) outer P w H s Q E) s
def startC (N : List Str) (vs cvs : List V) : St := vs.map some ++ (List.replicate (N.length - vs.length - cvs.length) none ++ cvs.map some)
def cxClo (P : Program) (w : World) (K : PySem.W.Frag) (mg : Str → Option Value) (base : Heap) (N : List Str) (qual : Str) (scope : Scope) (f c : Addr) (cl : List (Str × Addr)) (A : Around) (outer : List Env) (s : Shared) (H : Hp) (E : XK) : Cx where
 prog := P
 w := w
 K := K
 mg := mg
 base := base
 A := A.deeper (PySem.W.envX qual scope s.heap.objs.size f (.ref c) cl)
 N := N
 s₀ := s
 H₀ := H
 env := PySem.W.envX qual scope s.heap.objs.size f (.ref c) cl
 outer := outer
 stack := PySem.W.envX qual scope s.heap.objs.size f (.ref c) cl :: outer
 ex := []
 calm := true
 fn := fun _ => false
 pn := []
 xe := fun e s' => wpAny (model P w) (A.deeper (PySem.W.envX qual scope s.heap.objs.size f (.ref c) cl)) (leaving (PySem.W.envX qual scope s.heap.objs.size f (.ref c) cl) e) (fun _ s'' => CX1 P w outer H s E e s'') (fun e' s'' => CX1 P w outer H s E e' s'') s'
structure CloScope (N ps ys : List Str) (sc : Scope) : Prop where
 kind : sc.kind = .function
 co : sc.isCoroutine = false
 gen : sc.isGenerator = false
 nd : N.Nodup
 pre : N.take ps.length = ps
 suf : N.drop (N.length - ys.length) = ys
 le : ps.length + ys.length ≤ N.length
 par : ∀ x ∈ ps, sc.names.lookup x = some .local
 nocell : ∀ x ∈ sc.names, x.2 ≠ .cell
 fr : ∀ x ∈ ys, sc.names.lookup x = some .free
 frs : ∀ y ∈ sc.names, y.2 = .free → y.1 ∈ ys
theorem lookup_zip {ys : List Str} {cs : List Addr} (hl : cs.length = ys.length) (nd : ys.Nodup) : ∀ {i : Nat} {y : Str} {c : Addr}, ys[i]? = some y → cs[i]? = some c → (ys.zip cs).lookup y = some c := by
  induction ys generalizing cs with
  | nil => intro i y c e; cases e
  | cons a r ih =>
    intro i y c e1 e2
    cases cs with
    | nil => cases e2
    | cons b cs =>
      cases i with
      | zero => cases e1; cases e2; show (List.lookup _ ((_, _) :: _)) = _; rw [List.lookup_cons]; simp
      | succ i =>
        have hne : y ≠ a := fun e => (List.nodup_cons.mp nd).1 (e ▸ List.mem_of_getElem? (show r[i]? = some y from e1))
        show (List.lookup y ((a, b) :: r.zip cs)) = _
        rw [List.lookup_cons, show (y == a) = false from by simpa using hne]
        exact ih (by simpa using hl) (List.nodup_cons.mp nd).2 (show r[i]? = some y from e1) (show cs[i]? = some c from e2)
theorem lookup_zip_of {ys : List Str} {cs : List Addr} : ∀ {y : Str} {c : Addr}, (ys.zip cs).lookup y = some c → ∃ i : Nat, ys[i]? = some y ∧ cs[i]? = some c := by
  induction ys generalizing cs with
  | nil => intro y c e; cases e
  | cons a r ih =>
    intro y c e
    cases cs with
    | nil => cases e
    | cons b cs =>
      have e : (List.lookup y ((a, b) :: r.zip cs)) = some c := e
      rw [List.lookup_cons] at e
      by_cases hy : (y == a) = true
      · rw [hy] at e; cases e; exact ⟨0, by simpa using (eq_of_beq hy).symm, rfl⟩
      · rw [show (y == a) = false from by simpa using hy] at e
        obtain ⟨i, h1, h2⟩ := ih e
        exact ⟨i + 1, h1, h2⟩
theorem lookup_rev_zip {ps : List Str} {us : List Value} (nd : ps.Nodup) : ∀ {i : Nat} {x : Str} {u : Value}, ps[i]? = some x → us[i]? = some u → (ps.zip us).reverse.lookup x = some u := by
  induction ps generalizing us with
  | nil => intro i x u e; cases e
  | cons a r ih =>
    intro i x u e1 e2
    cases us with
    | nil => cases e2
    | cons b us =>
      show (List.lookup x ((a, b) :: r.zip us).reverse) = _
      rw [List.reverse_cons, List.lookup_append]
      cases i with
      | zero =>
        cases e1; cases e2
        have : (r.zip us).reverse.lookup a = none := by
          rw [List.lookup_eq_none_iff]
          intro p hp
          have := (List.of_mem_zip (List.mem_reverse.mp hp)).1
          simp only [beq_eq_false_iff_ne, ne_eq, bne_iff_ne]
          intro e
          exact (List.nodup_cons.mp nd).1 (by rw [← e] at this; exact this)
        rw [this]; simp
      | succ i =>
        rw [ih (List.nodup_cons.mp nd).2 (show r[i]? = some x from e1) (show us[i]? = some u from e2)]; rfl
end L2
namespace L2
open PySem PySem.Spec PyProof.Rows
section
variable {P : Program} {w : World} {K : PySem.W.Frag} {mg : Str → Option Value} {base : Heap} {N ps ys : List Str} {qual : Str} {scope : Scope} {f c : Addr} {A : Around} {outer : List Env} {s : Shared} {H : Hp} {E : XK} {us : List Value} {vs cvs : List V} {cs : List Addr} {h1 : Heap} {tk : Nat}
theorem inv_clo (S : CloScope N ps ys scope) (hd : A.handled = none) (e0 : Env0 P w K mg base A outer s H) (ca : CellsAt H cs cvs) (hcs : cs.Nodup) (hcl : cs.length = ys.length) (hl : vs.length = ps.length) (r : Vals vs us)
   (hns : h1.Ns s.heap.objs.size (fun x => (ps.zip us).reverse.lookup x)) (hk : ∀ b o, s.heap.get? b = some o → h1.get? b = some o) :
   Inv (cxClo P w K mg base N qual scope f c (ys.zip cs) A outer s (hideC cs H) E) [] (startC N vs cvs) (hideC cs H) { s with heap := h1, toks := tk } := by
 have ndY : ys.Nodup := by rw [← S.suf]; exact S.nd.sublist (List.drop_sublist _ _)
 have ndP : ps.Nodup := by rw [← S.pre]; exact S.nd.sublist (List.take_sublist _ _)
 have lcv : cvs.length = ys.length := by rw [← hcl]; exact (Paired.length ca).symm
 have cellOf : ∀ c ∈ cs, ∃ v, h1.IsCell c v := fun c hm => by
   obtain ⟨v, ev⟩ := ca.mem c hm
   obtain ⟨⟨u, o, _, eo, hd⟩, _, _⟩ := (show ObjOk P w H s.heap c (cellO c v) from e0.hok c _ ev)
   exact ⟨_, o, hk _ _ eo, hd⟩
 have memC : ∀ x c, (ys.zip cs).lookup x = some c → c ∈ cs := fun x c e => by
   obtain ⟨i, _, e2⟩ := lookup_zip_of e
   exact List.mem_of_getElem? e2
 have noA : ∀ b : Addr, b ∉ (cxClo P w K mg base N qual scope f c (ys.zip cs) A outer s (hideC cs H) E).ex := fun b z => absurd (show b ∈ ([] : List Addr) from z) (by simp)
 have hid : ∀ b, H b = none → hideC cs H b = none := fun b e => by
   by_cases hb : b ∈ cs
   · exact hideC_in hb
   · rw [hideC_out hb]; exact e
 refine ⟨⟨e0.mod, S.kind, rfl, rfl, Nat.le_refl _, fun y z c h1 h2 => ?_, fun y hy => ?_, fun y c hf _ => ?_, fun _ => hd, Around.frames_deeper e0.frames, .inr ⟨rfl, rfl⟩, fun b z => absurd z (noA b), fun b o e => ⟨(e0.bs b o e).1, hid b (e0.bs b o e).2⟩, e0.bsz, fun b _ _ => noA b, fun b z => absurd z (noA b), e0.funs, fun b hb => hid b (e0.frf b hb)⟩,
   rfl, e0.bare, Un.kept hk, ⟨_, hns, fun i y v q1 q2 q3 => ?_⟩, fun y c h => cellOf c (memC y c h), hid _ (e0.hok.fresh (Nat.le_refl _)), fun y c h => hideC_in (memC y c h), fun p hp => absurd (show p ∈ ([] : List (Addr × Obj)) from hp) (by simp), (hide_ok ca e0.hok).kept hk, ?_⟩
 · obtain ⟨i, e1, e2⟩ := lookup_zip_of (show (ys.zip cs).lookup y = some c from h1)
   obtain ⟨j, e3, e4⟩ := lookup_zip_of (show (ys.zip cs).lookup z = some c from h2)
   have : i = j := by
     obtain ⟨a1, b1⟩ := List.getElem?_eq_some_iff.mp e2
     obtain ⟨a2, b2⟩ := List.getElem?_eq_some_iff.mp e4
     exact (List.getElem_inj hcs).mp (b1.trans b2.symm)
   subst this
   rw [e1] at e3; exact Option.some.inj e3
 · have hy : scope.names.lookup y = some .cell ∨ scope.names.lookup y = some .free := hy
   rcases hy with hy | hy
   · exact absurd rfl (S.nocell _ (PySem.mem_of_lookup hy))
   · obtain ⟨i, hi, e⟩ := List.mem_iff_getElem.mp (S.frs _ (PySem.mem_of_lookup hy) rfl)
     have hi2 : i < cs.length := by omega
     exact ⟨cs[i], lookup_zip hcl ndY (List.getElem?_eq_some_iff.mpr ⟨hi, e⟩) (List.getElem?_eq_getElem hi2)⟩
 · exact absurd (show false = true from hf) Bool.false_ne_true
 · unfold startC at q2
   by_cases hi : i < vs.length
   · rw [List.getElem?_append_left (by simpa using hi), List.getElem?_map] at q2
     have ha : vs[i]? = some v := by
       cases e : vs[i]? with
       | none => rw [e] at q2; cases q2
       | some a => rw [e] at q2; cases q2; rfl
     obtain ⟨u, hu, rv⟩ := r.get ha
     have hp : ps[i]? = some y := by
       rw [← S.pre, List.getElem?_take_of_lt (by omega)]; exact q1
     exact ⟨u, rv, .inl ⟨S.par y (List.mem_of_getElem? hp), lookup_rev_zip ndP hp hu⟩⟩
   · rw [List.getElem?_append_right (by simpa using hi), List.length_map] at q2
     by_cases hj : i - vs.length < N.length - vs.length - cvs.length
     · rw [List.getElem?_append_left (by simpa using hj), List.getElem?_replicate] at q2
       split at q2 <;> cases q2
     · rw [List.getElem?_append_right (by simpa using hj), List.length_replicate, List.getElem?_map] at q2
       have ha : cvs[i - vs.length - (N.length - vs.length - cvs.length)]? = some v := by
        cases e : cvs[i - vs.length - (N.length - vs.length - cvs.length)]? with
        | none => rw [e] at q2; cases q2
        | some a => rw [e] at q2; cases q2; rfl
       have hle := S.le
       have hiN : i < N.length := (List.getElem?_eq_some_iff.mp q1).1
       have hx : i - vs.length - (N.length - vs.length - cvs.length) = i - (N.length - ys.length) := by omega
       rw [hx] at ha
       have hy : ys[i - (N.length - ys.length)]? = some y := by
        have e1 : N.drop (N.length - ys.length) = ys := S.suf
        have e2 : (N.drop (N.length - ys.length))[i - (N.length - ys.length)]? = some y := by
         rw [List.getElem?_drop]
         rw [show N.length - ys.length + (i - (N.length - ys.length)) = i by omega]; exact q1
        rw [e1] at e2; exact e2
       obtain ⟨c, ec, hc⟩ := ca.get ha
       obtain ⟨⟨u, o, ru, eo, hdo⟩, _, _⟩ := (show ObjOk P w H s.heap c (cellO c v) from e0.hok c _ hc)
       exact ⟨u, ru, .inr ⟨.inr (S.fr y (List.mem_of_getElem? hy)), c, lookup_zip hcl ndY hy ec, o, hk _ _ eo, hdo⟩⟩
 · unfold startC
   show _ = N.length
   have := S.le
   rw [List.length_append, List.length_append, List.length_map, List.length_map, List.length_replicate]
   omega
end
section
variable {P : Program} {w : World} {K : PySem.W.Frag} {mg : Str → Option Value} {base : Heap} {k : Nat} {t : CloT} {N : List Str} {sp : Sp}
theorem clo_of {body : List Stmt} (hb : t.body = .stmts body) (S : CloScope N t.ps t.ys t.scope)
    (hbody : ∀ (f c : Addr) (cl : List (Str × Addr)) (A : Around) (outer : List Env) (s : Shared) (H : Hp) (vs cvs : List V) (Q : VK) (E : XK), Room k (A.deeper (PySem.W.envX t.qual t.scope s.heap.objs.size f (.ref c) cl)) → vs.length = t.ps.length → cvs.length = t.ys.length → sp (vs ++ cvs) H Q E →
      ∃ td, PSs (cxClo P w K mg base N t.qual t.scope f c cl A outer s H E) body td ∧ td { nx := fun _ H' => Q .non H', rt := Q } (startC N vs cvs) H) : CloOk P w K mg base (k + 1) t sp := by
  refine ⟨fun A outer s H f cs us vs cvs Q E hr e0 ca r hl hsp => ?_⟩
  obtain ⟨c, hf, hcc⟩ := ca.ex
  have KX : K.In s.heap := e0.mod.kin.keeps fun b o e => (e0.bs b o e).1
  have lim : s.heap.NoLimit := e0.mod.nolimit.keeps fun b o e => (e0.bs b o e).1
  obtain ⟨⟨od, fd, sl, ho, h1, h2, h3, h4, h5, h6, h7, h8, h9, h10⟩, _, _⟩ := (show ObjOk P w H s.heap f (cloO f t cs c) from e0.hok f _ hf)
  obtain ⟨⟨o, vs', tk, hco, hdo, hv⟩, _, _⟩ := (show ObjOk P w H s.heap c (codeO c t.qual) from e0.hok c _ hcc)
  have hcd : s.heap.CodeRec fd.code fd.qualname := ⟨c, o, vs', tk, h6, hco, hdo, by rw [h1]; exact hv⟩
  refine codeAny_mono (codeAny_call_function (R := CR (CX1 P w) outer P w (hideC cs H) s (fun v H' => Q v (backC cs H H')) (fun c a H' => E c a (backC cs H H'))) hr.depth ho rfl (by rw [h3]; exact S.co) (by rw [h3]; exact S.gen) (h2.trans hb) hcd ?_) fun r s' h => CR.back ca.cells e0.frf e0.hok h
  rw [h8 us (by rw [← r.length]; exact hl), h3, h4, h5, h1, h6, h7]
  refine wpAny_pure (wpAny_newFunctionEnv S.nocell (fun y hy => S.par y.1 (List.of_mem_zip hy).1) (fun h' hns hsb => ⟨lim.fresh _ hsb, ?_⟩) S.kind)
  have hk : ∀ b o, s.heap.get? b = some o → h'.get? b = some o := fun b o e => hsb.extBut b o (Nat.ne_of_lt (Heap.lt_size e)) (Heap.get?_push_of_some _ e)
  have lcv : cvs.length = t.ys.length := by rw [← h10]; exact (Paired.length ca.cells).symm
  obtain ⟨td, ht, hq⟩ := hbody f c (t.ys.zip cs) A outer s (hideC cs H) vs cvs _ _ (hr.deeper _) hl lcv hsp
  have I := inv_clo (tk := s.toks + (t.ps.zip us).length) (qual := t.qual) (f := f) (c := c) (E := fun c a H' => E c a (backC cs H H')) S hr.hd e0 ca.cells h9 h10 hl r hns hk
  show codeAny _ _ (.func body (PySem.W.envX t.qual t.scope s.heap.objs.size f (.ref c) (t.ys.zip cs))) _ _
  refine codeAny_func ?_
  refine wpAny_mono (ht [] _ (startC N vs cvs) _ _ I hq) (fun fl s' hs => ?_) fun e s' hs => hs
  cases fl with
  | ret u =>
    obtain ⟨v, σ', H', J, rv, q⟩ := hs
    exact ⟨v, H', J.os, J.bare, J.base, J.hok, rv, q⟩
  | next =>
    obtain ⟨σ', H', J, q⟩ := hs
    exact ⟨V.non, H', J.os, J.bare, J.base, J.hok, rfl, q⟩
  | brk =>
    obtain ⟨_, _, _, q⟩ := hs
    exact False.elim q
  | cont =>
    obtain ⟨_, _, _, q⟩ := hs
    exact False.elim q
end
end L2
namespace L2
open PySem PySem.Spec PyProof.Rows
def BM (mg : Str → Option Value) (h : Heap) : Prop := ∃ bm ob, mg "__builtins__" = some (.ref bm) ∧ bm ≠ builtinsNs ∧ h.get? bm = some ob ∧ ob.cls = .type "module" ∧ ob.dict = some builtinsNs ∧ ob.data = .plain
section
variable {X : Cx} {pins : List (Addr × Obj)} {σ : St} {H : Hp} {s : Shared} {P c : Addr} {ps : Array Value} {t : CloT} {cs : List Addr} {h' : Heap} {tk : Nat} {fd : FuncData}
theorem made_new {more : Array Value} (I : Inv X pins σ H s) (hP : H P = some (.tbl ps)) (hx : Heap.ExtBut P s.heap h') (hge : s.heap.objs.size ≤ c) (hlt : c < h'.objs.size) (hrec : h'.CodeRec (.ref c) t.qual)
   (htb : h'.get? P = some (PySem.W.tabObj (ps ++ more))) (hfd : CloFd t cs c fd) :
   Inv X pins σ (upd (upd (upd H P (.tbl (ps ++ more))) c (codeO c t.qual)) h'.objs.size (cloO h'.objs.size t cs c)) { s with heap := h'.push { cls := .type "function", data := .func fd }, toks := tk } := by
 have hcn : H c = none := I.hok.fresh hge
 have hfn : H h'.objs.size = none := I.hok.fresh (Nat.le_of_lt (Nat.lt_of_le_of_lt hge hlt))
 have ncP : c ≠ P := (ne_of_none hP hcn).symm
 have nfP : h'.objs.size ≠ P := (ne_of_none hP hfn).symm
 have ncf : c ≠ h'.objs.size := Nat.ne_of_lt hlt
 have old : ∀ b o, s.heap.get? b = some o → b ≠ c ∧ b ≠ h'.objs.size := fun b o e => ⟨Nat.ne_of_lt (Nat.lt_of_lt_of_le (Heap.lt_size e) hge), Nat.ne_of_lt (Nat.lt_of_lt_of_le (Heap.lt_size e) (Nat.le_of_lt (Nat.lt_of_le_of_lt hge hlt)))⟩
 have keepP : ∀ b o, b ≠ P → s.heap.get? b = some o → (h'.push { cls := .type "function", data := .func fd }).get? b = some o := fun b o hb e => Heap.get?_push_of_some _ (hx b o hb e)
 have neP : ∀ b, H b = none → b ≠ P := fun b e z => by rw [z, hP] at e; cases e
 have obj : ∀ b o, H b = some o → ∃ u, s.heap.get? b = some u := fun b o e => obj_some (I.hok b o e)
 have same : ∀ b o, H b = some o → b ≠ P → (upd (upd (upd H P (.tbl (ps ++ more))) c (codeO c t.qual)) h'.objs.size (cloO h'.objs.size t cs c)) b = some o := fun b o e hb => by
   rw [upd_ne (ne_of_none e hfn), upd_ne (ne_of_none e hcn), upd_ne hb]; exact e
 refine I.un ⟨fun b o e n hb hx' => keepP b o (neP b n) e, fun b o e n hb hx' => ⟨o.slots, keepP b o (neP b n) e⟩, fun b o e n hx' => ?_, fun b o e hx' => ?_, fun b xs e => same b _ e (ne_of e hP (fun z => nomatch z)), fun b o u e => same b _ e (ne_of e hP (fun z => nomatch z)), fun b qs e => ?_⟩ fun b o e => ?_
 · rw [upd_ne (old b o e).2, upd_ne (old b o e).1, upd_ne (neP b n)]; exact n
 · by_cases hb : b = P
   · subst hb; exact ⟨_, Heap.get?_push_of_some _ htb⟩
   · exact ⟨o, keepP b o hb e⟩
 · by_cases hb : b = P
   · subst hb
     rw [hP] at e; cases e
     exact ⟨more, by rw [upd_ne nfP.symm, upd_ne ncP.symm, upd_same]⟩
   · exact ⟨#[], by rw [same b _ e hb]; simp⟩
 · by_cases hf : b = h'.objs.size
   · subst hf
     rw [upd_same] at e; cases e
     refine ⟨⟨_, fd, _, Heap.get?_push_size _ rfl, hfd⟩, ⟨_, Heap.get?_push_size _ rfl⟩, ?_⟩
     rintro h1 h2 ⟨od, fd', sl, e1, e2⟩ k
     exact ⟨od, fd', sl, k _ e1, e2⟩
   · rw [upd_ne hf] at e
     by_cases hc : b = c
     · subst hc
       rw [upd_same] at e; cases e
       obtain ⟨c2, oc, vs, tq, e0, e1, e2, e3⟩ := hrec
       cases e0
       refine ⟨⟨oc, vs, tq, Heap.get?_push_of_some _ e1, e2, e3⟩, ⟨_, Heap.get?_push_of_some _ e1⟩, ?_⟩
       rintro h1 h2 ⟨o, vs, tk, a1, a2, a3⟩ k
       exact ⟨o, vs, tk, k _ a1, a2, a3⟩
     · rw [upd_ne hc] at e
       by_cases hp : b = P
       · subst hp
         rw [upd_same] at e; cases e
         exact Heap.get?_push_of_some _ htb
       · rw [upd_ne hp] at e
         refine (I.hok b o e).stay (fun a u ha q => keepP a u ?_ q) (fun a q => same a _ q (ne_of q hP (fun z => nomatch z))) fun a xs q => same a _ q (ne_of q hP (fun z => nomatch z))
         rcases ha with rfl | ha
         · exact hp
         · exact ne_of ha hP (fun z => nomatch z)
theorem made_hit (I : Inv X pins σ H s) (hk : ∀ b o, s.heap.get? b = some o → h'.get? b = some o) (hsz : s.heap.objs.size ≤ h'.objs.size) (hfd : CloFd t cs c fd) :
  Inv X pins σ (upd H h'.objs.size (cloO h'.objs.size t cs c)) { s with heap := h'.push { cls := .type "function", data := .func fd }, toks := tk } := by
 refine I.laid (a := h'.objs.size) (o := cloO h'.objs.size t cs c) (fun b u e => Heap.get?_push_of_some _ (hk b u e)) hsz ⟨⟨_, fd, _, Heap.get?_push_size _ rfl, hfd⟩, ⟨_, Heap.get?_push_size _ rfl⟩, ?_⟩
 rintro h1 h2 ⟨od, fd', sl, e1, e2⟩ k
 exact ⟨od, fd', sl, k _ e1, e2⟩
end
def tLam (P : Addr) (pos : Pos) (t : CloT) (cs : List Addr) : TE := fun _ H Q => ∃ ps, H P = some (.tbl ps) ∧ TriplesOk ps.toList ∧
  ((codeAmong pos ps.toList = none ∧ ∀ c f, H c = none → H f = none → c ≠ f → Q (.ref f) (upd (upd (upd H P (.tbl (ps ++ #[rawInt pos.line, rawInt pos.col, .ref c]))) c (codeO c t.qual)) f (cloO f t cs c))) ∨
   ∃ c, codeAmong pos ps.toList = some (.ref c) ∧ ∀ f, H f = none → Q (.ref f) (upd H f (cloO f t cs c)))
section
variable {X : Cx} {c0 P : Addr} {params : Arguments} {scope : Scope} {pos : Pos} {t : CloT} {cs : List Addr}
theorem glob_ne {pins : List (Addr × Obj)} {σ : St} {H : Hp} {s : Shared} {ps : Array Value} (I : Inv X pins σ H s) (hP : H P = some (.tbl ps)) (B : BM X.mg X.base) :
   s.heap.get? P = some (PySem.W.tabObj ps) ∧ s.heap.Ns mainGlobals X.mg ∧ mainGlobals ≠ P ∧ s.heap.BuiltinsAt X.mg P := by
 have hPo : s.heap.get? P = some (PySem.W.tabObj ps) := I.hok P _ hP
 have hg : s.heap.Ns mainGlobals X.mg := I.mod.glob.keeps I.bk
 have hgP : mainGlobals ≠ P := fun q => by
   obtain ⟨o, es, ep, e, hd, _⟩ := hg
   rw [q, hPo] at e; cases e; cases hd
 obtain ⟨bm, ob, b1, b2, b3, b4, b5, b6⟩ := B
 have b3' := I.bk _ _ b3
 refine ⟨hPo, hg, hgP, bm, ob, b1, b2, fun q => ?_, fun q => ?_, b3', b4, b5, b6⟩
 · obtain ⟨o, es, ep, e, hd, _⟩ := hg
   rw [q, e] at b3'; cases b3'; rw [hd] at b6; cases b6
 · rw [q, hPo] at b3'; cases b3'; cases b4
theorem x_def (i : Nat) {name : Str} {body : List Stmt} (hN : X.N.Nodup) (B : BM X.mg X.base) (C : PySem.W.CodeHd X.base c0 P) (hcode : X.env.code = .ref c0) (hcl : closureFor scope X.env = pure (t.ys.zip cs)) (nd : cs.Nodup) (hl : cs.length = t.ys.length)
   (hq : qualnameIn X.env name name = t.qual) (hb : t.body = .stmts body) (hs : t.scope = scope)
   (hbind : ∀ (cl : List (Str × Addr)) (doc pm cdv ct : Value) (us : List Value), us.length = t.ps.length → bindArgs (PySem.W.fnX name t.qual params body scope cl .none .none doc pm none cdv ct) ⟨us, []⟩ = pure (t.ps.zip us))
   (hi : X.N[i]? = some name := by rfl) (hx : Loc X.env.scope name := by first | exact .inl rfl | exact .inr rfl) (hf : X.fn name = true ∨ X.env.scope.names.lookup name = some .local := by first | exact .inl rfl | exact .inr rfl)
   (hd0 : params.defaults = [] := by rfl) (hk0 : params.kw_defaults = [] := by rfl) (ha : annTrees params none X.env = [] := by rfl) :
   QS X (.FunctionDef name params body [] none [] scope none name pos) (tAsg (tLam P pos t cs) (gName i)) := ⟨fun pins s σ H D I h => by
 obtain ⟨ps, hP, ht, h⟩ := h
 obtain ⟨hPo, hg, hgP, hB⟩ := glob_ne I hP B
 have hfd : ∀ (doc pm ct : Value) (c : Addr), CloFd t cs c (PySem.W.fnX name t.qual params body scope (t.ys.zip cs) .none .none doc pm none (.ref c) ct) := fun doc pm ct c => ⟨rfl, hb.symm, hs.symm, rfl, rfl, rfl, rfl, hbind _ _ _ _ _, nd, hl⟩
 refine PySem.W.nestDef_K hd0 hk0 ha ?_
 rw [hq]
 rcases h with ⟨hn, q⟩ | ⟨c, hff, q⟩
 · refine PySem.W.makeFunction_K hcl I.ok.glob hg hcode (C.keeps I.bk) hPo ht hn hgP hB fun c ctv doc h' tk hx' hge hlt hrec htb => ?_
   have I2 := made_new (tk := tk) (cs := cs) I hP hx' hge hlt hrec htb (hfd doc ((X.mg "__name__").getD .none) ctv c)
   exact store_ok I2 hN hi hx (v := .ref h'.objs.size) rfl (fun s' I3 => ⟨_, _, I3, q c h'.objs.size (I.hok.fresh hge) (I.hok.fresh (Nat.le_of_lt (Nat.lt_of_le_of_lt hge hlt))) (Nat.ne_of_lt hlt)⟩) hf
 · refine PySem.W.makeFunction_hit hcl I.ok.glob hg hcode (C.keeps I.bk) hPo ht hff hB fun ctv doc h' tk hk hsz => ?_
   have I2 := made_hit (tk := tk) (cs := cs) I hk hsz (hfd doc ((X.mg "__name__").getD .none) ctv c)
   exact store_ok I2 hN hi hx (v := .ref h'.objs.size) rfl (fun s' I3 => ⟨_, _, I3, q h'.objs.size (I.hok.fresh hsz)⟩) hf⟩
end
section
variable {X : Cx} {k : Nat} {E : St → XK} {x : Str} {p pos : Pos} {e : Expr} {es : List Expr} {ta : TE}
abbrev Kinds := List (CloT × Sp)
def HCall (ks : Kinds) (f : Addr) (vs : List V) (H : Hp) (Q : VK) (E : XK) : Prop := ∃ ts ∈ ks, ∃ cs cvs, CloAt H f ts.1 cs cvs ∧ vs.length = ts.1.ps.length ∧ ts.2 (vs ++ cvs) (hideC cs H) (fun v H' => Q v (backC cs H H')) (fun c a H' => E c a (backC cs H H'))
def tHeld (ks : Kinds) (E : St → XK) (ta : TE) (t : TA) : TE := fun σ H Q => ta σ H fun x H1 => ∃ f, x = .ref f ∧ (∃ ts ∈ ks, ∃ cs cvs, CloAt H1 f ts.1 cs cvs) ∧ t σ H1 fun vs H2 => HCall ks f vs H2 Q (E σ)
theorem clo_fn {P : Program} {w : World} {H : Hp} {h : Heap} {f : Addr} {t : CloT} {cs : List Addr} {cvs : List V} (ok : HOk P w H h) (c : CloAt H f t cs cvs) : PySem.W.FnAt f h := by
 obtain ⟨c', hf, _⟩ := c.ex
 obtain ⟨⟨od, fd, sl, ho, _⟩, _, _⟩ := (show ObjOk P w H h f (cloO f t cs c') from ok f _ hf)
 exact ⟨_, _, _, _, ho⟩
def KindsOk (P : Program) (w : World) (K : PySem.W.Frag) (mg : Str → Option Value) (base : Heap) (k : Nat) (ks : Kinds) : Prop := ∀ ts ∈ ks, CloOk P w K mg base k ts.1 ts.2
theorem x_held {ks : Kinds} {t : TA} (hk : KindsOk X.prog X.w X.K X.mg X.base k ks) (hr : Room k X.A) (hx : PassS (CX1 X.prog X.w) X E) (hg : QE X (.Name x p) ta) (ha : QA X (e :: es) t) (hs : noStars (e :: es) = true := by rfl) :
    QE X (.Call (.Name x p) (e :: es) [] pos) (tHeld ks E ta t) := ⟨fun pins s σ H Q I h => by
  have h' : (notStar e && noStars es) = true := hs
  refine wpAny_Call_Name_kw (thn (hg.out pins s σ H _ I h) fun u s1 ⟨y, H1, I1, ry, f, ey, ⟨ts, hts, cs, cvs, ca⟩, q⟩ => ?_)
  subst ey
  obtain rfl : u = Value.ref f := ry
  refine PySem.W.callWith_F (clo_fn I1.hok ca) (thn (ha.out pos pins s1 σ H1 _ I1 q) fun us s2 ⟨vs, H2, I2, rv, ts2, hm2, cs2, cvs2, ca2, hl, hsp⟩ => ⟨clo_fn I2.hok ca2, ?_⟩)
    (starEach_plain (Bool.and_eq_true_iff.mp h').1 es X.env) (noStars_any (Bool.and_eq_true_iff.mp h').2)
  refine wpAny_call (codeAny_mono ((hk ts2 hm2).run X.A X.stack s2 H2 f cs2 us vs cvs2 Q (E σ) hr I2.env0 ca2 rv hl hsp) fun r s' hq => ?_)
  cases r with
  | error e => exact hx pins σ H2 s2 e s' I2 hq
  | ok fl =>
    cases fl with
    | ret u => exact I2.after hq
    | next => exact False.elim hq
    | brk => exact False.elim hq
    | cont => exact False.elim hq⟩
end
end L2
namespace L2
open PySem PySem.Spec PyProof.Rows
structure EndsM where
 nx : St → Hp → Prop
 rt : St → VK
abbrev TSM := EndsM → St → Hp → Prop
def SPM (X : Cx) (pins : List (Addr × Obj)) (D : EndsM) (f : Flow) (s' : Shared) : Prop :=
 match f with
 | .next => ∃ σ' H', Inv X pins σ' H' s' ∧ D.nx σ' H'
 | .ret u => ∃ v σ' H', Inv X pins σ' H' s' ∧ RelV v u ∧ D.rt σ' v H'
 | _ => False
structure QM (X : Cx) (st : Stmt) (t : TSM) : Prop where
 out : ∀ (pins : List (Addr × Obj)) (s : Shared) (σ : St) (H : Hp) (D : EndsM), Inv X pins σ H s → t D σ H → wpAny (model X.prog X.w) X.A (exec st X.env) (SPM X pins D) X.xe s
structure QMs (X : Cx) (st : List Stmt) (t : TSM) : Prop where
 out : ∀ (pins : List (Addr × Obj)) (s : Shared) (σ : St) (H : Hp) (D : EndsM), Inv X pins σ H s → t D σ H → wpAny (model X.prog X.w) X.A (execs st X.env) (SPM X pins D) X.xe s
def mSeq (t u : TSM) : TSM := fun D σ H => t { D with nx := fun σ' H' => u D σ' H' } σ H
def mLift (t : TS) : TSM := fun D σ H => t { nx := D.nx, rt := fun _ _ => False } σ H
def mRet (te : TE) : TSM := fun D σ H => te σ H (D.rt σ)
section
variable {X : Cx} {st : Stmt} {sts l m : List Stmt} {t u : TSM} {tS : TS} {e c : Expr} {te : TE} {tc : TT} {pos : Pos}
theorem y_lift (h : QS X st tS) : QM X st (mLift tS) := ⟨fun pins s σ H D I hq => thn (h.out pins s σ H _ I hq) fun f s1 q => by
 cases f with
 | next => exact q
 | ret v => obtain ⟨_, _, _, _, _, z⟩ := q; exact z.elim
 | brk => obtain ⟨_, _, _, z⟩ := q; exact z.elim
 | cont => obtain ⟨_, _, _, z⟩ := q; exact z.elim⟩
theorem y_ret (h : QE X e te) : QM X (.Return (some e) pos) (mRet te) := ⟨fun pins s σ H D I hq =>
 wpAny_Return_some (thn (h.out pins s σ H _ I hq) fun v s1 ⟨x, H1, I1, r1, q1⟩ => ⟨x, σ, H1, I1, r1, q1⟩)⟩
theorem y_cons (h1 : QM X st t) (h2 : QMs X sts u) : QMs X (st :: sts) (mSeq t u) := ⟨fun pins s σ H D I h => by
  refine wpAny_execs_cons (thn (h1.out pins s σ H _ I h) fun f s1 q => ?_)
  cases f with
  | next =>
    obtain ⟨σ', H', I', q⟩ := q
    exact h2.out pins s1 σ' H' D I' q
  | ret v => exact q
  | brk => exact q
  | cont => exact q⟩
theorem y_one (h1 : QM X st t) : QMs X [st] t := ⟨fun pins s σ H D I h => by
 refine wpAny_execs_cons (thn (h1.out pins s σ H D I h) fun f s1 q => ?_)
 cases f with
 | next => exact wpAny_execs_nil q
 | ret v => exact q
 | brk => exact q
 | cont => exact q⟩
end
def trackC : List (Nat × Addr) → St → Hp → Hp
  | [], _, H => H
  | (i, c) :: r, σ, H => match σ[i]? with
    | some (some v) => trackC r σ (upd H c (cellO c v))
    | _ => trackC r σ H
theorem track_ok {P : Program} {w : World} {fs : List Addr} {H : Hp} {h h' : Heap} {σ : St} : ∀ (cs : List (Nat × Addr)) (H' : Hp), (cs.map (·.2)).Nodup → (∀ p ∈ cs, H' p.2 = none ∧ h.objs.size ≤ p.2 ∧ ∀ v, σ[p.1]? = some (some v) → ∃ u o, RelV v u ∧ h'.get? p.2 = some o ∧ o.data = .cell (some u)) →
    Un fs [] H H' h h' → HOk P w H' h' → Un fs [] H (trackC cs σ H') h h' ∧ HOk P w (trackC cs σ H') h'
  | [], H', _, _, u, ok => ⟨u, ok⟩
  | (i, c) :: r, H', nd, hc, u, ok => by
    unfold trackC
    have ndr := (List.nodup_cons.mp nd).2
    have hcr : ∀ p ∈ r, H' p.2 = none ∧ h.objs.size ≤ p.2 ∧ ∀ v, σ[p.1]? = some (some v) → ∃ u o, RelV v u ∧ h'.get? p.2 = some o ∧ o.data = .cell (some u) := fun p hp => hc p (List.mem_cons_of_mem _ hp)
    split
    · rename_i v hv
      obtain ⟨hn, hge, hcell⟩ := hc (i, c) List.mem_cons_self
      have hn : H' c = none := hn
      have hge : h.objs.size ≤ c := hge
      obtain ⟨uv, o, ru, eo, hd⟩ := hcell v hv
      have eo : h'.get? c = some o := eo
      refine track_ok r (upd H' c (cellO c v)) ndr (fun p hp => ⟨?_, (hcr p hp).2⟩) ⟨u.keep, u.slot, fun b ob e n hx => ?_, u.there, fun b xs e => ?_, fun b ob z e => ?_, fun b ps e => ?_⟩ fun b ob e => ?_
      · have : p.2 ≠ c := fun z => (List.nodup_cons.mp nd).1 (by rw [← z]; exact List.mem_map.mpr ⟨p, hp, rfl⟩)
        rw [upd_ne this]; exact (hcr p hp).1
      · rw [upd_ne (Nat.ne_of_lt (Nat.lt_of_lt_of_le (Heap.lt_size e) hge))]; exact u.free b ob e n hx
      · have z := u.tups b xs e; rw [upd_ne (ne_of_none z hn)]; exact z
      · have z := u.frzs b ob _ e; rw [upd_ne (ne_of_none z hn)]; exact z
      · obtain ⟨more, z⟩ := u.tbls b ps e; exact ⟨more, by rw [upd_ne (ne_of_none z hn)]; exact z⟩
      · by_cases hb : b = c
        · subst hb
          rw [upd_same] at e; cases e
          refine ⟨⟨uv, o, ru, eo, hd⟩, ⟨o, eo⟩, ?_⟩
          rintro h1 h2 ⟨u', o', r', e', d'⟩ k
          exact ⟨u', o', r', k _ e', d'⟩
        · rw [upd_ne hb] at e
          exact (ok b ob e).stay (fun a q _ z => z) (fun a q => by rw [upd_ne (ne_of_none q hn)]; exact q) fun a xs q => by rw [upd_ne (ne_of_none q hn)]; exact q
    · exact track_ok r H' ndr hcr u ok
theorem Fun.okM {P : Program} {w : World} {K : PySem.W.Frag} {mg : Str → Option Value} {base : Heap} {x qual : Str} {st : Stmt} {f c0 : Addr} {fd : FuncData} {N ps : List Str} {k : Nat} {sp : Sp} {caps : Nat → List (Nat × Addr)} (F : Fun K x qual st f fd) (hcd : fd.code = .ref c0) (S : FnScope N ps (defScope st)) (len : ∀ vs H Q E, sp vs H Q E → vs.length = ps.length)
    (hcaps : ∀ (L : Nat) (p : Nat × Addr), p ∈ caps L → ∃ y, N[p.1]? = some y ∧ (defScope st).names.lookup y = some .cell ∧ (cellsFrom (L + 1) (defScope st).names []).lookup y = some p.2) (hnd : ∀ L, ((caps L).map (·.2)).Nodup)
    (hbody : ∀ (A : Around) (outer : List Env) (s : Shared) (H : Hp) (vs : List V) (Q : VK) (E : XK), Room k (A.deeper (envOfC qual (defScope st) s.heap.objs.size f (.ref c0))) → sp vs H Q E →
      ∃ t, QMs (cxOf (CX1 P w) P w K mg base N qual (defScope st) f (.ref c0) A outer s H E) (defBody st) t ∧ t { nx := fun σ H' => (∀ p ∈ caps s.heap.objs.size, H' p.2 = none) → Q .non (trackC (caps s.heap.objs.size) σ H'), rt := fun σ v H' => (∀ p ∈ caps s.heap.objs.size, H' p.2 = none) → Q v (trackC (caps s.heap.objs.size) σ H') } (start N vs) H) : FnOk P w K mg base (CX1 P w) (k + 1) f fd ps sp := by
  obtain ⟨oc, od, kV, doc, pm, an, cdv, ct, osl, rfl, lk, hcd'⟩ := F.ex
  obtain rfl : cdv = .ref c0 := hcd
  refine ⟨len, fun A outer s H args us vs Q E hr e0 hb r hsp => ?_⟩
  have hl := len _ _ _ _ hsp
  have KX : K.In s.heap := e0.mod.kin.keeps fun b o e => (e0.bs b o e).1
  have lim : s.heap.NoLimit := e0.mod.nolimit.keeps fun b o e => (e0.bs b o e).1
  have hkind : ∀ y ∈ ps.zip us, (defScope st).names.lookup y.1 = some .local ∨ ((defScope st).names.lookup y.1 = some .cell ∧ ((cellsFrom (s.heap.objs.size + 1) (defScope st).names []).lookup y.1).isSome = true) := fun ⟨n, v⟩ hy => by
    rcases S.par n (List.of_mem_zip hy).1 with q | q
    · exact .inl q
    · exact .inr ⟨q, PySem.W.cellsFrom_some _ _ _ (.inl q)⟩
  refine codeAny_call_function hr.depth (KX _ _ lk) rfl S.co S.gen rfl (PySem.W.codeRec_of KX hcd') (hb _ _ _ _ ?_)
  refine wpAny_newFunctionEnv_cells S.kind hkind fun env he s1 x => ?_
  subst he
  refine ⟨lim.keeps x.toInCall.keep, codeAny_func ?_⟩
  obtain ⟨t, ht, hq⟩ := hbody A outer s H vs Q E (hr.deeper _) hsp
  have I : Inv (cxOf (CX1 P w) P w K mg base N qual (defScope st) f (.ref c0) A outer s H E) [] (start N vs) H s1 := inv_start S hr.hd e0 hl r x
  refine wpAny_mono (ht.out [] s1 (start N vs) H _ I hq) (fun fl s' hs => ?_) fun e s' hs => hs
  have fin : ∀ {σ' : St} {H' : Hp} {v : V} {u : Value}, Inv (cxOf (CX1 P w) P w K mg base N qual (defScope st) f (.ref c0) A outer s H E) [] σ' H' s' → RelV v u → ((∀ p ∈ caps s.heap.objs.size, H' p.2 = none) → Q v (trackC (caps s.heap.objs.size) σ' H')) → CE outer P w H s Q u s' :=
    fun {σ' H' v u} J rv q => by
      have free : ∀ p ∈ caps s.heap.objs.size, H' p.2 = none := fun p hp => by
        obtain ⟨y, _, _, hc⟩ := hcaps _ p hp
        exact J.freeC y p.2 hc
      have hcond : ∀ p ∈ caps s.heap.objs.size, H' p.2 = none ∧ s.heap.objs.size ≤ p.2 ∧ ∀ v, σ'[p.1]? = some (some v) → ∃ u o, RelV v u ∧ s'.heap.get? p.2 = some o ∧ o.data = .cell (some u) := fun p hp => by
        obtain ⟨y, hy, hk, hc⟩ := hcaps _ p hp
        refine ⟨free p hp, J.ok.cab y p.2 rfl hc, fun v hv => ?_⟩
        obtain ⟨m, _, hloc⟩ := J.loc
        obtain ⟨u', r', lk'⟩ := hloc p.1 y v hy hv (.inr (.inl hk))
        rcases lk' with ⟨z, _⟩ | ⟨_, c, ec, o, eo, hd⟩
        · have z : (defScope st).names.lookup y = some .local := z
          rw [hk] at z; cases z
        · have ec : (cellsFrom (s.heap.objs.size + 1) (defScope st).names []).lookup y = some c := ec
          rw [hc] at ec; cases ec
          exact ⟨u', o, r', eo, hd⟩
      obtain ⟨un, ok⟩ := track_ok (P := P) (w := w) (σ := σ') (caps s.heap.objs.size) H' (hnd _) hcond J.base J.hok
      exact ⟨v, _, J.os, J.bare, un, ok, rv, q free⟩
  cases fl with
  | ret u =>
    obtain ⟨v, σ', H', J, rv, q⟩ := hs
    exact fin J rv q
  | next =>
    obtain ⟨σ', H', J, q⟩ := hs
    exact fin (v := V.non) (u := Value.none) J rfl q
  | brk => exact False.elim hs
  | cont => exact False.elim hs
end L2
namespace L2
open PySem PySem.Spec PyProof.Rows
theorem law_callT {P : Program} {w : World} {K : PySem.W.Frag} {mg mb : Str → Option Value} {CX : CXT} {k : Nat} {fa a : Addr} {fd : FuncData} {x : Str} {sp : Sp} {s₁ : Shared} {vs : List Value} {ns : List Int} {tabs : List (Addr × Addr)}
    (KX : K.In s₁.heap) (hns : s₁.heap.Ns mainGlobals mg) (hb : s₁.heap.Ns builtinsNs mb) (hbb : ∀ x : Str, x ≠ "__name__" → mb x = bootBuiltins x) (hlim : s₁.heap.NoLimit) (hg : s₁.gens = #[]) (hB : BM mg s₁.heap)
    (hT : ∀ q ∈ tabs, PySem.W.CodeHd s₁.heap q.1 q.2 ∧ s₁.heap.get? q.2 = some (PySem.W.tabObj #[])) (hKT : PySem.W.noTabs K = true)
    (ha : s₁.heap.get? a = some { cls := .type "list", data := .seq vs.toArray }) (hi : IntsAre vs ns) (hl : ns.length ≤ sizeLine) (hr : Room k callerA)
    (F : ∀ base : Heap, K.In base → base.Ns mainGlobals mg → BM mg base → (∀ q ∈ tabs, PySem.W.CodeHd base q.1 q.2) → FnOk P w K mg base CX k fa fd [x] sp) (hbind : ∀ (s : Shared) (u : Value), BindsTo s fd ⟨[u], []⟩ [(x, u)])
    (hsp : ∀ H : Hp, (∀ q ∈ tabs, H q.2 = some (.tbl #[])) → SqL K H a (ns.map V.int) → sp [.ref a] H (fun v _ => v = .bl true) fun _ _ _ => False)
    (hCX : ∀ H e s', CX [] H s₁ (fun _ _ _ => False) e s' → False) :
    codeAny (model P w) callerA (.call (.ref fa) ⟨[.ref a], []⟩) (fun r s' => r = .ok (.ret (.bool true)) ∧ OldK s₁.heap s'.heap ∧ s'.os = s₁.os ∧ AllBare s'.gens) s₁ := by
  have rv := vals_ints hi
  have lenV := hi.length
  have tabK : ∀ q ∈ tabs, K.lookup q.2 = none := fun q hq => by
    cases e : K.lookup q.2 with
    | none => rfl
    | some o =>
      have e2 := KX _ _ e
      rw [(hT q hq).2] at e2; cases e2
      have := List.all_eq_true.mp hKT _ (PySem.W.mem_of_lookupK e)
      exact absurd (show false = true from this) Bool.false_ne_true
  have tabA : ∀ q ∈ tabs, q.2 ≠ a := fun q hq e => by
    have e2 := (hT q hq).2
    rw [e, ha] at e2; cases e2
  have core : ∀ H : Hp, (∀ q ∈ tabs, H q.2 = some (.tbl #[])) → SqL K H a (ns.map V.int) → HOk P w H s₁.heap → (∀ b, H b ≠ none → (b = a ∧ ∃ o xs, H b = some (.frz o (.lst xs))) ∨ ∃ q ∈ tabs, q.2 = b) → (∀ b, H b ≠ none → K.lookup b = none) →
      codeAny (model P w) callerA (.call (.ref fa) ⟨[.ref a], []⟩) (fun r s' => r = .ok (.ret (.bool true)) ∧ OldK s₁.heap s'.heap ∧ s'.os = s₁.os ∧ AllBare s'.gens) s₁ := by
    intro H hO hS hok hA hK
    have base_of : ∀ {b : Addr} {o : Obj}, s₁.heap.get? b = some o → H b = none → (hidT s₁.heap H).get? b = some o := fun e n => hidT_get e n
    have noA : ∀ {b : Addr} {o : Obj}, s₁.heap.get? b = some o → o.cls ≠ .none → o.cls ≠ .type "list" → H b = none := fun {b o} e c1 c2 => by
      cases q : H b with
      | none => rfl
      | some u =>
        rcases hA b (by rw [q]; simp) with ⟨rfl, _⟩ | ⟨p, hp, rfl⟩
        · rw [ha] at e; cases e; exact absurd rfl c2
        · rw [(hT p hp).2] at e; cases e; exact absurd rfl c1
    have noD : ∀ {b : Addr} {o : Obj} {es : Array DictEntry} {ep : Nat}, s₁.heap.get? b = some o → o.data = .dict es ep → H b = none := fun {b o es ep} e d => by
      cases q : H b with
      | none => rfl
      | some u =>
        rcases hA b (by rw [q]; simp) with ⟨rfl, _⟩ | ⟨p, hp, rfl⟩
        · rw [ha] at e; cases e; cases d
        · rw [(hT p hp).2] at e; cases e; cases d
    have nsK : ∀ {b : Addr} {m : Str → Option Value}, s₁.heap.Ns b m → (hidT s₁.heap H).Ns b m := fun {b m} ⟨o, es, ep, e, d, r⟩ => ⟨o, es, ep, base_of e (noD e d), d, r⟩
    have hKb : K.In (hidT s₁.heap H) := fun b o e => base_of (KX b o e) (by
      cases q : H b with
      | none => rfl
      | some u => rw [hK b (by rw [q]; simp)] at e; cases e)
    have hBb : BM mg (hidT s₁.heap H) := by
      obtain ⟨bm, ob, b1, b2, b3, b4, b5, b6⟩ := hB
      exact ⟨bm, ob, b1, b2, base_of b3 (noA b3 (by rw [b4]; intro z; cases z) (by rw [b4]; intro z; exact absurd (Value.type.inj z) (by decide))), b4, b5, b6⟩
    have hCb : ∀ q ∈ tabs, PySem.W.CodeHd (hidT s₁.heap H) q.1 q.2 := fun q hq => by
      obtain ⟨o, vs, file, tf, flags, tg, inF, text, tt, e1, e2, r⟩ := (hT q hq).1
      exact ⟨o, vs, file, tf, flags, tg, inF, text, tt, base_of e1 (noA e1 (by rw [e2]; intro z; cases z) (by rw [e2]; intro z; exact absurd (Value.type.inj z) (by decide))), e2, r⟩
    have hM : Mod K mg (hidT s₁.heap H) := ⟨hKb, nsK hns, ⟨mb, nsK hb, hbb⟩, let ⟨mc, h1, h2⟩ := hlim; ⟨mc, nsK h1, h2⟩⟩
    have e0 : Env0 P w K mg (hidT s₁.heap H) callerA [] s₁ H := ⟨rfl, hM, fun b o e => of_hidT e, Nat.le_of_eq (hidT_size _ _), trivial, fun b hb => absurd (show b ∈ ([] : List Addr) from hb) (by simp), hok, .of_eq hg⟩
    refine codeAny_mono ((F _ hKb (nsK hns) hBb hCb).run callerA [] s₁ H ⟨[.ref a], []⟩ [.ref a] [.ref a] _ _ hr e0 (hbind s₁ (.ref a)) (.cons rfl .nil) (hsp H hO hS)) fun r s' h => ?_
    cases r with
    | error e => exact (hCX H e s' h).elim
    | ok fl =>
      cases fl with
      | next => exact False.elim h
      | brk => exact False.elim h
      | cont => exact False.elim h
      | ret u =>
        obtain ⟨v, H', os, bare, un, hok', r', q⟩ := h
        have q' : v = .bl true := q
        subst q'
        obtain rfl : u = Value.bool true := r'
        have all : ∀ b o, s₁.heap.get? b = some o → s'.heap.get? b = some o ∨ ∃ q ∈ tabs, q.2 = b ∧ ∃ more, s'.heap.get? b = some (PySem.W.tabObj more) := fun b o e => by
          cases q : H b with
          | none => exact .inl (un.keep b o e q (by intro z; exact absurd (show b ∈ ([] : List Addr) from z) (by simp)) (by simp))
          | some u =>
            rcases hA b (by rw [q]; simp) with ⟨rfl, ob, xs, z⟩ | ⟨p, hp, rfl⟩
            · have z2 := un.frzs b ob _ z
              obtain ⟨e1, _⟩ := hok b _ z
              obtain ⟨e2, _⟩ := hok' b _ z2
              rw [e] at e1; cases e1
              exact .inl e2
            · obtain ⟨more, z2⟩ := un.tbls p.2 _ (hO p hp)
              exact .inr ⟨p, hp, rfl, _, hok' p.2 _ z2⟩
        refine ⟨rfl, ⟨fun b o e => ?_, fun b o e => ?_⟩, os, bare⟩
        · rcases all b o e with z | ⟨p, hp, rfl, more, z⟩
          · exact .inl z
          · have e2 := (hT p hp).2
            rw [e] at e2; cases e2
            exact .inr (.inl ⟨((hT p hp).1.tab (hT p hp).2).isCodeTable, rfl, #[], more, rfl, by rw [Array.empty_append]; exact z⟩)
        · rcases all b o e with z | ⟨p, hp, rfl, more, z⟩
          · exact ⟨_, z⟩
          · exact ⟨_, z⟩
  cases hk : K.lookup a with
  | some o =>
    have e := KX a o hk
    rw [ha] at e
    cases e
    refine core (fun b => if b ∈ tabs.map (·.2) then some (.tbl #[]) else none) (fun q hq => if_pos (List.mem_map.mpr ⟨q, hq, rfl⟩)) (.inr ⟨_, vs.toArray, _, hk, rfl, rfl, rfl, by rw [List.size_toArray, lenV]; exact hl, by simpa using rv⟩) (fun b u z => ?_) (fun b z => ?_) fun b z => ?_
    · by_cases hb : b ∈ tabs.map (·.2)
      · have z' := (if_pos hb).symm.trans z
        cases z'
        obtain ⟨q, hq, rfl⟩ := List.mem_map.mp hb
        exact (hT q hq).2
      · have z' := (if_neg hb).symm.trans z
        cases z'
    · by_cases hb : b ∈ tabs.map (·.2)
      · obtain ⟨q, hq, e⟩ := List.mem_map.mp hb
        exact .inr ⟨q, hq, e⟩
      · exact absurd (if_neg hb) z
    · by_cases hb : b ∈ tabs.map (·.2)
      · obtain ⟨q, hq, rfl⟩ := List.mem_map.mp hb
        exact tabK q hq
      · exact absurd (if_neg hb) z
  | none =>
    refine core (fun b => if b = a then some (.frz { cls := .type "list", data := .seq vs.toArray } (.lst (ns.map V.int))) else if b ∈ tabs.map (·.2) then some (.tbl #[]) else none)
      (fun q hq => by show (if q.2 = a then _ else _) = _; rw [if_neg (tabA q hq), if_pos (List.mem_map.mpr ⟨q, hq, rfl⟩)]) (.inl (.inr ⟨{ cls := .type "list", data := .seq vs.toArray }, if_pos rfl⟩)) (fun b u z => ?_) (fun b z => ?_) fun b z => ?_
    · by_cases hb : b = a
      · have z' := (if_pos hb).symm.trans z
        cases z'
        subst hb
        exact ⟨ha, by rw [List.length_map]; exact hl, vs, _, rv, ha⟩
      · have z' : (if b ∈ tabs.map (·.2) then some (HO.tbl #[]) else none) = some u := (if_neg hb).symm.trans z
        by_cases hb2 : b ∈ tabs.map (·.2)
        · rw [if_pos hb2] at z'; cases z'
          obtain ⟨q, hq, rfl⟩ := List.mem_map.mp hb2
          exact (hT q hq).2
        · rw [if_neg hb2] at z'; cases z'
    · by_cases hb : b = a
      · exact .inl ⟨hb, _, _, if_pos hb⟩
      · by_cases hb2 : b ∈ tabs.map (·.2)
        · obtain ⟨q, hq, e⟩ := List.mem_map.mp hb2
          exact .inr ⟨q, hq, e⟩
        · exact absurd ((if_neg hb).trans (if_neg hb2)) z
    · by_cases hb : b = a
      · rw [hb]; exact hk
      · by_cases hb2 : b ∈ tabs.map (·.2)
        · obtain ⟨q, hq, rfl⟩ := List.mem_map.mp hb2
          exact tabK q hq
        · exact absurd ((if_neg hb).trans (if_neg hb2)) z
theorem walk_ofT {l : PySem.W.OpenLaw} {n k : Nat} {q : Program} {loose : List Str} {XP : (Str → Option Value) → Heap → Prop} {YP : World → Heap → Prop} {d : DefRec} {K : Params → PySem.W.Frag} {CX : World → CXT} {x : Str} {names : List Str}
  (hn : l.most = some n) (hn2 : n ≤ sizeLine) (hdf : d.params.defaults = []) (hr : Room k callerA)
  (hY : ∀ (w : World) (h : Heap), YP w h → (K w.params).In h)
  (hq : ∀ y ∈ names, ((PyProof.Rows.recsOf q).find? fun e => e.name == y).isSome = true)
  (F : ∀ (w : World) (mg : Str → Option Value) (fa : Addr) (h : Heap), (K w.params).In h → h.Ns mainGlobals mg → mg d.name = some (.ref fa) →
   ∃ (fd : FuncData) (tabs : List (Addr × Addr)) (sp : Sp), (∀ (s : Shared) (u : Value), BindsTo s fd ⟨[u], []⟩ [(x, u)]) ∧ PySem.W.noTabs (K w.params) = true ∧ (∀ t ∈ tabs, ∃ y ∈ names, PySem.W.tabIn (K w.params) y = some t) ∧
    (∀ base : Heap, (K w.params).In base → base.Ns mainGlobals mg → BM mg base → (∀ t ∈ tabs, PySem.W.CodeHd base t.1 t.2) → FnOk l.prog w (K w.params) mg base (CX w) k fa fd [x] sp) ∧
    ∀ (H : Hp) (a : Addr) (ns : List Int), ns.length ≤ n → (∀ t ∈ tabs, H t.2 = some (.tbl #[])) → SqL (K w.params) H a (ns.map V.int) → sp [.ref a] H (fun v _ => v = .bl true) fun _ _ _ => False)
  (hCX : ∀ (w : World) (H : Hp) (s : Shared) (e : Value) (s' : Shared), CX w [] H s (fun _ _ _ => False) e s' → False) :
  PySem.W.WalkO q loose XP YP l.row.toRowW d [] (fun f vs => PySem.call f vs) := by
 refine Att.attach_call hn hdf fun w s₀ s₁ mg mb fa o pm cd doc a vs ns G Y ho hd hcd hmg hobj hints hlen hg => ?_
 have KX := hY w _ Y
 obtain ⟨fd, tabs, sp, hb, hKT, htabs, hF, hsp⟩ := F w mg fa _ KX G.T.g hmg
 refine law_callT (tabs := tabs) KX G.T.g G.T.b G.T.builtins G.T.nolimit hg G.T.bmain (fun t ht => ?_) hKT hobj hints (Nat.le_trans hlen hn2) hr hF hb (fun H hO hS => hsp H a ns hlen hO hS) fun H e s' => hCX w H s₁ e s'
 obtain ⟨y, hy, e⟩ := htabs t ht
 obtain ⟨dd, hdd⟩ := Option.isSome_iff_exists.mp (hq y hy)
 exact PySem.W.tab_of G.T KX hdd e
end L2
namespace L2
open PySem PySem.Spec PyProof.Rows
section
variable {X : Cx}
theorem SPM.unwish {E : Value → Shared → Prop} {pins : List (Addr × Obj)} {D : EndsM} {f : Flow} {s' : Shared} (h : SPM (X.wish E) pins D f s') : SPM X pins D f s' := by
 cases f with
 | next => obtain ⟨σ', H', I, q⟩ := h; exact ⟨σ', H', I.unwish, q⟩
 | brk => exact h
 | cont => exact h
 | ret u => obtain ⟨v, σ', H', I, r, q⟩ := h; exact ⟨v, σ', H', I.unwish, r, q⟩
theorem QMs.nox {st : List Stmt} {t : TSM} (h : QMs X.nox st t) : QMs X st t := ⟨fun pins s σ H D I hw =>
 wpAny_mono (h.out pins s σ H D (I.wish _) hw) (fun _ _ q => SPM.unwish q) fun _ _ z => False.elim z⟩
theorem CloOk.mono {P : Program} {w : World} {K : PySem.W.Frag} {mg : Str → Option Value} {base : Heap} {j k : Nat} {t : CloT} {sp : Sp} (F : CloOk P w K mg base j t sp) (h : j ≤ k) : CloOk P w K mg base k t sp :=
 ⟨fun A outer s H f cs us vs cvs Q E hr => F.run A outer s H f cs us vs cvs Q E (hr.mono h)⟩
def rSetDef : V → List V → Hp → VK → Prop := fun x vs H Q => ∃ a y d r H', x = .ref a ∧ vs = [y, d] ∧ DDef H a y d r H' ∧ Q r H'
theorem mt_setdef (hu : X.A.units + 1 < cLine) : MtR X "dict.setdefault" rSetDef := by
 intro pins s σ H x xs v us Q I rx rs h
 obtain ⟨a, y, d, r, H', rfl, rfl, g, q⟩ := h
 obtain rfl : v = Value.ref a := rx
 obtain ⟨uy, ud, rfl, ry, rd⟩ := vals2 rs
 rcases g with ⟨g, rfl⟩ | ⟨g, p, rfl⟩
 · rcases g with ⟨kvs, k, e, rfl, l⟩ | ⟨kvs, k, b, e, rfl, eb, l⟩
   · obtain ⟨z, hd, vs, rel, dd⟩ := dk_rd I.hok e
     obtain ⟨w', hw, rw'⟩ := RelO.some_of (v := r) (o := valueAt vs k) (by rw [l]; exact rel.val k)
     exact call_meetsIn PySem.F.slot_dict_setdefault dd.typeIs PySem.F.entry_dict_setdefault (PySem.F.args_dict_setdefault_3 _ _ _) (kt_meets_setdefault (mixKind X.prog X.w) a (kV_is ry) hd ud)
       ⟨vs, dd, by rw [← rel.length]; exact z, (fun v' hv' => by rw [hw] at hv'; cases hv'; exact ⟨r, H', I.tok _, rw', q⟩), (fun hn => by rw [hw] at hn; cases hn)⟩
   · cases (show uy = Value.ref b from ry)
     obtain ⟨z, hd, xs, rel, dd⟩ := dt_rd I.hok e
     obtain ⟨w', hw, rw'⟩ := RelO.some_of (v := r) (o := (atKey xs k).map (·.2)) (by rw [l]; exact rel.val k)
     obtain ⟨pp, hp, hp2⟩ := Option.map_eq_some_iff.mp hw
     refine wpAny_call_entry PySem.F.slot_dict_setdefault dd.typeIs PySem.F.entry_dict_setdefault ?_ (PySem.F.args_dict_setdefault_3 _ _ _)
     unfold Builtin.«dict.setdefault»
     refine wpAny_bind ?_
     unfold Builtin.Dict.keyAndDefault
     refine wpAny_bind (wpAny_notOrdered_dict dd.typeIs ?_)
     show wpAny _ _ (pure (a, Value.ref b, some ud)) _ _ s
     refine wpAny_pure ?_
     show wpAny _ _ (if (a == sysModules) = true then _ else (dictSetDefault a (.ref b) ud >>= _)) _ _ s
     rw [if_neg (by rw [hd]; exact Bool.false_ne_true)]
     refine wpAny_bind (dictSetDefault_heap (tupleKind_room_in1 hu) (key_of I.hok eb) dd (fun p' hp' => ?_) (fun hn => ?_) (by rw [← Paired.length rel]; exact z))
     · rw [hp] at hp'; cases hp'
       exact wpAny_pure ⟨_, rfl, ⟨r, H', I.tok _, by rw [hp2]; exact rw', q⟩⟩
     · rw [hp] at hn; cases hn
 · rcases g with ⟨kvs, k, e, rfl, l⟩ | ⟨kvs, k, b, e, rfl, eb, l⟩
   · rcases p with ⟨kvs', k', e', ey, lz, rfl⟩ | ⟨kvs', k', b', e', ey, _⟩
     · have ek : k = k' := by cases k <;> cases k' <;> first | (cases ey; rfl) | cases ey
       subst ek
       obtain ⟨z, hd, vs, rel, dd⟩ := dk_of I.hok e'
       have ee : kvs = kvs' := by
         rcases e with e | ⟨o, e⟩
         · rw [e'] at e; cases e; rfl
         · rw [e'] at e; cases e
       subst ee
       have hn : valueAt vs k = none := RelO.none_of (by rw [l]; exact rel.val k)
       refine call_meetsIn PySem.F.slot_dict_setdefault dd.typeIs PySem.F.entry_dict_setdefault (PySem.F.args_dict_setdefault_3 _ _ _) (kt_meets_setdefault (mixKind X.prog X.w) a (kV_is ry) hd ud)
         ⟨vs, dd, by rw [← rel.length]; exact z, (fun v' hv' => by rw [hn] at hv'; cases hv'), fun _ h' dd' hs => ?_⟩
       have he : ∃ q, h'.get? a = some q := let ⟨q, _, _, hq, _⟩ := dd'; ⟨q, hq⟩
       have hl : (putK kvs k r).length ≤ sizeLine := by have := length_putK kvs k r; omega
       exact ⟨r, _, d_write I (by rw [e']; exact True.intro) hs he (dk_new hl hd (rel.put k rd) dd'), rd, q⟩
     · cases k <;> cases ey
   · rcases p with ⟨kvs', k', e', ey, _⟩ | ⟨kvs', k', b', e', ey, eb', lz, rfl⟩
     · cases k' <;> cases ey
     · cases ey
       have ek : k = k' := kVs_inj (HO.tup.inj (Option.some.inj (eb.symm.trans eb')))
       subst ek
       cases (show uy = Value.ref b from ry)
       obtain ⟨z, hd, xs, rel, dd⟩ := dt_of I.hok e'
       have ee : kvs = kvs' := by
         rcases e with e | ⟨o, e⟩
         · rw [e'] at e; cases e; rfl
         · rw [e'] at e; cases e
       subst ee
       have hn : atKey xs k = none := by
         have := RelO.none_of (o := (atKey xs k).map (·.2)) (by rw [l]; exact rel.val k)
         exact Option.map_eq_none_iff.mp this
       refine wpAny_call_entry PySem.F.slot_dict_setdefault dd.typeIs PySem.F.entry_dict_setdefault ?_ (PySem.F.args_dict_setdefault_3 _ _ _)
       unfold Builtin.«dict.setdefault»
       refine wpAny_bind ?_
       unfold Builtin.Dict.keyAndDefault
       refine wpAny_bind (wpAny_notOrdered_dict dd.typeIs ?_)
       show wpAny _ _ (pure (a, Value.ref b, some ud)) _ _ s
       refine wpAny_pure ?_
       show wpAny _ _ (if (a == sysModules) = true then _ else (dictSetDefault a (.ref b) ud >>= _)) _ _ s
       rw [if_neg (by rw [hd]; exact Bool.false_ne_true)]
       refine wpAny_bind (dictSetDefault_heap (tupleKind_room_in1 hu) (key_of I.hok eb) dd (fun p' hp' => ?_) (fun _ h' dd' hs => ?_) (by rw [← Paired.length rel]; exact z))
       · rw [hn] at hp'; cases hp'
       · obtain ⟨q', es, ep, hq, h2, h3, h4, _, h5⟩ := dd'
         have hl : (putK kvs k r).length ≤ sizeLine := by have := length_putK kvs k r; omega
         refine wpAny_pure ⟨_, rfl, ⟨r, _, d_write (ob := .dT (putK kvs k r)) I (by rw [e']; exact True.intro) hs ⟨q', hq⟩ ⟨hl, hd, _, (rel.put k eb rd).keeps fun c ys ec => ?_, q', es, ep, hq, h2, h3, h4, h5⟩, rd, q⟩⟩
         rw [upd_ne (ne_of ec e' (fun z => nomatch z))]
         exact ec
def Its (z : Str) : It := ⟨fun i _ => i < z.length, fun i H x H' => H' = H ∧ ∃ c, z.cps[i]? = some c ∧ x = .str ⟨#[c]⟩, fun i _ => z.length ≤ i⟩
theorem turn_str {P : Program} {w : World} {K : PySem.W.Frag} {tg : Expr} (z : Str) (t : Tok) (it : Addr) : Turn P w K tg (Its z) [it] it (fun i h => h.IsStrIter it "str_ascii_iterator" z t i) where
 mem := by simp
 obj := fun i h st b hb => by
  have e : b = it := by simpa using hb
  subst e
  obtain ⟨o, e, c, d⟩ := st
  exact ⟨o, e, fun v z => by rw [d] at z; cases z⟩
 keep := fun i h h' st k => let ⟨o, ho, r⟩ := st; ⟨o, k it (by simp) o ho, r⟩
 item := by
  intro X hP hw hK hc i pins s σ H E I hf st hg
  subst hP hw hK
  obtain ⟨f0, f1, f2, f3, f4, f5⟩ := hf it (by simp)
  have hi : i < z.cps.size := hg
  refine wpAny_pyNext_ascii_item st (c := z.cps[i]) (Array.getElem?_eq_getElem hi) fun h' st' sb => ?_
  have I1 : Inv X pins σ H { s with heap := h', toks := s.toks + 1 } := I.turned (t' := s.toks + 1) (fun b o hb e => (sb.2 b hb).trans e) f0 f1 f3 f4 f5
  obtain ⟨o, e, c, d⟩ := id st'
  exact ⟨_, rfl, go_of (s := { s with heap := h', toks := s.toks + 1 }) e c d (by decide) ⟨.str ⟨#[z.cps[i]]⟩, H, I1, ⟨_, rfl⟩, ⟨rfl, _, Array.getElem?_eq_getElem hi, rfl⟩, st', fun b hb => (hf b hb).1⟩⟩
 done := by
  intro X hP hw hK hc i pins s σ H E I hf st hg
  subst hP hw hK
  obtain ⟨f0, f1, f2, f3, f4, f5⟩ := hf it (by simp)
  exact wpAny_pyNext_ascii_end (I.ok.hd hc) st (Array.getElem?_eq_none (show z.cps.size ≤ i from hg)) fun h' eb => ⟨rfl, I.turned (t' := s.toks) (fun b o hb e => eb b o hb e) f0 f1 f3 f4 f5⟩
 self := fun A i s Q E st h => by
  refine wpAny_pyIter_slot st.typeIs F.slot_str_ascii_iterator_iter (wpAny_call_entry F.slot_str_ascii_iterator_iter st.typeIs F.entry_str_ascii_iterator_iter ?_ (F.args_str_ascii_iterator_iter_1 _))
  show wpAny _ _ (ret (.ref it)) _ _ s
  exact wpAny_pure ⟨_, rfl, "str_ascii_iterator", _, st.typeIs, F.slot_str_ascii_iterator_next.lookup, h⟩
variable {a : Expr} {ta : TE} {tg : Expr}
def iSeqA (K : PySem.W.Frag) (tl : TE) : TI := fun σ H R => tl σ H fun x H1 => match x with
 | .str z => z.cps.all (· < 128) = true ∧ R (Its z) H1
 | x => ∃ a, x = .ref a ∧ (((∃ xs, SqL K H1 a xs) ∧ R (Itl K a) H1) ∨ ((∃ xs, SqT K H1 a xs) ∧ R (Itt K a) H1))
theorem x_seqA (h : QE X a ta) : QI X tg a (iSeqA X.K ta) := ⟨fun pins s σ H R I hw => by
  refine thn (h.out pins s σ H _ I hw) fun v s1 ⟨x, H1, I1, r1, q1⟩ => ?_
  cases x with
  | str z =>
    obtain ⟨t, rfl⟩ := r1
    refine wpAny_pyIter_ascii q1.1 ?_
    refine ⟨s1.heap.objs.size, [s1.heap.objs.size], _, _, H1, rfl, I1.kept (t' := s1.toks) fun b o e => Heap.get?_push_of_some _ e, turn_str z t _, ⟨_, Heap.get?_push_size _ rfl, rfl, rfl⟩, fun b hb => ?_, q1.2⟩
    have e : b = s1.heap.objs.size := by simpa using hb
    subst e
    exact I1.fpOk (Nat.le_refl _) (I1.hok.fresh (Nat.le_refl _))
  | ref c =>
    obtain ⟨a, e, q⟩ := q1
    cases e
    cases r1
    rcases q with ⟨⟨xs, hq⟩, q⟩ | ⟨⟨xs, hq⟩, q⟩
    · obtain ⟨its, rv, p, hz⟩ := I1.list hq
      refine wpAny_pyIter_list (plain_is p) ?_
      refine ⟨s1.heap.objs.size, [s1.heap.objs.size], _, _, H1, rfl, I1.kept (t' := s1.toks) fun b o e => Heap.get?_push_of_some _ e, turn_list _ _, ⟨_, Heap.get?_push_size _ rfl, rfl, rfl⟩, fun b hb => ?_, q⟩
      have e : b = s1.heap.objs.size := by simpa using hb
      subst e
      exact I1.fpOk (Nat.le_refl _) (I1.hok.fresh (Nat.le_refl _))
    · obtain ⟨its, rv, p, hz⟩ := I1.tuple hq
      refine wpAny_pyIter_tuple (show s1.heap.IsTuple c its.toArray from p) ?_
      refine ⟨s1.heap.objs.size, [s1.heap.objs.size], _, _, H1, rfl, I1.kept (t' := s1.toks) fun b o e => Heap.get?_push_of_some _ e, turn_tuple _ _, ⟨_, Heap.get?_push_size _ rfl, rfl, rfl⟩, fun b hb => ?_, q⟩
      have e : b = s1.heap.objs.size := by simpa using hb
      subst e
      exact I1.fpOk (Nat.le_refl _) (I1.hok.fresh (Nat.le_refl _))
  | _ => obtain ⟨_, e, _⟩ := q1; cases e⟩
theorem op_mulS : OpR X (binaryOp .Mult) (fun x y H Q => ∃ z n, x = .str z ∧ y = .int n ∧ (-1000 ≤ n ∧ n ≤ 1000 ∧ z.length ≤ 1000) ∧ Q (.str (Txt.mul z n)) H) := by
 intro pins s σ H x y v u Q I rx ry h
 obtain ⟨z, n, rfl, rfl, ⟨h1, h2, h3⟩, q⟩ := h
 obtain ⟨t, rfl⟩ := rx
 obtain ⟨t', rfl⟩ := ry
 refine SB.mul ⟨?_, fun hn _ => ?_, fun hn _ => ?_⟩ fun t' k => ⟨.str _, H, I.tok k, ⟨_, rfl⟩, q⟩
 · rw [decide_eq_false (by omega), decide_eq_false (by omega)]; rfl
 · intro hgt
   have h5 : (1000 : Int) ≤ (2 ^ 63 - 1) / n := Int.le_ediv_of_mul_le (by omega) (by omega)
   omega
 · have h6 : z.length * n.toNat ≤ 1000 * 1000 := Nat.mul_le_mul h3 (by omega)
   exact decide_eq_false (by rw [sizeLine_eq]; omega)
end
end L2
namespace L2
open PySem PySem.Spec PyProof.Rows
theorem for_by {J : It} {n : Nat} {it : Nat → V} {Pk : Hp → Prop} {g : TG} {tb : TS} {D : Ends} {σ : St} {H : Hp} (T : Items J n it Pk) (Pv : Nat → St → Hp → Prop) (h0 : Pv 0 σ H) (hl : ∀ i σ H, i ≤ n → Pv i σ H → Pk H)
   (hs : ∀ i σ H, i < n → Pv i σ H → g (it i) σ H fun σ2 H2 => tb { D with nx := Pv (i + 1), ct := Pv (i + 1), bk := D.nx } σ2 H2) (hd : ∀ σ H, Pv n σ H → D.nx σ H) :
   ∃ W : Nat → Nat → St → Hp → Prop, (∃ m, W 0 m σ H) ∧ ∀ i m σ H, W i m σ H →
    (J.stop i H ∧ D.nx σ H) ∨ (J.go i H ∧ ∃ N : St → Hp → Prop, (∀ σ' H', N σ' H' → ∃ m', m' < m ∧ W (i + 1) m' σ' H') ∧ ∀ x H', J.yld i H x H' → g x σ H' fun σ2 H2 => tb { D with nx := N, ct := N, bk := D.nx } σ2 H2) := by
 refine ⟨fun i m σ H => m = n - i ∧ i ≤ n ∧ Pv i σ H, ⟨n, by simp, Nat.zero_le _, h0⟩, ?_⟩
 rintro i m σ H ⟨rfl, hi, p⟩
 have q := hl i σ H hi p
 by_cases hlt : i < n
 · refine .inr ⟨T.go i H hlt q, Pv (i + 1), fun σ' H' p' => ⟨n - (i + 1), by omega, rfl, hlt, p'⟩, fun x H' y => ?_⟩
   obtain ⟨rfl, rfl⟩ := T.yld i H x H' hlt q y
   exact hs i σ _ hlt p
 · have e : i = n := by omega
   subst e
   exact .inl ⟨T.stop H q, hd σ H p⟩
theorem map_get {α β : Type} {f : α → β} {l : List α} {i : Nat} {x : β} (h : (l.map f)[i]? = some x) : ∃ a, l[i]? = some a ∧ x = f a := by
 rw [List.getElem?_map] at h
 cases e : l[i]? with
 | none => rw [e] at h; cases h
 | some a => rw [e] at h; cases h; exact ⟨a, rfl, rfl⟩
theorem CloAt.keep {H H' : Hp} {f : Addr} {t : CloT} {cs : List Addr} {cvs : List V} (k : ∀ b φ, H b = some (.ext φ) → H' b = some (.ext φ)) (c : CloAt H f t cs cvs) : CloAt H' f t cs cvs := by
 obtain ⟨⟨a, h1, h2⟩, h3⟩ := c
 refine ⟨⟨a, k _ _ h1, k _ _ h2⟩, ?_⟩
 clear h1 h2
 induction h3 with
 | nil => exact .nil
 | cons r t ih => exact .cons (k _ _ r) ih
theorem plain_kVs (k : List Key) : (k.map kV).all plainP = true := by
 rw [List.all_map, List.all_eq_true]
 intro x _
 cases x <;> rfl
def dKey : Key → PyData
 | .inl i => .int i
 | .inr z => .str z
theorem datVs_keys {K : PySem.W.Frag} {H : Hp} : ∀ k : List Key, DatVs K H (k.map kV) (k.map dKey)
 | [] => .nil
 | .inl i :: r => .cons (.int i) (datVs_keys r)
 | .inr z :: r => .cons (.str z) (datVs_keys r)
theorem datV_tup {K : PySem.W.Frag} {H : Hp} {a : Addr} {k : List Key} (h : H a = some (.tup (k.map kV))) : DatV K H (.ref a) (.tuple (k.map dKey)) := .tup (SqT.of h) (datVs_keys k)
theorem eqvAll_keys : ∀ k l : List Key, PyData.eqvAll (k.map dKey) (l.map dKey) = decide (k = l)
  | [], [] => by rfl
  | [], _ :: _ => by rw [decide_eq_false (by simp)]; rfl
  | _ :: _, [] => by rw [decide_eq_false (by simp)]; rfl
  | a :: r, b :: s => by
    show ((dKey a).eqv (dKey b) && PyData.eqvAll (r.map dKey) (s.map dKey)) = _
    rw [eqvAll_keys r s]
    have e : (dKey a).eqv (dKey b) = decide (a = b) := by
      cases a <;> cases b
      · rename_i i j
        show decide (i = j) = decide (Sum.inl i = Sum.inl j)
        simp
      · show false = _; simp
      · show false = _; simp
      · rename_i i j
        show (i == j) = decide ((Sum.inr i : Key) = Sum.inr j)
        by_cases h : i = j <;> simp [h]
    rw [e]
    by_cases h1 : a = b <;> by_cases h2 : r = s <;> simp [h1, h2]
def keyStr : Key → Bool
 | .inl _ => true
 | .inr z => PyData.strOk z
theorem canLay_keys : ∀ {k : List Key}, k.all keyStr = true → PyData.canLayAll0 (k.map dKey) = true
  | [], _ => rfl
  | .inl i :: r, h => canLay_keys (k := r) (by rw [List.all_cons] at h; exact h)
  | .inr z :: r, h => by
    rw [List.all_cons, Bool.and_eq_true] at h
    show (PyData.strOk z && PyData.canLayAll0 (r.map dKey)) = true
    rw [show PyData.strOk z = true from h.1, canLay_keys h.2]; rfl
theorem depth_keys : ∀ k : List Key, PyData.depthAll (k.map dKey) = 0
 | [] => rfl
 | .inl i :: r => by show max 0 (PyData.depthAll (r.map dKey)) = 0; rw [depth_keys r]; rfl
 | .inr i :: r => by show max 0 (PyData.depthAll (r.map dKey)) = 0; rw [depth_keys r]; rfl
theorem ixL {K : PySem.W.Frag} {H : Hp} {Q : VK} {L : Addr} {xs : List V} {x : V} {i : Int} {j : Nat} (hL : H L = some (.lst xs)) (e : i = j) (hx : xs[j]? = some x) (q : Q x H) : rIxA K (.ref L) (.int i) H Q := by
 subst e
 refine .inl (.inl ⟨L, xs, j, x, rfl, rfl, SqL.of hL, ?_, q⟩)
 have hj := (List.getElem?_eq_some_iff.mp hx).1
 rw [atI_lt (by omega) (by omega)]
 simp [List.getD_eq_getElem?_getD, hx]
theorem tc1 {i : Nat} {σ : St} {x : V} {H : Hp} {R : List V → Hp → Prop} (e : σ[i]? = some (some x)) (h : R [x] H) : tCons (mVar i) tNil σ H R := by
 unfold tCons tNil mVar
 rw [e]; exact h
theorem depT (k : List Key) : (PyData.tuple (k.map dKey)).depth ≤ 150 := by show PyData.depthAll (k.map dKey) + 1 ≤ 150; rw [depth_keys]; decide
theorem neqv_t {k l : List Key} (h : (!(PyData.tuple (k.map dKey)).eqv (.tuple (l.map dKey))) = true) : k ≠ l := fun e => by
 have h : (!PyData.eqvAll (k.map dKey) (l.map dKey)) = true := h
 rw [eqvAll_keys, decide_eq_true e] at h; cases h
theorem neqv_f {k l : List Key} (h : (!(PyData.tuple (k.map dKey)).eqv (.tuple (l.map dKey))) = false) : k = l := by
 have h : (!PyData.eqvAll (k.map dKey) (l.map dKey)) = false := h
 rw [eqvAll_keys] at h
 simpa using h
def tabsApart (K : PySem.W.Frag) (ns : List Str) : Bool := decide ((ns.map fun n => (PySem.W.tabIn K n).map (·.2)).Nodup)
theorem apart_of {l : List Addr} (h : (l.map some).Nodup) : l.Nodup := List.Pairwise.of_map some (fun a b h e => h (congrArg some e)) h
end L2
namespace HT
open PySem PyProof.Rows
theorem noFill_tuple_mul : fillsNumberSlot (.type "tuple") "mul" = pure false :=
 PySem.fillsNumberSlot_seq (id := "tuple.__mul__") (r := some (.builtin "tuple.__rmul__")) F.slot_tuple_mul.lookup (by decide +kernel) F.slot_tuple_rmul.lookup (by decide +kernel)
theorem repeat_tuple : seqRepeat? (.type "tuple") = pure (some (.builtin "tuple.__mul__")) := by
 unfold seqRepeat?
 rw [PySem.seqSlot_of (T := "tuple") (name := "__mul__") (id := "tuple.__mul__") F.slot_tuple_mul.lookup (by decide +kernel), PySem.seqSlot_of (T := "tuple") (name := "__rmul__") (id := "tuple.__rmul__") F.slot_tuple_rmul.lookup (by decide +kernel)]
 rfl
theorem int_rmul_tuple (a : Int) (t : Tok) (l : Addr) (items : Array Value) (n : Nat) (dd : Option Addr) (sl : Array (Option Value)) :
  Meets (Builtin.«int.__rmul__» ⟨[.int a t, .ref l], []⟩) (fun _ R s => s.heap.get? l = some { cls := .type "tuple", dict := dd, data := .seq items n, slots := sl } ∧ R (.ok (.ret Value.notImplemented)) s) :=
 .of_wp fun prog w A R s h => by obtain ⟨hp, g, d, tk, os⟩ := s; obtain ⟨hl, h⟩ := h; wp_walk; exact ⟨_, rfl, h⟩
theorem tuple_mul1 (l : Addr) (items : Array Value) (n : Nat) (x : Int) (u : Tok) (dd : Option Addr) (sl : Array (Option Value)) (h0 : (decide (x < -(2 ^ 63)) || decide (x ≥ 2 ^ 63)) = false) (h1 : (items.isEmpty || x == 1) = true) :
  Meets (Builtin.«tuple.__mul__» ⟨[.ref l, .int x u], []⟩) (fun _ R s => s.heap.get? l = some { cls := .type "tuple", dict := dd, data := .seq items n, slots := sl } ∧ R (.ok (.ret (.ref l))) s) :=
 .of_wp fun prog w A R s h => by obtain ⟨hp, g, d, tk, os⟩ := s; obtain ⟨hl, h⟩ := h; have f1 := AutoSeq1.idx_int; have f2 := AutoSeq1.sub_tuple_tuple; wp_walk using wpAny_loadPart' hl; refine wpAny_ite_false (decide_eq_false (by rw [h0]; decide)) ?_; wp_walk using wpAny_loadPart' hl; exact ⟨_, rfl, h⟩
theorem tuple_mulN (l : Addr) (items : Array Value) (n : Nat) (x : Int) (u : Tok) (dd : Option Addr) (sl : Array (Option Value)) (h0 : (decide (x < -(2 ^ 63)) || decide (x ≥ 2 ^ 63)) = false) (h1 : (items.isEmpty || x == 1) = false)
  (h2 : (decide (x ≤ 0) || items.isEmpty) = false) (h3 : ¬ ((items.size : Int) * x > (2 ^ 63 - 1) / 8)) (h4 : ¬ Builtin.Tuple.tupleTooMany (items.size * x) = true) (h5 : (List.foldl (fun x1 x2 => x1 ++ x2) #[] (List.replicate x.toNat items)).size ≤ sizeLine) :
  Meets (Builtin.«tuple.__mul__» ⟨[.ref l, .int x u], []⟩) (fun _ R s => s.heap.get? l = some { cls := .type "tuple", dict := dd, data := .seq items n, slots := sl } ∧ R (.ok (.ret (Value.ref s.heap.objs.size))) { s with heap := s.heap.push { cls := Value.type "tuple", data := Data.seq (List.foldl (fun x1 x2 => x1 ++ x2) #[] (List.replicate x.toNat items)) }, toks := s.toks }) :=
 .of_wp fun prog w A R s h => by obtain ⟨hp, g, d, tk, os⟩ := s; obtain ⟨hl, h⟩ := h; have f1 := AutoSeq1.idx_int; have f2 := AutoSeq1.sub_tuple_tuple; wp_walk using wpAny_loadPart' hl; refine wpAny_ite_false (decide_eq_false (by rw [h0]; decide)) ?_; wp_walk using wpAny_loadPart' hl; refine wpAny_ite_false (decide_eq_false h3) ?_; wp_walk using wpAny_loadPart' hl; exact ⟨_, rfl, h⟩
end HT
namespace L2
open PySem PySem.Spec PyProof.Rows
section
variable {X : Cx}
def rRepT : R2 := fun x y H Q => ∃ a k xs, x = .ref a ∧ y = .int k ∧ H a = some (.tup xs) ∧ xs ≠ [] ∧ 1 ≤ k ∧ k ≤ 1000 ∧ xs.length ≤ 1000 ∧ ∀ p H', Same H H' → H' p = some (.tup (List.replicate k.toNat xs).flatten) → Q (.ref p) H'
theorem op_repT : OpR X (binaryOp .Mult) rRepT := by
 intro pins s σ H x y v u Q I rx ry h
 obtain ⟨a, k, xs, rfl, rfl, ha, hne, k1, k2, hl, q⟩ := h
 cases rx
 obtain ⟨t, rfl⟩ := ry
 obtain ⟨its, r, p1, hz⟩ := I.tuple (.inl (.inl ha))
 have hlen : its.length = xs.length := r.length.symm
 have hits : its ≠ [] := fun z => hne (r.nil_iff.mp z)
 obtain ⟨⟨cls, dd, data, sl⟩, ho, hc, n, hd⟩ := id p1
 simp only at hc hd
 subst hc hd
 have h0 : (decide (k < -(2 ^ 63)) || decide (k ≥ 2 ^ 63)) = false := by rw [decide_eq_false (by omega), decide_eq_false (by omega)]; rfl
 have hemp : its.toArray.isEmpty = false := by cases its with | nil => exact (hits rfl).elim | cons _ _ => rfl
 by_cases e : k = 1
 · subst e
   refine PySem.wpAny_binaryOp_repeat_ref (T := "tuple") (U := "int") (by decide) ⟨_, ho, rfl⟩ (fun s' => typeIs_int s' 1 t) HT.noFill_tuple_mul F.fills_int_mul F.slot_int_rmul HT.repeat_tuple F.slot_int_index.lookup
     (call_meets F.slot_int_rmul (typeIs_int s 1 t) F.entry_int_rmul (F.args_int_rmul_2 _ _) (HT.int_rmul_tuple 1 t a its.toArray n dd sl)
      ⟨ho, rfl, ⟨_, ho, rfl⟩, call_meets F.slot_tuple_mul ⟨_, ho, rfl⟩ F.entry_tuple_mul (F.args_tuple_mul_2 _ _) (HT.tuple_mul1 a its.toArray n 1 t dd sl h0 (by rw [hemp]; rfl)) ⟨ho, ?_⟩⟩)
   exact ⟨.ref a, H, I, rfl, q a H Same.rfl' (by rw [ha]; simp)⟩
 · have hsz : its.length * k.toNat ≤ 1000000 := Nat.le_trans (Nat.mul_le_mul (by omega : its.length ≤ 1000) (by omega : k.toNat ≤ 1000)) (by decide)
   have hszI : ((its.toArray.size : Nat) : Int) * k ≤ 1000000 := by
     have e1 : ((its.length * k.toNat : Nat) : Int) = (its.length : Int) * k := by rw [Int.natCast_mul, Int.toNat_of_nonneg (by omega)]
     rw [List.size_toArray, ← e1]; omega
   have hnew : List.foldl (fun x1 x2 => x1 ++ x2) #[] (List.replicate k.toNat its.toArray) = (List.replicate k.toNat its).flatten.toArray := by
     have := foldl_rep its k.toNat []
     rw [List.nil_append] at this
     exact this
   refine PySem.wpAny_binaryOp_repeat_ref (T := "tuple") (U := "int") (by decide) ⟨_, ho, rfl⟩ (fun s' => typeIs_int s' k t) HT.noFill_tuple_mul F.fills_int_mul F.slot_int_rmul HT.repeat_tuple F.slot_int_index.lookup
     (call_meets F.slot_int_rmul (typeIs_int s k t) F.entry_int_rmul (F.args_int_rmul_2 _ _) (HT.int_rmul_tuple k t a its.toArray n dd sl)
      ⟨ho, rfl, ⟨_, ho, rfl⟩, call_meets F.slot_tuple_mul ⟨_, ho, rfl⟩ F.entry_tuple_mul (F.args_tuple_mul_2 _ _) (HT.tuple_mulN a its.toArray n k t dd sl h0 (by rw [hemp]; simp [e]) (by rw [hemp, decide_eq_false (by omega)]; rfl) (by omega) ?_ ?_) ⟨ho, ?_⟩⟩)
   · unfold Builtin.Tuple.tupleTooMany
     rw [sizeLine_eq]
     simp only [gt_iff_lt, decide_eq_true_eq]
     omega
   · rw [hnew, List.size_toArray, len_rep, Nat.mul_comm]
     exact line_ge hsz
   · rw [hnew]
     refine ⟨.ref s.heap.objs.size, _, I.laid (t' := s.toks) (o := .tup (List.replicate k.toNat xs).flatten) (fun b ob q => Heap.get?_push_of_some _ q) (Nat.le_refl _) ?_, rfl, q _ _ (Same.upd (I.hok.fresh (Nat.le_refl _))) upd_same⟩
     exact ⟨by rw [len_rep, ← hlen, Nat.mul_comm]; exact line_ge hsz, _, r.rep k.toNat, IsTup.new _ _⟩
def mMulB : R2 := fun x y H Q => match x, y with
 | .str z, .int n => (-1000 ≤ n ∧ n ≤ 1000 ∧ z.length ≤ 1000) ∧ Q (.str (Txt.mul z n)) H
 | .ref a, .int n => rRepT (.ref a) (.int n) H Q
 | x, y => mMul x y H Q
theorem oMulB : OpR X (binaryOp .Mult) mMulB := (op_mulS.or (op_repT.or oMul)).imp fun x y H Q q => by
 unfold mMulB at q
 split at q
 · exact .inl ⟨_, _, rfl, rfl, q.1, q.2⟩
 · exact .inr (.inl q)
 · exact .inr (.inr q)
end
end L2
namespace L2
open PySem PySem.Spec PyProof.Rows
end L2
namespace L2
open PySem PySem.Spec PyProof.Rows
section
variable {X : Cx}
theorem op_isB : OpR X (compareOp .Is) (fun x y H Q => ∃ b c, x = .bl b ∧ y = .bl c ∧ Q (.bl (decide (b = c))) H) := by
 intro pins s σ H x y v u Q I rx ry h
 obtain ⟨b, c, rfl, rfl, q⟩ := h
 cases rx
 cases ry
 refine wpAny_is_plain (by rfl) (fin_bl I q ?_)
 cases b <;> cases c <;> rfl
def mIsA : R2 := fun x y H Q => match x, y with
 | .bl b, .bl c => Q (.bl (decide (b = c))) H
 | x, y => mIsN x y H Q
theorem oIsA : OpR X (compareOp .Is) mIsA := (op_isB.or oIs).imp fun x y H Q q => by
 unfold mIsA at q
 split at q
 · exact .inl ⟨_, _, rfl, rfl, q⟩
 · exact .inr q
end
end L2
namespace HT
open PySem PyProof.Rows
theorem sub_tuple_dict : isSubtype (.type "tuple") (.type "dict") = pure false := by rw [isSubtype_type]; kernel_rfl
theorem sub_dict_tuple : isSubtype (.type "dict") (.type "tuple") = pure false := by rw [isSubtype_type]; kernel_rfl
theorem dict_eq_no (l b : Addr) (o : Obj) (hc : o.cls = .type "dict") (o2 : Obj) (hc2 : o2.cls = .type "tuple") :
  Meets (Builtin.«dict.__eq__» ⟨[.ref l, .ref b], []⟩) (fun _ R s => s.heap.get? l = some o ∧ s.heap.get? b = some o2 ∧ R (.ok (.ret .notImplemented)) s) :=
 .of_wp fun prog w A R s h => by
  obtain ⟨hp, g, d, tk, os⟩ := s; obtain ⟨hl, hb, h⟩ := h; obtain ⟨cls, dd, data, sl⟩ := o; obtain ⟨cls2, dd2, data2, sl2⟩ := o2
  simp only at hc hc2; subst hc hc2
  have f1 := sub_tuple_dict; wp_walk using wpAny_loadPart' hl, wpAny_loadPart' hb; exact ⟨_, rfl, h⟩
theorem tuple_eq_no (l b : Addr) (o : Obj) (hc : o.cls = .type "tuple") (o2 : Obj) (hc2 : o2.cls = .type "dict") :
  Meets (Builtin.«tuple.__eq__» ⟨[.ref l, .ref b], []⟩) (fun _ R s => s.heap.get? l = some o ∧ s.heap.get? b = some o2 ∧ R (.ok (.ret .notImplemented)) s) :=
 .of_wp fun prog w A R s h => by
  obtain ⟨hp, g, d, tk, os⟩ := s; obtain ⟨hl, hb, h⟩ := h; obtain ⟨cls, dd, data, sl⟩ := o; obtain ⟨cls2, dd2, data2, sl2⟩ := o2
  simp only at hc hc2; subst hc hc2
  have f1 := sub_dict_tuple; wp_walk using wpAny_loadPart' hl, wpAny_loadPart' hb; exact ⟨_, rfl, h⟩
end HT
namespace L2
open PySem PySem.Spec PyProof.Rows
section
variable {X : Cx}
def rEqDT (K : PySem.W.Frag) : R2 := fun x y H Q => ∃ a b ys, x = .ref a ∧ y = .ref b ∧ ((∃ kvs, H a = some (.dK kvs)) ∨ ∃ kvs, H a = some (.dT kvs)) ∧ SqT K H b ys ∧ Q (.bl false) H
theorem op_eqDT (hu : X.A.units < cLine) : OpR X (compareOp .Eq) (rEqDT X.K) := by
 intro pins s σ H x y v u Q I rx ry h
 obtain ⟨a, b, ys, rfl, rfl, ha, hb, q⟩ := h
 cases rx
 cases ry
 obtain ⟨its, _, p1, _⟩ := I.tuple hb
 obtain ⟨o2, ho2, hc2, _⟩ := id p1
 obtain ⟨o, ho, hc⟩ : ∃ o, s.heap.get? a = some o ∧ o.cls = .type "dict" := by
  rcases ha with ⟨kvs, e⟩ | ⟨kvs, e⟩
  · obtain ⟨_, _, _, _, o, _, _, h1, h2, _⟩ := (show ObjOk X.prog X.w H s.heap a (.dK kvs) from I.hok a _ e)
    exact ⟨o, h1, h2.1⟩
  · obtain ⟨_, _, _, _, o, _, _, h1, h2, _⟩ := (show ObjOk X.prog X.w H s.heap a (.dT kvs) from I.hok a _ e)
    exact ⟨o, h1, h2.1⟩
 have hne : a ≠ b := fun e => by
  subst e
  rw [ho] at ho2; cases ho2
  rw [hc] at hc2; exact absurd hc2 (by simp)
 show wpAny _ _ (richCompare .Eq (.ref a) (.ref b)) _ _ s
 exact SeqAt.rc_eq_decline_or (k := false) ⟨_, ho, hc⟩ ⟨_, ho2, hc2⟩ (by decide) F.sub_tuple_dict F.slot_dict_eq F.slot_tuple_eq_refl
  (fun _ hq => call_meets F.slot_dict_eq ⟨_, ho, hc⟩ F.entry_dict_eq (F.args_dict_eq_2 _ _) (HT.dict_eq_no a b o hc o2 hc2) ⟨ho, ho2, hq⟩)
  (fun _ hq => call_meets F.slot_tuple_eq_refl ⟨_, ho2, hc2⟩ F.entry_tuple_eq (F.args_tuple_eq_2 _ _) (HT.tuple_eq_no b a o2 hc2 o hc) ⟨ho2, ho, hq⟩)
  (fun _ hq => wpAny_isSame_ref_other hne ho ho2 (by rw [hc]; simp) hq) (.inr hu) ⟨.bl false, H, I, rfl, q⟩
def mEqC (K : PySem.W.Frag) : R2 := fun x y H Q => match x, y with
 | .ref a, .ref b => rEqT K (.ref a) (.ref b) H Q ∨ rEqD K (.ref a) (.ref b) H Q ∨ rEqDT K (.ref a) (.ref b) H Q
 | .ref a, y => rEqD K (.ref a) y H Q
 | x, .ref b => rEqD K x (.ref b) H Q
 | x, y => mEq x y H Q
theorem oEqC (hu : X.A.units + 150 < cLine) : OpR X (compareOp .Eq) (mEqC X.K) := ((op_eqT (by omega)).or ((op_eqD hu).or ((op_eqDT (by omega)).or oEq))).imp fun x y H Q q => by
 unfold mEqC at q
 split at q
 · exact q.elim .inl fun z => z.elim (fun z => .inr (.inl z)) fun z => .inr (.inr (.inl z))
 · exact .inr (.inl q)
 · exact .inr (.inl q)
 · exact .inr (.inr (.inr q))
end
end L2
namespace HT
open PySem PyProof.Rows
section
variable {prog : Program} {w : World} {A : Around} {E : Value → Shared → Prop} {s : Shared}
end
end HT
namespace L2
open PySem PySem.Spec PyProof.Rows
section
variable {X : Cx} {a : Expr} {t : TA} {p pos : Pos} {tg : Expr}
def kMax : List V → Hp → VK → Prop := fun xs H Q => match xs with | [.int i, .int j] => Q (.int (if j > i then j else i)) H | _ => False
theorem cMax (hc : X.calm = true) : CallR X (.builtin "max") kMax := fun pins s σ H xs us Q I r q => by
 unfold kMax at q
 split at q
 · exact call_max2 hc pins s σ H _ us Q I r ⟨_, _, rfl, q⟩
 · exact q.elim
theorem op_fdivB : OpR X (binaryOp .FloorDiv) (rI (fun _ j => 0 < j ∧ j < 1267650600228229401496703205376) fun i j => .int (i / j)) := opI fun i j _ _ _ _ _ hc q => by
 have h1 : (0 : Int) < j := hc.1
 have h2 : j < 1267650600228229401496703205376 := hc.2
 have h3 : j.natAbs.log2 < 100 := (Nat.log2_lt (by omega)).mpr (Nat.lt_of_lt_of_eq (m := 1267650600228229401496703205376) (by omega) (by decide))
 exact floordiv_int (by omega) (by rw [Int.fdiv_eq_ediv_of_nonneg i (by omega)]; exact q) (.inl (PyProof.noPylong_of_log2 (by omega)))
def mFdivB : R2 := fun x y H Q => match x, y with | .int i, .int j => (0 < j ∧ j < 1267650600228229401496703205376) ∧ Q (.int (i / j)) H | _, _ => False
theorem oFdivB : OpR X (binaryOp .FloorDiv) mFdivB := op_fdivB.imp fun x y H Q q => by
 unfold mFdivB at q
 split at q
 · exact ⟨_, _, rfl, rfl, q.1, q.2⟩
 · exact q.elim
end
end L2
namespace L2
open PySem PySem.Spec PyProof.Rows
section
variable {X : Cx}
theorem x_par {x y : Str} {a b : Expr} {ta : TA} {px py pt pos : Pos} {kt k2 : Nat} {pt2 : Pos} (i j : Nat) (hN : X.N.Nodup) (hc : X.calm = true) (ha : QA X [a, b] ta) (hi : X.N[i]? = some x := by rfl) (hj : X.N[j]? = some y := by rfl) (hij : i ≠ j := by decide)
 (hx : X.env.scope.names.lookup x = some .local := by rfl) (hy : X.env.scope.names.lookup y = some .local := by rfl)
 (hw : swappedStores [.Tuple [.Name x px, .Name y py] kt pt] (.Tuple [a, b] k2 pt2) X.env = pure (some [x, y]) := by rfl)
 (hs : swapsWithSole [.Tuple [.Name x px, .Name y py] kt pt] (.Tuple [a, b] k2 pt2) pos.line X.env = pure false := by rfl) :
 QS X (.Assign [.Tuple [.Name x px, .Name y py] kt pt] (.Tuple [a, b] k2 pt2) pos) (tPar i j ta) := ⟨ps_par hc hN hi hj hij hx hy ha.out hw hs⟩
end
section
variable {α : Type} {l : List α}
theorem len0x (h : l.length = 0) : l = [] := List.length_eq_zero_iff.mp h
theorem len1x (h : l.length = 1) : ∃ a0, l = [a0] := by
  cases l with
  | nil => simp at h
  | cons a l =>
    obtain rfl := len0x (l := l) (by simpa using h)
    exact ⟨a, rfl⟩
theorem len2x (h : l.length = 2) : ∃ a0 a1, l = [a0, a1] := by
  cases l with
  | nil => simp at h
  | cons a l =>
    obtain ⟨b0, rfl⟩ := len1x (l := l) (by simpa using h)
    exact ⟨a, b0, rfl⟩
theorem len3x (h : l.length = 3) : ∃ a0 a1 a2, l = [a0, a1, a2] := by
  cases l with
  | nil => simp at h
  | cons a l =>
    obtain ⟨b0, b1, rfl⟩ := len2x (l := l) (by simpa using h)
    exact ⟨a, b0, b1, rfl⟩
theorem len4x (h : l.length = 4) : ∃ a0 a1 a2 a3, l = [a0, a1, a2, a3] := by
  cases l with
  | nil => simp at h
  | cons a l =>
    obtain ⟨b0, b1, b2, rfl⟩ := len3x (l := l) (by simpa using h)
    exact ⟨a, b0, b1, b2, rfl⟩
theorem len5x (h : l.length = 5) : ∃ a0 a1 a2 a3 a4, l = [a0, a1, a2, a3, a4] := by
  cases l with
  | nil => simp at h
  | cons a l =>
    obtain ⟨b0, b1, b2, b3, rfl⟩ := len4x (l := l) (by simpa using h)
    exact ⟨a, b0, b1, b2, b3, rfl⟩
theorem len6x (h : l.length = 6) : ∃ a0 a1 a2 a3 a4 a5, l = [a0, a1, a2, a3, a4, a5] := by
  cases l with
  | nil => simp at h
  | cons a l =>
    obtain ⟨b0, b1, b2, b3, b4, rfl⟩ := len5x (l := l) (by simpa using h)
    exact ⟨a, b0, b1, b2, b3, b4, rfl⟩
theorem len7x (h : l.length = 7) : ∃ a0 a1 a2 a3 a4 a5 a6, l = [a0, a1, a2, a3, a4, a5, a6] := by
  cases l with
  | nil => simp at h
  | cons a l =>
    obtain ⟨b0, b1, b2, b3, b4, b5, rfl⟩ := len6x (l := l) (by simpa using h)
    exact ⟨a, b0, b1, b2, b3, b4, b5, rfl⟩
end
end L2
namespace L2
open PySem PySem.Spec PyProof.Rows
section
variable {X : Cx}
end
end L2
namespace L2
open PySem PySem.Spec PyProof.Rows
section
variable {M : Model} {A : Around} {E : Value → Shared → Prop} {s : Shared}
end
section
variable {X : Cx}
end
end L2
namespace L2
open PySem PySem.Spec PyProof.Rows
section
variable {X : Cx} {pos ep px py pz : Pos} {ek : Nat} {x y z : Str} {iter : Expr} {wi : TI} {tS : TS}
end
end L2
namespace L2
open PySem PySem.Spec PyProof.Rows
theorem Room.le {A : Around} {m n : Nat} (h : Room m A) (d : n ≤ m := by first | decide | omega) : Room n A := h.mono d
theorem scF {N P : List Str} {sc : Scope} (h1 : sc.kind = .function := by rfl) (h2 : sc.isCoroutine = false := by rfl) (h3 : sc.isGenerator = false := by rfl) (h4 : N.Nodup := by decide +kernel) (h5 : N.take P.length = P := by rfl)
 (h6 : ∀ x ∈ P, sc.names.lookup x = some .local ∨ sc.names.lookup x = some .cell := by decide +kernel) (h7 : ∀ y ∈ sc.names, y.2 ≠ .free := by decide +kernel) : FnScope N P sc := ⟨h1, h2, h3, h4, h5, h6, h7⟩
structure Fm (K : PySem.W.Frag) (mg : Str → Option Value) (x qual : Str) (st : Stmt) (a : Addr) (d : FuncData) (ps : List Str) : Prop where
 f : Fun K x qual st a d
 m : mg x = some (.ref a)
 b : Binds K d ps []
structure Fa (K : PySem.W.Frag) (x qual : Str) (st : Stmt) (a : Addr) (d : FuncData) : Prop where
 m : PySem.W.nsIn K mainGlobals x = some (some (.ref a))
 f : Fun K x qual st a d
section
variable {P : Program} {w : World} {K : PySem.W.Frag} {mg : Str → Option Value} {base h : Heap} {x qual : Str} {st : Stmt} {a : Addr} {d : FuncData} {ps : List Str}
theorem fa_mk {oc : Value} {od an : Option Addr} {osl : Array (Option Value)} {kV doc pm cdv ct : Value} (m : PySem.W.nsIn K mainGlobals x = some (some (.ref a))) (l : K.lookup a = some ⟨oc, od, .func (PySem.W.fnOf x qual (defArgs st) (defBody st) (defScope st) .none kV doc pm an cdv ct), osl⟩)
 (c : PySem.W.codeIn K cdv qual = true) (k : PySem.W.keepIn K (.ref a) = true) : Fa K x qual st a (PySem.W.fnOf x qual (defArgs st) (defBody st) (defScope st) .none kV doc pm an cdv ct) := ⟨m, fun_mk l c k⟩
theorem Fa.code (F : Fa K x qual st a d) (X : K.In h) (G : h.Ns mainGlobals mg) {z t : Addr} (ht : PySem.W.tabIn K x = some (z, t)) : d.code = .ref z := by
 obtain ⟨oc, od, kV, doc, pm, an, cdv, ct, osl, e, lk, hcd⟩ := F.f.ex
 exact PySem.W.law_code X G ht (PySem.W.mg_of X G F.m) (X _ _ lk) rfl
theorem Fun.bt {p : Str} (F : Fun K x qual st a d) (hb : ∀ (kV doc pm : Value) (an : Option Addr) (cdv ct v : Value), bindArgs (PySem.W.fnOf x qual (defArgs st) (defBody st) (defScope st) .none kV doc pm an cdv ct) ⟨[v], []⟩ = pure [(p, v)] := by intros; rfl) (s : Shared) (v : Value) : BindsTo s d ⟨[v], []⟩ [(p, v)] := by
 obtain ⟨oc, od, kV, doc, pm, an, cdv, ct, osl, rfl, lk, hcd⟩ := F.ex
 exact .of_eq (hb kV doc pm an cdv ct v)
theorem Fun.b1 {p0 : Str} (F : Fun K x qual st a d) (hb : ∀ (kV doc pm : Value) (an : Option Addr) (cdv ct u0 : Value), bindArgs (PySem.W.fnOf x qual (defArgs st) (defBody st) (defScope st) .none kV doc pm an cdv ct) ⟨[u0], []⟩ = pure (List.zip [p0] [u0]) := by intros; rfl) : Binds K d [p0] [] := F.binds fun kV doc pm an cdv ct us hl => by
 obtain ⟨u0, rfl⟩ := L2.len1x hl
 exact hb kV doc pm an cdv ct u0
theorem Fa.fm1 {p0 : Str} (F : Fa K x qual st a d) (X : K.In h) (G : h.Ns mainGlobals mg) (hb : ∀ (kV doc pm : Value) (an : Option Addr) (cdv ct u0 : Value), bindArgs (PySem.W.fnOf x qual (defArgs st) (defBody st) (defScope st) .none kV doc pm an cdv ct) ⟨[u0], []⟩ = pure (List.zip [p0] [u0]) := by intros; rfl) : Fm K mg x qual st a d [p0] := ⟨F.f, PySem.W.mg_of X G F.m, F.f.b1 hb⟩
theorem Fun.b2 {p0 p1 : Str} (F : Fun K x qual st a d) (hb : ∀ (kV doc pm : Value) (an : Option Addr) (cdv ct u0 u1 : Value), bindArgs (PySem.W.fnOf x qual (defArgs st) (defBody st) (defScope st) .none kV doc pm an cdv ct) ⟨[u0, u1], []⟩ = pure (List.zip [p0, p1] [u0, u1]) := by intros; rfl) : Binds K d [p0, p1] [] := F.binds fun kV doc pm an cdv ct us hl => by
 obtain ⟨u0, u1, rfl⟩ := L2.len2x hl
 exact hb kV doc pm an cdv ct u0 u1
theorem Fa.fm2 {p0 p1 : Str} (F : Fa K x qual st a d) (X : K.In h) (G : h.Ns mainGlobals mg) (hb : ∀ (kV doc pm : Value) (an : Option Addr) (cdv ct u0 u1 : Value), bindArgs (PySem.W.fnOf x qual (defArgs st) (defBody st) (defScope st) .none kV doc pm an cdv ct) ⟨[u0, u1], []⟩ = pure (List.zip [p0, p1] [u0, u1]) := by intros; rfl) : Fm K mg x qual st a d [p0, p1] := ⟨F.f, PySem.W.mg_of X G F.m, F.f.b2 hb⟩
theorem Fun.b3 {p0 p1 p2 : Str} (F : Fun K x qual st a d) (hb : ∀ (kV doc pm : Value) (an : Option Addr) (cdv ct u0 u1 u2 : Value), bindArgs (PySem.W.fnOf x qual (defArgs st) (defBody st) (defScope st) .none kV doc pm an cdv ct) ⟨[u0, u1, u2], []⟩ = pure (List.zip [p0, p1, p2] [u0, u1, u2]) := by intros; rfl) : Binds K d [p0, p1, p2] [] := F.binds fun kV doc pm an cdv ct us hl => by
 obtain ⟨u0, u1, u2, rfl⟩ := L2.len3x hl
 exact hb kV doc pm an cdv ct u0 u1 u2
theorem Fa.fm3 {p0 p1 p2 : Str} (F : Fa K x qual st a d) (X : K.In h) (G : h.Ns mainGlobals mg) (hb : ∀ (kV doc pm : Value) (an : Option Addr) (cdv ct u0 u1 u2 : Value), bindArgs (PySem.W.fnOf x qual (defArgs st) (defBody st) (defScope st) .none kV doc pm an cdv ct) ⟨[u0, u1, u2], []⟩ = pure (List.zip [p0, p1, p2] [u0, u1, u2]) := by intros; rfl) : Fm K mg x qual st a d [p0, p1, p2] := ⟨F.f, PySem.W.mg_of X G F.m, F.f.b3 hb⟩
theorem Fun.b4 {p0 p1 p2 p3 : Str} (F : Fun K x qual st a d) (hb : ∀ (kV doc pm : Value) (an : Option Addr) (cdv ct u0 u1 u2 u3 : Value), bindArgs (PySem.W.fnOf x qual (defArgs st) (defBody st) (defScope st) .none kV doc pm an cdv ct) ⟨[u0, u1, u2, u3], []⟩ = pure (List.zip [p0, p1, p2, p3] [u0, u1, u2, u3]) := by intros; rfl) : Binds K d [p0, p1, p2, p3] [] := F.binds fun kV doc pm an cdv ct us hl => by
 obtain ⟨u0, u1, u2, u3, rfl⟩ := L2.len4x hl
 exact hb kV doc pm an cdv ct u0 u1 u2 u3
theorem Fa.fm4 {p0 p1 p2 p3 : Str} (F : Fa K x qual st a d) (X : K.In h) (G : h.Ns mainGlobals mg) (hb : ∀ (kV doc pm : Value) (an : Option Addr) (cdv ct u0 u1 u2 u3 : Value), bindArgs (PySem.W.fnOf x qual (defArgs st) (defBody st) (defScope st) .none kV doc pm an cdv ct) ⟨[u0, u1, u2, u3], []⟩ = pure (List.zip [p0, p1, p2, p3] [u0, u1, u2, u3]) := by intros; rfl) : Fm K mg x qual st a d [p0, p1, p2, p3] := ⟨F.f, PySem.W.mg_of X G F.m, F.f.b4 hb⟩
theorem Fun.b5 {p0 p1 p2 p3 p4 : Str} (F : Fun K x qual st a d) (hb : ∀ (kV doc pm : Value) (an : Option Addr) (cdv ct u0 u1 u2 u3 u4 : Value), bindArgs (PySem.W.fnOf x qual (defArgs st) (defBody st) (defScope st) .none kV doc pm an cdv ct) ⟨[u0, u1, u2, u3, u4], []⟩ = pure (List.zip [p0, p1, p2, p3, p4] [u0, u1, u2, u3, u4]) := by intros; rfl) : Binds K d [p0, p1, p2, p3, p4] [] := F.binds fun kV doc pm an cdv ct us hl => by
 obtain ⟨u0, u1, u2, u3, u4, rfl⟩ := L2.len5x hl
 exact hb kV doc pm an cdv ct u0 u1 u2 u3 u4
theorem Fa.fm5 {p0 p1 p2 p3 p4 : Str} (F : Fa K x qual st a d) (X : K.In h) (G : h.Ns mainGlobals mg) (hb : ∀ (kV doc pm : Value) (an : Option Addr) (cdv ct u0 u1 u2 u3 u4 : Value), bindArgs (PySem.W.fnOf x qual (defArgs st) (defBody st) (defScope st) .none kV doc pm an cdv ct) ⟨[u0, u1, u2, u3, u4], []⟩ = pure (List.zip [p0, p1, p2, p3, p4] [u0, u1, u2, u3, u4]) := by intros; rfl) : Fm K mg x qual st a d [p0, p1, p2, p3, p4] := ⟨F.f, PySem.W.mg_of X G F.m, F.f.b5 hb⟩
theorem Fun.b6 {p0 p1 p2 p3 p4 p5 : Str} (F : Fun K x qual st a d) (hb : ∀ (kV doc pm : Value) (an : Option Addr) (cdv ct u0 u1 u2 u3 u4 u5 : Value), bindArgs (PySem.W.fnOf x qual (defArgs st) (defBody st) (defScope st) .none kV doc pm an cdv ct) ⟨[u0, u1, u2, u3, u4, u5], []⟩ = pure (List.zip [p0, p1, p2, p3, p4, p5] [u0, u1, u2, u3, u4, u5]) := by intros; rfl) : Binds K d [p0, p1, p2, p3, p4, p5] [] := F.binds fun kV doc pm an cdv ct us hl => by
 obtain ⟨u0, u1, u2, u3, u4, u5, rfl⟩ := L2.len6x hl
 exact hb kV doc pm an cdv ct u0 u1 u2 u3 u4 u5
theorem Fa.fm6 {p0 p1 p2 p3 p4 p5 : Str} (F : Fa K x qual st a d) (X : K.In h) (G : h.Ns mainGlobals mg) (hb : ∀ (kV doc pm : Value) (an : Option Addr) (cdv ct u0 u1 u2 u3 u4 u5 : Value), bindArgs (PySem.W.fnOf x qual (defArgs st) (defBody st) (defScope st) .none kV doc pm an cdv ct) ⟨[u0, u1, u2, u3, u4, u5], []⟩ = pure (List.zip [p0, p1, p2, p3, p4, p5] [u0, u1, u2, u3, u4, u5]) := by intros; rfl) : Fm K mg x qual st a d [p0, p1, p2, p3, p4, p5] := ⟨F.f, PySem.W.mg_of X G F.m, F.f.b6 hb⟩
theorem Fun.b7 {p0 p1 p2 p3 p4 p5 p6 : Str} (F : Fun K x qual st a d) (hb : ∀ (kV doc pm : Value) (an : Option Addr) (cdv ct u0 u1 u2 u3 u4 u5 u6 : Value), bindArgs (PySem.W.fnOf x qual (defArgs st) (defBody st) (defScope st) .none kV doc pm an cdv ct) ⟨[u0, u1, u2, u3, u4, u5, u6], []⟩ = pure (List.zip [p0, p1, p2, p3, p4, p5, p6] [u0, u1, u2, u3, u4, u5, u6]) := by intros; rfl) : Binds K d [p0, p1, p2, p3, p4, p5, p6] [] := F.binds fun kV doc pm an cdv ct us hl => by
 obtain ⟨u0, u1, u2, u3, u4, u5, u6, rfl⟩ := L2.len7x hl
 exact hb kV doc pm an cdv ct u0 u1 u2 u3 u4 u5 u6
theorem Fa.fm7 {p0 p1 p2 p3 p4 p5 p6 : Str} (F : Fa K x qual st a d) (X : K.In h) (G : h.Ns mainGlobals mg) (hb : ∀ (kV doc pm : Value) (an : Option Addr) (cdv ct u0 u1 u2 u3 u4 u5 u6 : Value), bindArgs (PySem.W.fnOf x qual (defArgs st) (defBody st) (defScope st) .none kV doc pm an cdv ct) ⟨[u0, u1, u2, u3, u4, u5, u6], []⟩ = pure (List.zip [p0, p1, p2, p3, p4, p5, p6] [u0, u1, u2, u3, u4, u5, u6]) := by intros; rfl) : Fm K mg x qual st a d [p0, p1, p2, p3, p4, p5, p6] := ⟨F.f, PySem.W.mg_of X G F.m, F.f.b7 hb⟩
theorem Fun.okS {CX : CXT} {N : List Str} {k : Nat} {sp : Sp} {t : TS} (F : Fun K x qual st a d) (S : FnScope N ps (defScope st)) (len : ∀ vs H Q E, sp vs H Q E → vs.length = ps.length)
  (hrd : ∀ (vs : List V) (H : Hp) (Q : VK) (E : XK), sp vs H Q E → t { nx := fun _ H' => Q .non H', rt := Q } (start N vs) H)
  (hq : ∀ (cdv : Value) (A : Around) (outer : List Env) (s : Shared) (H : Hp) (E : XK), Room k (A.deeper (envOfC qual (defScope st) s.heap.objs.size a cdv)) → QSs (cxOf CX P w K mg base N qual (defScope st) a cdv A outer s H E).nox (defBody st) t) : FnOk P w K mg base CX (k + 1) a d ps sp :=
 F.okN S len fun cdv A outer s H vs Q E hr h => ⟨t, (hq cdv A outer s H E hr).out, hrd vs H Q E h⟩
end
section
variable {X : Cx} {x q : Str} {e : Expr} {es : List Expr} {t : TA} {p pos : Pos} {st : Stmt} {f : Addr} {fd : FuncData} {ps : List Str} {k : Nat} {sp : Sp}
theorem x_cl {P : Program} {w : World} (F : FnOk X.prog X.w X.K X.mg X.base (CX1 P w) k f fd ps sp) (hr : Room k X.A) (M : Fm X.K X.mg x q st f fd ps)
 (ha : QA X (e :: es) t) (hg : Gl X x := by rfl) (hdb : (x == ("__debug__" : Str)) = false := by decide) (hs : noStars (e :: es) = true := by rfl) : QE X (.Call (.Name x p) (e :: es) [] pos) (tCallX sp (fun _ => E0) t) := x_callX F hr M.m M.f.kp M.b passF ha hg hdb hs
end
end L2
namespace L2
open PySem PySem.Spec PyProof.Rows
section
variable {X : Cx}
theorem x_set3 {x y z : Str} {px py pz ep pos : Pos} {ek : Nat} {e : Expr} {te : TE} (i j k : Nat) (hN : X.N.Nodup) (hc : X.calm = true) (he : QE X e te) (hi : X.N[i]? = some x := by rfl) (hj : X.N[j]? = some y := by rfl) (hk : X.N[k]? = some z := by rfl)
  (hx : Loc X.env.scope x := by first | exact .inl rfl | exact .inr rfl) (hy : Loc X.env.scope y := by first | exact .inl rfl | exact .inr rfl) (hz : Loc X.env.scope z := by first | exact .inl rfl | exact .inr rfl)
  (fx : X.fn x = true ∨ X.env.scope.names.lookup x = some .local := by first | exact .inl rfl | exact .inr rfl) (fy : X.fn y = true ∨ X.env.scope.names.lookup y = some .local := by first | exact .inl rfl | exact .inr rfl) (fz : X.fn z = true ∨ X.env.scope.names.lookup z = some .local := by first | exact .inl rfl | exact .inr rfl)
  (hs : swapsWithSole [.Tuple [.Name x px, .Name y py, .Name z pz] ek ep] e pos.line X.env = pure false := by rfl) (hw : swappedStores [.Tuple [.Name x px, .Name y py, .Name z pz] ek ep] e X.env = pure none := by rfl) :
  QS X (.Assign [.Tuple [.Name x px, .Name y py, .Name z pz] ek ep] e pos) (tAsg te (gTup X.K 3 (gCons (gName i) (gCons (gName j) (gCons (gName k) gNil))))) :=
 ⟨ps_asg he.out (pg_tup hc (pgs_cons (pg_name hN hi hx fx) (pgs_cons (pg_name hN hj hy fy) (pgs_cons (pg_name hN hk hz fz) pgs_nil)))) hs hw⟩
end
end L2
namespace Rs
open PySem PySem.Spec PyProof.Rows L2
def top (i : Nat) : Stmt := PySem.Challenge.pw_rootstamp_k37_whole_one_paper_or_a_clash.main.body.getD i (.Pass ⟨0, 0, 0, 0⟩)
abbrev s_2 : Stmt := top 35
abbrev s_0 : Stmt := top 34
abbrev s_4 : Stmt := top 36
abbrev s_20 : Stmt := top 41
abbrev s_9 : Stmt := top 43
abbrev s_8 : Stmt := top 42
abbrev s_7 : Stmt := top 40
abbrev s_24 : Stmt := top 37
abbrev s_1 : Stmt := top 44
abbrev s_13 : Stmt := top 45
abbrev s_12 : Stmt := top 46
abbrev s_19 : Stmt := top 54
abbrev s_15 : Stmt := top 58
abbrev s_21 : Stmt := top 38
abbrev s_10 : Stmt := top 47
abbrev s_16 : Stmt := top 39
abbrev s_25 : Stmt := top 55
abbrev s_14 : Stmt := top 50
abbrev s_37 : Stmt := top 7
abbrev s_32 : Stmt := top 11
abbrev s_28 : Stmt := top 19
abbrev s_43 : Stmt := top 14
abbrev s_39 : Stmt := top 20
abbrev s_35 : Stmt := top 8
abbrev s_30 : Stmt := top 23
abbrev s_36 : Stmt := top 12
abbrev s_44 : Stmt := top 13
abbrev s_33 : Stmt := top 16
abbrev s_31 : Stmt := top 17
abbrev s_34 : Stmt := top 22
abbrev s_27 : Stmt := top 21
abbrev s_26 : Stmt := top 24
abbrev s_40 : Stmt := top 26
abbrev s_41 : Stmt := top 25
abbrev s_47 : Stmt := top 27
abbrev s_46 : Stmt := top 28
abbrev s_42 : Stmt := top 30
abbrev s_45 : Stmt := top 29
abbrev s_23 : Stmt := top 51
abbrev s_18 : Stmt := top 53
abbrev s_5 : Stmt := top 48
abbrev s_3 : Stmt := top 49
abbrev s_6 : Stmt := top 56
abbrev s_29 : Stmt := top 32
abbrev s_11 : Stmt := top 57
abbrev s_38 : Stmt := top 59
def sAt (i : Nat) (l : List Stmt) : Stmt := l.getD i (.Pass ⟨0, 0, 0, 0⟩)
abbrev e_22 : Stmt := (sAt 1 (defBody s_21))
def ct_22 : CloT := ⟨(("_law_sure" : Str) ++ ".<locals>.") ++ "_law_number", .stmts (defBody e_22), defScope e_22, ["_law_term"], ["_law_known", "_law_first"]⟩
abbrev e_17 : Stmt := (sAt 0 (defBody s_16))
def ct_17 : CloT := ⟨(("_law_planted" : Str) ++ ".<locals>.") ++ "_law_number", .stmts (defBody e_17), defScope e_17, ["_law_term"], ["_law_sure_one", "_law_other", "_law_one"]⟩
set_option genInjectivity false in
set_option genSizeOf false in
structure Adr where
 a_2 : Addr
 d_2 : FuncData
 a_0 : Addr
 d_0 : FuncData
 a_4 : Addr
 d_4 : FuncData
 a_20 : Addr
 d_20 : FuncData
 a_9 : Addr
 d_9 : FuncData
 a_8 : Addr
 d_8 : FuncData
 a_7 : Addr
 d_7 : FuncData
 a_24 : Addr
 d_24 : FuncData
 a_1 : Addr
 d_1 : FuncData
 a_13 : Addr
 d_13 : FuncData
 a_12 : Addr
 d_12 : FuncData
 a_19 : Addr
 d_19 : FuncData
 a_15 : Addr
 d_15 : FuncData
 a_21 : Addr
 d_21 : FuncData
 a_10 : Addr
 d_10 : FuncData
 a_16 : Addr
 d_16 : FuncData
 a_25 : Addr
 d_25 : FuncData
 a_14 : Addr
 d_14 : FuncData
 a_37 : Addr
 d_37 : FuncData
 a_32 : Addr
 d_32 : FuncData
 a_28 : Addr
 d_28 : FuncData
 a_43 : Addr
 d_43 : FuncData
 a_39 : Addr
 d_39 : FuncData
 a_35 : Addr
 d_35 : FuncData
 a_30 : Addr
 d_30 : FuncData
 a_36 : Addr
 d_36 : FuncData
 a_44 : Addr
 d_44 : FuncData
 a_33 : Addr
 d_33 : FuncData
 a_31 : Addr
 d_31 : FuncData
 a_34 : Addr
 d_34 : FuncData
 a_27 : Addr
 d_27 : FuncData
 a_26 : Addr
 d_26 : FuncData
 a_40 : Addr
 d_40 : FuncData
 a_41 : Addr
 d_41 : FuncData
 a_47 : Addr
 d_47 : FuncData
 a_46 : Addr
 d_46 : FuncData
 a_42 : Addr
 d_42 : FuncData
 a_45 : Addr
 d_45 : FuncData
 a_23 : Addr
 d_23 : FuncData
 a_18 : Addr
 d_18 : FuncData
 a_5 : Addr
 d_5 : FuncData
 a_3 : Addr
 d_3 : FuncData
 a_6 : Addr
 d_6 : FuncData
 a_29 : Addr
 d_29 : FuncData
 a_11 : Addr
 d_11 : FuncData
 a_38 : Addr
 d_38 : FuncData
 k_21 : Addr
 t_21 : Addr
 k_16 : Addr
 t_16 : Addr
set_option genInjectivity false in
set_option genSizeOf false in
structure Txt (K : PySem.W.Frag) (mg : Str → Option Value) (A : Adr) : Prop where
 f_2 : Fm K mg "_law_bits" "_law_bits" s_2 A.a_2 A.d_2 ["_law_cell"]
 f_0 : Fm K mg "_law_at" "_law_at" s_0 A.a_0 A.d_0 ["_law_script", "_law_k"]
 f_4 : Fm K mg "_law_key" "_law_key" s_4 A.a_4 A.d_4 ["_law_bits_here", "_law_cell", "_law_others"]
 f_20 : Fm K mg "_law_stretch" "_law_stretch" s_20 A.a_20 A.d_20 ["_law_bits_here", "_law_one", "_law_other"]
 f_9 : Fm K mg "_law_number" "_law_number" s_9 A.a_9 A.d_9 ["_law_cell", "_law_depth", "_law_begin_here"]
 f_8 : Fm K mg "_law_meets" "_law_meets" s_8 A.a_8 A.d_8 ["_law_bits_here", "_law_low", "_law_high", "_law_depth", "_law_begin_here"]
 f_7 : Fm K mg "_law_mark" "_law_mark" s_7 A.a_7 A.d_7 ["_law_number_here"]
 f_24 : Fm K mg "_law_text" "_law_text" s_24 A.a_24 A.d_24 ["_law_cell"]
 f_1 : Fm K mg "_law_begin" "_law_begin" s_1 A.a_1 A.d_1 ["_law_number_here", "_law_begin_here", "_law_more", "_law_low", "_law_high", "_law_free"]
 f_13 : Fm K mg "_law_part" "_law_part" s_13 A.a_13 A.d_13 ["_law_cell", "_law_bits_here", "_law_low", "_law_high", "_law_depth", "_law_begin_here", "_law_deep"]
 f_12 : Fm K mg "_law_paper" "_law_paper" s_12 A.a_12 A.d_12 ["_law_cell", "_law_bits_here", "_law_low", "_law_high"]
 f_19 : Fm K mg "_law_spots" "_law_spots" s_19 A.a_19 A.d_19 ["_law_part_here", "_law_depth", "_law_begin_here", "_law_path"]
 f_15 : Fm K mg "_law_part_at" "_law_part_at" s_15 A.a_15 A.d_15 ["_law_part_here", "_law_path"]
 f_21 : Fm K mg "_law_sure" "_law_sure" s_21 A.a_21 A.d_21 ["_law_first"]
 f_10 : Fm K mg "_law_open" "_law_open" s_10 A.a_10 A.d_10 ["_law_stamper", "_law_part_here"]
 f_16 : Fm K mg "_law_planted" "_law_planted" s_16 A.a_16 A.d_16 ["_law_sure_one", "_law_one", "_law_other"]
 f_25 : Fm K mg "_law_with" "_law_with" s_25 A.a_25 A.d_25 ["_law_part_here", "_law_path", "_law_new"]
 f_14 : Fm K mg "_law_part_alike" "_law_part_alike" s_14 A.a_14 A.d_14 ["_law_found", "_law_due"]
 f_37 : Fm K mg "is_whole" "is_whole" s_37 A.a_37 A.d_37 ["thing"]
 f_32 : Fm K mg "is_key" "is_key" s_32 A.a_32 A.d_32 ["bits", "thing"]
 f_28 : Fm K mg "check_stretch" "check_stretch" s_28 A.a_28 A.d_28 ["bits", "low", "high"]
 f_43 : Fm K mg "span" "span" s_43 A.a_43 A.d_43 ["bits", "depth", "begin"]
 f_39 : Fm K mg "meets" "meets" s_39 A.a_39 A.d_39 ["bits", "low", "high", "depth", "begin"]
 f_35 : Fm K mg "is_stamp" "is_stamp" s_35 A.a_35 A.d_35 ["thing"]
 f_30 : Fm K mg "is_cut" "is_cut" s_30 A.a_30 A.d_30 ["thing"]
 f_36 : Fm K mg "is_value" "is_value" s_36 A.a_36 A.d_36 ["thing"]
 f_44 : Fm K mg "start" "start" s_44 A.a_44 A.d_44 ["bits", "key", "depth"]
 f_33 : Fm K mg "is_leaf" "is_leaf" s_33 A.a_33 A.d_33 ["bits", "depth", "begin", "thing"]
 f_31 : Fm K mg "is_fork" "is_fork" s_31 A.a_31 A.d_31 ["bits", "depth", "begin", "thing"]
 f_34 : Fm K mg "is_part" "is_part" s_34 A.a_34 A.d_34 ["bits", "low", "high", "depth", "begin", "thing"]
 f_27 : Fm K mg "check_part" "check_part" s_27 A.a_27 A.d_27 ["bits", "low", "high", "depth", "begin", "part"]
 f_26 : Fm K mg "check_paper" "check_paper" s_26 A.a_26 A.d_26 ["bits", "low", "high", "paper"]
 f_40 : Fm K mg "part_mark" "part_mark" s_40 A.a_40 A.d_40 ["stamper", "part", "terms"]
 f_41 : Fm K mg "part_terms" "part_terms" s_41 A.a_41 A.d_41 ["stamper", "part"]
 f_47 : Fm K mg "stretch_terms" "stretch_terms" s_47 A.a_47 A.d_47 ["stamper", "bits", "low", "high", "paper"]
 f_46 : Fm K mg "stretch_mark" "stretch_mark" s_46 A.a_46 A.d_46 ["stamper", "bits", "low", "high", "paper"]
 f_42 : Fm K mg "rows_within" "rows_within" s_42 A.a_42 A.d_42 ["low", "high", "terms"]
 f_45 : Fm K mg "stretch_answer" "stretch_answer" s_45 A.a_45 A.d_45 ["stamper", "bits", "mark", "low", "high", "paper"]
 f_23 : Fm K mg "_law_term_alike" "_law_term_alike" s_23 A.a_23 A.d_23 ["_law_found", "_law_due"]
 f_18 : Fm K mg "_law_rows_alike" "_law_rows_alike" s_18 A.a_18 A.d_18 ["_law_found", "_law_due"]
 f_5 : Fm K mg "_law_leaves" "_law_leaves" s_5 A.a_5 A.d_5 ["_law_part_here"]
 f_3 : Fm K mg "_law_inner" "_law_inner" s_3 A.a_3 A.d_3 ["_law_part_here", "_law_low", "_law_high"]
 f_6 : Fm K mg "_law_let_by" "_law_let_by" s_6 A.a_6 A.d_6 ["_law_stamper", "_law_bits_here", "_law_ends", "_law_mark_here", "_law_paper_here"]
 f_29 : Fm K mg "clash" "clash" s_29 A.a_29 A.d_29 ["stamper", "terms"]
 f_11 : Fm K mg "_law_pair_right" "_law_pair_right" s_11 A.a_11 A.d_11 ["_law_bits_here", "_law_ends", "_law_paper_here", "_law_path", "_law_one", "_law_other", "_law_number_here"]
 f_38 : Fm K mg "law" "law" s_38 A.a_38 A.d_38 ["_law_script"]
 z_bool : mg "bool" = none
 z_int : mg "int" = none
 z_isinstance : mg "isinstance" = none
 z_len : mg "len" = none
 z_list : mg "list" = none
 z_max : mg "max" = none
 z_min : mg "min" = none
 z_range : mg "range" = none
 z_str : mg "str" = none
 z_tuple : mg "tuple" = none
 c_MOST_SIGNS : ∃ t, mg "MOST_SIGNS" = some (.int 60 t)
 kc_21 : A.d_21.code = .ref A.k_21
 kc_16 : A.d_16.code = .ref A.k_16
def Tabs0 (A : Adr) (H : Hp) : Prop := H A.t_21 = some (.tbl #[]) ∧ H A.t_16 = some (.tbl #[]) ∧ ([A.t_21, A.t_16] : List Addr).Nodup
theorem sc_22 : CloScope ["_law_term", "_law_known", "_law_first"] ["_law_term"] ["_law_known", "_law_first"] ct_22.scope := ⟨rfl, rfl, rfl, by decide +kernel, rfl, rfl, by decide +kernel, by decide +kernel, by decide +kernel, by decide +kernel, by decide +kernel⟩
theorem sc_17 : CloScope ["_law_term", "_law_sure_one", "_law_other", "_law_one"] ["_law_term"] ["_law_sure_one", "_law_other", "_law_one"] ct_17.scope := ⟨rfl, rfl, rfl, by decide +kernel, rfl, rfl, by decide +kernel, by decide +kernel, by decide +kernel, by decide +kernel, by decide +kernel⟩
theorem sc_2 : FnScope ["_law_cell"] ["_law_cell"] (defScope s_2) := scF
theorem sc_0 : FnScope ["_law_script", "_law_k", "_law_number_here", "_law_cell"] ["_law_script", "_law_k"] (defScope s_0) := scF
theorem sc_4 : FnScope ["_law_bits_here", "_law_cell", "_law_others", "_law_many", "_law_number_here", "_law_flip"] ["_law_bits_here", "_law_cell", "_law_others"] (defScope s_4) := scF
theorem sc_20 : FnScope ["_law_bits_here", "_law_one", "_law_other", "_law_low", "_law_high"] ["_law_bits_here", "_law_one", "_law_other"] (defScope s_20) := scF
theorem sc_9 : FnScope ["_law_cell", "_law_depth", "_law_begin_here"] ["_law_cell", "_law_depth", "_law_begin_here"] (defScope s_9) := scF
theorem sc_8 : FnScope ["_law_bits_here", "_law_low", "_law_high", "_law_depth", "_law_begin_here", "_law_wide"] ["_law_bits_here", "_law_low", "_law_high", "_law_depth", "_law_begin_here"] (defScope s_8) := scF
theorem sc_7 : FnScope ["_law_number_here"] ["_law_number_here"] (defScope s_7) := scF
theorem sc_24 : FnScope ["_law_cell", "_law_signs", "_law_size", "_law_made", "_law_k"] ["_law_cell"] (defScope s_24) := scF
theorem sc_1 : FnScope ["_law_number_here", "_law_begin_here", "_law_more", "_law_low", "_law_high", "_law_free", "_law_own"] ["_law_number_here", "_law_begin_here", "_law_more", "_law_low", "_law_high", "_law_free"] (defScope s_1) := scF
theorem sc_13 : FnScope ["_law_cell", "_law_bits_here", "_law_low", "_law_high", "_law_depth", "_law_begin_here", "_law_deep", "_law_number_here", "_law_free", "_law_key_here", "_law_more", "_law_own", "_law_left", "_law_right"] ["_law_cell", "_law_bits_here", "_law_low", "_law_high", "_law_depth", "_law_begin_here", "_law_deep"] (defScope s_13) := scF
theorem sc_12 : FnScope ["_law_cell", "_law_bits_here", "_law_low", "_law_high", "_law_deep"] ["_law_cell", "_law_bits_here", "_law_low", "_law_high"] (defScope s_12) := scF
theorem sc_19 : FnScope ["_law_part_here", "_law_depth", "_law_begin_here", "_law_path", "_law_found"] ["_law_part_here", "_law_depth", "_law_begin_here", "_law_path"] (defScope s_19) := scF
theorem sc_15 : FnScope ["_law_part_here", "_law_path", "_law_at_here"] ["_law_part_here", "_law_path"] (defScope s_15) := scF
theorem sc_21 : FnScope ["_law_first", "_law_known", "_law_number"] ["_law_first"] (defScope s_21) := scF
theorem sc_10 : FnScope ["_law_stamper", "_law_part_here", "_law_left", "_law_right", "_law_own"] ["_law_stamper", "_law_part_here"] (defScope s_10) := scF
theorem sc_16 : FnScope ["_law_sure_one", "_law_one", "_law_other", "_law_number"] ["_law_sure_one", "_law_one", "_law_other"] (defScope s_16) := scF
theorem sc_25 : FnScope ["_law_part_here", "_law_path", "_law_new", "_law_at_here"] ["_law_part_here", "_law_path", "_law_new"] (defScope s_25) := scF
theorem sc_14 : FnScope ["_law_found", "_law_due"] ["_law_found", "_law_due"] (defScope s_14) := scF
theorem sc_37 : FnScope ["thing"] ["thing"] (defScope s_37) := scF
theorem sc_32 : FnScope ["bits", "thing"] ["bits", "thing"] (defScope s_32) := scF
theorem sc_28 : FnScope ["bits", "low", "high"] ["bits", "low", "high"] (defScope s_28) := scF
theorem sc_43 : FnScope ["bits", "depth", "begin", "rest"] ["bits", "depth", "begin"] (defScope s_43) := scF
theorem sc_39 : FnScope ["bits", "low", "high", "depth", "begin", "ends"] ["bits", "low", "high", "depth", "begin"] (defScope s_39) := scF
theorem sc_35 : FnScope ["thing"] ["thing"] (defScope s_35) := scF
theorem sc_30 : FnScope ["thing"] ["thing"] (defScope s_30) := scF
theorem sc_36 : FnScope ["thing"] ["thing"] (defScope s_36) := scF
theorem sc_44 : FnScope ["bits", "key", "depth"] ["bits", "key", "depth"] (defScope s_44) := scF
theorem sc_33 : FnScope ["bits", "depth", "begin", "thing"] ["bits", "depth", "begin", "thing"] (defScope s_33) := scF
theorem sc_31 : FnScope ["bits", "depth", "begin", "thing"] ["bits", "depth", "begin", "thing"] (defScope s_31) := scF
theorem sc_34 : FnScope ["bits", "low", "high", "depth", "begin", "thing"] ["bits", "low", "high", "depth", "begin", "thing"] (defScope s_34) := scF
theorem sc_27 : FnScope ["bits", "low", "high", "depth", "begin", "part"] ["bits", "low", "high", "depth", "begin", "part"] (defScope s_27) := scF
theorem sc_26 : FnScope ["bits", "low", "high", "paper"] ["bits", "low", "high", "paper"] (defScope s_26) := scF
theorem sc_40 : FnScope ["stamper", "part", "terms"] ["stamper", "part", "terms"] (defScope s_40) := scF
theorem sc_41 : FnScope ["stamper", "part", "left", "right", "marks"] ["stamper", "part"] (defScope s_41) := scF
theorem sc_47 : FnScope ["stamper", "bits", "low", "high", "paper"] ["stamper", "bits", "low", "high", "paper"] (defScope s_47) := scF
theorem sc_46 : FnScope ["stamper", "bits", "low", "high", "paper"] ["stamper", "bits", "low", "high", "paper"] (defScope s_46) := scF
theorem sc_42 : FnScope ["low", "high", "terms"] ["low", "high", "terms"] (defScope s_42) := scF
theorem sc_45 : FnScope ["stamper", "bits", "mark", "low", "high", "paper", "terms", "came"] ["stamper", "bits", "mark", "low", "high", "paper"] (defScope s_45) := scF
theorem sc_23 : FnScope ["_law_found", "_law_due", "_law_k"] ["_law_found", "_law_due"] (defScope s_23) := scF
theorem sc_18 : FnScope ["_law_found", "_law_due", "_law_k"] ["_law_found", "_law_due"] (defScope s_18) := scF
theorem sc_5 : FnScope ["_law_part_here"] ["_law_part_here"] (defScope s_5) := scF
theorem sc_3 : FnScope ["_law_part_here", "_law_low", "_law_high"] ["_law_part_here", "_law_low", "_law_high"] (defScope s_3) := scF
theorem sc_6 : FnScope ["_law_stamper", "_law_bits_here", "_law_ends", "_law_mark_here", "_law_paper_here", "_law_told"] ["_law_stamper", "_law_bits_here", "_law_ends", "_law_mark_here", "_law_paper_here"] (defScope s_6) := scF
theorem sc_29 : FnScope ["stamper", "terms", "firsts", "term", "ahead"] ["stamper", "terms"] (defScope s_29) := scF
theorem sc_11 : FnScope ["_law_bits_here", "_law_ends", "_law_paper_here", "_law_path", "_law_one", "_law_other", "_law_number_here", "_law_sure_one", "_law_mine", "_law_theirs", "_law_stamper", "_law_first", "_law_second", "_law_mark_here", "_law_terms", "_law_found"] ["_law_bits_here", "_law_ends", "_law_paper_here", "_law_path", "_law_one", "_law_other", "_law_number_here"] (defScope s_11) := scF
theorem sc_38 : FnScope ["_law_script", "_law_bits_here", "_law_ends", "_law_paper_here", "_law_spots_here", "_law_cell", "_law_depth", "_law_begin_here", "_law_path", "_law_number_here", "_law_other"] ["_law_script"] (defScope s_38) := scF
end Rs
namespace Rs
open PySem PySem.Spec PyProof.Rows L2
inductive Dat where
 | non
 | bl (b : Bool)
 | int (i : Int)
 | str (z : Str)
 | lst (ds : List Dat)
 | tup (ds : List Dat)
 | dic
mutual
inductive DatW (H : Hp) : V → Dat → Prop
 | non : DatW H .non .non
 | bl (b) : DatW H (.bl b) (.bl b)
 | int (i) : DatW H (.int i) (.int i)
 | str (z) : DatW H (.str z) (.str z)
 | lst {a xs ds} : H a = some (.lst xs) → DatWs H xs ds → DatW H (.ref a) (.lst ds)
 | tup {a xs ds} : H a = some (.tup xs) → DatWs H xs ds → DatW H (.ref a) (.tup ds)
 | dic {a} : ((∃ kvs, H a = some (.dK kvs)) ∨ ∃ kvs, H a = some (.dT kvs)) → DatW H (.ref a) .dic
inductive DatWs (H : Hp) : List V → List Dat → Prop
 | nil : DatWs H [] []
 | cons {x xs d ds} : DatW H x d → DatWs H xs ds → DatWs H (x :: xs) (d :: ds)
end
mutual
def toPy : Dat → PyData
 | .non => .none
 | .bl b => .bool b
 | .int i => .int i
 | .str z => .str z
 | .lst ds => .list (toPys ds)
 | .tup ds => .tuple (toPys ds)
 | .dic => .none
def toPys : List Dat → List PyData
 | [] => []
 | d :: r => toPy d :: toPys r
end
def ascS (z : Str) : Bool := z.cps.all (· < 128)
mutual
def okD : Dat → Bool
 | .str z => ascS z && decide (z.length ≤ 100000)
 | .lst ds => okDs ds
 | .tup ds => okDs ds
 | .dic => false
 | .non => true
 | .bl _ => true
 | .int _ => true
def okDs : List Dat → Bool
 | [] => true
 | d :: r => okD d && okDs r
end
def isWholeD : Dat → Bool
 | .int _ => true
 | _ => false
def isStampD : Dat → Bool
 | .int i => decide (0 ≤ i ∧ i < 10 ^ 60)
 | .str _ => true
 | _ => false
def isStrD (w : Str) : Dat → Bool
 | .str z => decide (z = w)
 | _ => false
def isKeyD (bits : Int) : Dat → Bool
 | .int i => decide (0 ≤ i ∧ i < 2 ^ bits.toNat)
 | _ => false
def isValueD : Dat → Bool
 | .str z => decide (z.length ≤ 60)
 | _ => false
def startI (bits key depth : Int) : Int := key / 2 ^ (bits - depth).toNat
def isLeafD (bits depth begin : Int) : Dat → Bool
 | .tup [w, .int k, z] => isStrD "leaf" w && decide (0 ≤ k ∧ k < 2 ^ bits.toNat) && isValueD z && decide (startI bits k depth = begin)
 | _ => false
def isForkD (bits depth begin : Int) : Dat → Bool
 | .tup [w, .int e, .int b, _, _] => isStrD "fork" w && decide (depth ≤ e ∧ e < bits) && decide (0 ≤ b ∧ b < 2 ^ e.toNat) && decide (b / 2 ^ (e - depth).toNat = begin)
 | _ => false
def isBareD : Dat → Bool
 | .tup [w] => isStrD "bare" w
 | _ => false
def endOk (d : Dat) : Prop := (okD d = true ∧ (toPy d).depth ≤ 140) ∨ d = .dic
def sp_37 (K : PySem.W.Frag) (A : Adr) : Sp := fun vs H Q _ => ∃ v d, vs = [v] ∧ DatW H v d ∧ Q (.bl (isWholeD d)) H
def sp_35 (K : PySem.W.Frag) (A : Adr) : Sp := fun vs H Q _ => ∃ v d, vs = [v] ∧ DatW H v d ∧ Q (.bl (isStampD d)) H
def sp_44 (K : PySem.W.Frag) (A : Adr) : Sp := fun vs H Q _ => ∃ (b k d : Int), vs = [.int b, .int k, .int d] ∧ d ≤ b ∧ Q (.int (startI b k d)) H
def sp_32 (K : PySem.W.Frag) (A : Adr) : Sp := fun vs H Q _ => ∃ (b : Int) (v : V) (d : Dat), vs = [.int b, v] ∧ 0 ≤ b ∧ b ≤ 60 ∧ DatW H v d ∧ Q (.bl (isKeyD b d)) H
def sp_36 (K : PySem.W.Frag) (A : Adr) : Sp := fun vs H Q _ => ∃ (v : V) (d : Dat), vs = [v] ∧ DatW H v d ∧ okD d = true ∧ Q (.bl (isValueD d)) H
def sp_33 (K : PySem.W.Frag) (A : Adr) : Sp := fun vs H Q _ => ∃ (b p g : Int) (v : V) (d : Dat), vs = [.int b, .int p, .int g, v] ∧ 0 ≤ b ∧ b ≤ 60 ∧ p ≤ b ∧ DatW H v d ∧ endOk d ∧ Q (.bl (isLeafD b p g d)) H
def sp_31 (K : PySem.W.Frag) (A : Adr) : Sp := fun vs H Q _ => ∃ (b p g : Int) (v : V) (d : Dat), vs = [.int b, .int p, .int g, v] ∧ 0 ≤ p ∧ b ≤ 60 ∧ p ≤ b ∧ DatW H v d ∧ endOk d ∧ Q (.bl (isForkD b p g d)) H
def datK : Key → Dat
 | .inl i => .int i
 | .inr z => .str z
def szK : Key → Nat
 | .inl _ => 62
 | .inr z => z.length + 62
def stampK (m : Key) : Prop := isStampD (datK m) = true ∧ okD (datK m) = true ∧ szK m ≤ 1062
def sp_0 (K : PySem.W.Frag) (A : Adr) : Sp := fun vs H Q _ => ∃ (a : Addr) (ns : List Int) (k : Int), vs = [.ref a, .int k] ∧ SqL K H a (ns.map V.int) ∧ 0 ≤ k ∧ ∀ (z : Int) (H' : Hp), Same H H' → Q (.int z) H'
def sp_2 (K : PySem.W.Frag) (A : Adr) : Sp := fun vs H Q _ => ∃ c : Int, vs = [.int c] ∧ ∀ (b : Int) (H' : Hp), Same H H' → 1 ≤ b → b ≤ 60 → Q (.int b) H'
def sp_4 (K : PySem.W.Frag) (A : Adr) : Sp := fun vs H Q _ => ∃ (b c : Int) (o : Addr) (ks : List Int), vs = [.int b, .int c, .ref o] ∧ 1 ≤ b ∧ b ≤ 60 ∧ H o = some (.lst (ks.map V.int)) ∧ ks.length ≤ 1 ∧ (∀ k ∈ ks, 0 ≤ k ∧ k < 2 ^ b.toNat) ∧ ∀ (k : Int) (H' : Hp), Same H H' → 0 ≤ k → k < 2 ^ b.toNat → Q (.int k) H'
def sp_24 (K : PySem.W.Frag) (A : Adr) : Sp := fun vs H Q _ => ∃ c : Int, vs = [.int c] ∧ ∀ (z : Str) (H' : Hp), Same H H' → z.length ≤ 60 → ascS z = true → Q (.str z) H'
def sp_7 (K : PySem.W.Frag) (A : Adr) : Sp := fun vs H Q _ => ∃ c : Int, vs = [.int c] ∧ ∀ m : Key, stampK m → Q (kV m) H
def okP : Key → Bool
 | .inl i => decide (0 ≤ i ∧ i < 10 ^ 60)
 | .inr z => ascS z && decide (z.length ≤ 100000)
def isTxt : Key → Bool
 | .inr _ => true
 | .inl _ => false
def okT (k : List Key) : Bool := decide (1 ≤ k.length ∧ k.length ≤ 8) && (k.head?.map isTxt).getD false && k.all okP
def szT (k : List Key) : Nat := (k.map szK).sum
def stOf (k : List Key) : Key → Prop
 | .inl i => 0 ≤ i ∧ i < 10 ^ 60
 | .inr z => ascS z = true ∧ z.length ≤ szT k
def KeepT (H H' : Hp) : Prop := ∀ b o, H b = some o → (∀ kvs, o ≠ .dT kvs) → H' b = some o
def tabV (kvs : List (List Key × Key)) : List (List Key × V) := kvs.map fun p => (p.1, kV p.2)
def tabG (kvs : List (List Key × Key)) (k : List Key) : Option Key := (kvs.find? fun p => decide (p.1 = k)).map (·.2)
def SureT (j : Int) (kvs : List (List Key × Key)) : Prop := ∀ (i : Nat) (p : List Key × Key), kvs[i]? = some p → p.2 = Sum.inl (3 * (i : Int) + j)
set_option genInjectivity false in
set_option genSizeOf false in
structure SA where
 f : Addr
 b : Addr
 q0 : Addr
 q1 : Addr
 c : Addr
 j : Int
structure SurAt (H : Hp) (a : SA) (kvs : List (List Key × Key)) (n : Nat) : Prop where
 j0 : 0 ≤ a.j
 j1 : a.j < 1000
 hf : H a.f = some (cloO a.f ct_22 [a.q1, a.q0] a.c)
 hc : H a.c = some (codeO a.c ct_22.qual)
 h0 : H a.q0 = some (cellO a.q0 (.int a.j))
 h1 : H a.q1 = some (cellO a.q1 (.ref a.b))
 hb : H a.b = some (.dT (tabV kvs))
 hl : kvs.length ≤ n
 st : SureT a.j kvs
structure PlaAt (H : Hp) (f : Addr) (a : SA) (k1 k2 : List Key) (kvs : List (List Key × Key)) (n : Nat) : Prop where
 ex : ∃ (q0 q1 q2 o1 o2 : Addr), CloAt H f ct_17 [q0, q2, q1] [.ref a.f, .ref o2, .ref o1] ∧ H o1 = some (.tup (k1.map kV)) ∧ H o2 = some (.tup (k2.map kV)) ∧ ∀ x ∈ [a.f, a.q0, a.q1, a.c], x ∉ [q0, q2, q1]
 k1 : okT k1 = true
 k2 : okT k2 = true
 su : SurAt H a kvs n
set_option genInjectivity false in
set_option genSizeOf false in
structure Kd where
 a : SA
 pl : Option (List Key × List Key)
inductive Stq (A : Adr) (H : Hp) (f : Addr) (d : Kd) (g : List Key → Option Key) (n : Nat) : Prop
 | sur (kvs : List (List Key × Key)) (h : SurAt H d.a kvs n) (ef : f = d.a.f) (ep : d.pl = none) (hg : g = tabG kvs)
 | pla (k1 k2 : List Key) (kvs : List (List Key × Key)) (h : PlaAt H f d.a k1 k2 kvs n) (ep : d.pl = some (k1, k2)) (hg : g = tabG kvs)
def eff (d : Kd) (g : List Key → Option Key) : List Key → Option Key := match d.pl with
 | none => g
 | some p => fun k => g (if k = p.2 then p.1 else k)
def Sub0 (g g' : List Key → Option Key) : Prop := ∀ k v, g k = some v → g' k = some v
def Ext0 (g : List Key → Option Key) (h : List Key → Key) : Prop := ∀ k v, g k = some v → h k = v
structure SG where
 d : Kd
 g : List Key → Option Key
def SG.e (g : SG) : List Key → Option Key := eff g.d g.g
def Stp (A : Adr) (H : Hp) (f : Addr) (g : SG) (n : Nat) : Prop := Stq A H f g.d g.g n
def Sub (g g' : SG) : Prop := g.d = g'.d ∧ Sub0 g.g g'.g
def Ext (g : SG) (h : List Key → Key) : Prop := ∀ k v, g.e k = some v → h k = v
abbrev PK (H : Hp) : List Addr → List (List Key) → Prop := Paired (fun (p : Addr) (k : List Key) => H p = some (.tup (k.map kV)) ∧ okT k = true)
def defV (kvs : List (List Key × V)) (kk : List Key) (d : V) : V := (valV kvs kk).getD d
def defH (H : Hp) (b : Addr) (kvs : List (List Key × V)) (kk : List Key) (d : V) : Hp := if (valV kvs kk).isSome = true then H else upd H b (.dT (putK kvs kk d))
def sp_22 (K : PySem.W.Frag) (A : Adr) : Sp := fun vs H Q _ => ∃ (p b : Addr) (j : Int) (k : List Key) (kvs : List (List Key × V)), vs = [.ref p, .ref b, .int j] ∧ H p = some (.tup (k.map kV)) ∧ H b = some (.dT kvs) ∧ kvs.length ≤ 50000 ∧ Q (defV kvs k (.int (3 * (kvs.length : Int) + j))) (defH H b kvs k (.int (3 * (kvs.length : Int) + j)))
def sp_17 (K : PySem.W.Frag) (A : Adr) : Sp := fun vs H Q _ => ∃ (p o1 o2 : Addr) (a : SA) (k k1 k2 : List Key) (kvs : List (List Key × Key)) (n : Nat), vs = [.ref p, .ref a.f, .ref o2, .ref o1] ∧ H p = some (.tup (k.map kV)) ∧ H o1 = some (.tup (k1.map kV)) ∧ H o2 = some (.tup (k2.map kV)) ∧ okT k = true ∧ okT k1 = true ∧ okT k2 = true ∧ SurAt H a kvs n ∧ n ≤ 45000 ∧
 ∀ (v : Key) (H' : Hp) (kvs' : List (List Key × Key)), (∀ x o, x ≠ a.b → H x = some o → H' x = some o) → SurAt H' a kvs' (n + 1) → Sub0 (tabG kvs) (tabG kvs') → tabG kvs' (if k = k2 then k1 else k) = some v → (∃ i : Int, 0 ≤ i ∧ i < 10 ^ 60 ∧ v = .inl i) → Q (kV v) H'
def KeepP (P : Addr) (H H' : Hp) : Prop := ∀ b o, H b = some o → b ≠ P → H' b = some o
def Tab1 (P : Addr) (l c : Nat) (t : CloT) (H : Hp) : Prop := ∃ ps, H P = some (.tbl ps) ∧ (ps = #[] ∨ ∃ a, ps = #[] ++ #[rawInt ((l : Nat) : Int), rawInt ((c : Nat) : Int), .ref a] ∧ H a = some (codeO a t.qual))
def TabS (A : Adr) (H : Hp) : Prop := Tab1 A.t_21 146 4 ct_22 H
def TabP (A : Adr) (H : Hp) : Prop := Tab1 A.t_16 151 4 ct_17 H
def sp_21 (K : PySem.W.Frag) (A : Adr) : Sp := fun vs H Q _ => ∃ j : Int, vs = [.int j] ∧ 0 ≤ j ∧ j < 1000 ∧ TabS A H ∧ ∀ (a : SA) (H' : Hp), KeepP A.t_21 H H' → TabS A H' → H a.b = none → SurAt H' a [] 0 → Q (.ref a.f) H'
def sp_16 (K : PySem.W.Frag) (A : Adr) : Sp := fun vs H Q _ => ∃ (o1 o2 : Addr) (a : SA) (k1 k2 : List Key) (kvs : List (List Key × Key)) (n : Nat), vs = [.ref a.f, .ref o1, .ref o2] ∧ H o1 = some (.tup (k1.map kV)) ∧ H o2 = some (.tup (k2.map kV)) ∧ okT k1 = true ∧ okT k2 = true ∧ SurAt H a kvs n ∧ TabP A H ∧ ∀ (f : Addr) (H' : Hp), KeepP A.t_16 H H' → TabP A H' → PlaAt H' f a k1 k2 kvs n → Q (.ref f) H'
def KeepB (b : Addr) (H H' : Hp) : Prop := ∀ x o, x ≠ b → H x = some o → H' x = some o
def IsDue (h : List Key → Key) (ks : List (List Key)) : Option (List Key × List Key) → Prop
 | none => ∀ (j k : Nat) a b, j < k → ks[j]? = some a → ks[k]? = some b → h a = h b → a = b
 | some r => ∃ j k : Nat, j < k ∧ ks[j]? = some r.1 ∧ ks[k]? = some r.2 ∧ r.1 ≠ r.2 ∧ h r.1 = h r.2 ∧ (∀ (j' k' : Nat) a b, j' < k' → k' < k → ks[j']? = some a → ks[k']? = some b → h a = h b → a = b) ∧ ∀ (j' : Nat) a, j' < j → ks[j']? = some a → h a = h r.2 → a = r.2
def RetDue (H : Hp) : Option (List Key × List Key) → V → Prop
 | none, v => v = .non
 | some r, v => ∃ p a b : Addr, v = .ref p ∧ H p = some (.tup [.ref a, .ref b]) ∧ H a = some (.tup (r.1.map kV)) ∧ H b = some (.tup (r.2.map kV)) ∧ okT r.1 = true ∧ okT r.2 = true
def sp_29 (K : PySem.W.Frag) (A : Adr) : Sp := fun vs H Q _ => ∃ (f : Addr) (d : Kd) (L : Addr) (ps : List Addr) (ks : List (List Key)) (g : List Key → Option Key) (n : Nat), vs = [.ref f, .ref L] ∧ Stq A H f d g n ∧ H L = some (.lst (ps.map V.ref)) ∧ PK H ps ks ∧ ks.length ≤ 900 ∧ n ≤ 40000 ∧
 ∀ (v : V) (H' : Hp) (g' : List Key → Option Key) (r : Option (List Key × List Key)), KeepB d.a.b H H' → Stq A H' f d g' (n + ks.length) → Sub0 g g' → RetDue H' r v → (∀ h : List Key → Key, Ext0 (eff d g') h → IsDue h ks r) → Q v H'
def sp_14 (K : PySem.W.Frag) (A : Adr) : Sp := fun vs H Q _ => ∃ x : Key, vs = [kV x, kV x] ∧ Q (.bl true) H
def sp_23 (K : PySem.W.Frag) (A : Adr) : Sp := fun vs H Q _ => ∃ (p r : Addr) (k : List Key), vs = [.ref p, .ref r] ∧ H p = some (.tup (k.map kV)) ∧ H r = some (.tup (k.map kV)) ∧ k.length ≤ 8 ∧ Q (.bl true) H
inductive Part where
 | cut (m : Key)
 | bare
 | leaf (k : Int) (z : Str)
 | fork (d b : Int) (l r : Part)
def partD : Part → Dat
 | .cut m => .tup [.str "cut", datK m]
 | .bare => .tup [.str "bare"]
 | .leaf k z => .tup [.str "leaf", .int k, .str z]
 | .fork d b l r => .tup [.str "fork", .int d, .int b, partD l, partD r]
def meetsI (b lo hi d g : Int) : Bool := decide (g * 2 ^ (b - d).toNat ≤ hi) && decide (lo ≤ (g + 1) * 2 ^ (b - d).toNat - 1)
def okPart (b lo hi : Int) : Int → Int → Part → Prop
 | d, g, .cut m => meetsI b lo hi d g = false ∧ stampK m
 | d, g, .bare => meetsI b lo hi d g = true ∧ d = 0
 | d, g, .leaf k z => meetsI b lo hi d g = true ∧ 0 ≤ k ∧ k < 2 ^ b.toNat ∧ z.length ≤ 60 ∧ ascS z = true ∧ startI b k d = g
 | d, g, .fork e x l r => meetsI b lo hi d g = true ∧ d ≤ e ∧ e < b ∧ 0 ≤ x ∧ x < 2 ^ e.toNat ∧ x / 2 ^ (e - d).toNat = g ∧ okPart b lo hi (e + 1) (2 * x) l ∧ okPart b lo hi (e + 1) (2 * x + 1) r
def forks : Part → Nat
 | .fork _ _ l r => forks l + forks r + 1
 | _ => 0
def tall : Part → Nat
 | .fork _ _ l r => max (tall l) (tall r) + 1
 | _ => 0
def many : Part → Nat
 | .cut _ => 0
 | .fork _ _ l r => many l + many r + 1
 | _ => 1
def isCutP : Part → Bool
 | .cut _ => true
 | _ => false
def markP (h : List Key → Key) : Part → Key
 | .cut m => m
 | .bare => h [.inr "bare"]
 | .leaf k z => h [.inr "leaf", .inl k, .inr z]
 | .fork d b l r => h [.inr "fork", .inl d, .inl b, markP h l, markP h r]
def termsP (h : List Key → Key) : Part → List (List Key)
 | .cut _ => []
 | .bare => [[.inr "bare"]]
 | .leaf k z => [[.inr "leaf", .inl k, .inr z]]
 | .fork d b l r => termsP h l ++ termsP h r ++ [[.inr "fork", .inl d, .inl b, markP h l, markP h r]]
def szP : Part → Nat
 | .cut _ => 1062
 | .bare => 128
 | .leaf _ _ => 312
 | .fork _ _ l r => 252 + szP l + szP r
def ownP (h : List Key → Key) : Part → List Key
 | .cut _ => []
 | .bare => [.inr "bare"]
 | .leaf k z => [.inr "leaf", .inl k, .inr z]
 | .fork d b l r => [.inr "fork", .inl d, .inl b, markP h l, markP h r]
def LastOk (p : Part) (ts : List (List Key)) : Prop := ∀ t, ts.getLast? = some t → szT t + 62 ≤ szP p
def leavesP : Part → List (Int × Str)
 | .leaf k z => [(k, z)]
 | .fork _ _ l r => leavesP l ++ leavesP r
 | _ => []
structure Ends3 (b lo hi : Int) : Prop where
 b1 : 1 ≤ b
 b60 : b ≤ 60
 lo0 : 0 ≤ lo
 le : lo ≤ hi
 hi1 : hi < 2 ^ b.toNat
structure PartW (H : Hp) (v : V) (b lo hi d g : Int) (p : Part) : Prop where
 w : DatW H v (partD p)
 ok : okPart b lo hi d g p
 d0 : 0 ≤ d
 d1 : d ≤ b
 g0 : 0 ≤ g
 g1 : g < 2 ^ d.toNat
def rowT (x : Int × Str) : List Key := [.inl x.1, .inr x.2]
abbrev PR (H : Hp) : List Addr → List (Int × Str) → Prop := Paired (fun (p : Addr) (x : Int × Str) => H p = some (.tup ((rowT x).map kV)))
def inI (lo hi : Int) (x : Int × Str) : Bool := decide (lo ≤ x.1) && decide (x.1 ≤ hi)
def sp_20 (K : PySem.W.Frag) (A : Adr) : Sp := fun vs H Q _ => ∃ b c e : Int, vs = [.int b, .int c, .int e] ∧ 1 ≤ b ∧ b ≤ 60 ∧ ∀ (p : Addr) (lo hi : Int) (H' : Hp), Same H H' → H' p = some (.tup [.int lo, .int hi]) → Ends3 b lo hi → Q (.ref p) H'
def sp_9 (K : PySem.W.Frag) (A : Adr) : Sp := fun vs H Q _ => ∃ c d g : Int, vs = [.int c, .int d, .int g] ∧ ∀ n : Int, 0 ≤ n → n < 999983 → Q (.int n) H
def sp_8 (K : PySem.W.Frag) (A : Adr) : Sp := fun vs H Q _ => ∃ b lo hi d g : Int, vs = [.int b, .int lo, .int hi, .int d, .int g] ∧ Ends3 b lo hi ∧ 0 ≤ d ∧ d ≤ b ∧ 0 ≤ g ∧ g < 2 ^ d.toNat ∧ Q (.bl (meetsI b lo hi d g)) H
def sp_1 (K : PySem.W.Frag) (A : Adr) : Sp := fun vs H Q _ => ∃ b n g m lo hi f : Int, vs = [.int n, .int g, .int m, .int lo, .int hi, .int f] ∧ Ends3 b lo hi ∧ 0 ≤ n ∧ n < 999983 ∧ 0 ≤ g ∧ 0 ≤ m ∧ m < f ∧ f ≤ b ∧ g < 2 ^ (b - f).toNat ∧ ∀ x : Int, 0 ≤ x → x < 2 ^ (b - f + m).toNat → x / 2 ^ m.toNat = g → Q (.int x) H
def sp_13 (K : PySem.W.Frag) (A : Adr) (n : Nat) : Sp := fun vs H Q _ => ∃ c b lo hi d g y : Int, vs = [.int c, .int b, .int lo, .int hi, .int d, .int g, .int y] ∧ Ends3 b lo hi ∧ 0 ≤ d ∧ d ≤ b ∧ 0 ≤ g ∧ g < 2 ^ d.toNat ∧ 0 ≤ y ∧ y ≤ 60 ∧ b - d < n ∧
 ∀ (v : V) (p : Part) (H' : Hp), Same H H' → PartW H' v b lo hi d g p → forks p ≤ 2 ^ y.toNat - 1 → (lo = hi → (forks p : Int) ≤ b - d) → (tall p : Int) ≤ b - d → Q v H'
structure PaperW (H : Hp) (v : V) (b lo hi : Int) (p : Part) : Prop where
 e : Ends3 b lo hi
 w : PartW H v b lo hi 0 0 p
 f : forks p ≤ 70
 t : tall p ≤ 60
def sp_12 (K : PySem.W.Frag) (A : Adr) : Sp := fun vs H Q _ => ∃ c b lo hi : Int, vs = [.int c, .int b, .int lo, .int hi] ∧ Ends3 b lo hi ∧ ∀ (v : V) (p : Part) (H' : Hp), Same H H' → PaperW H' v b lo hi p → forks p ≤ 60 → Q v H'
def sp_43 (K : PySem.W.Frag) (A : Adr) : Sp := fun vs H Q _ => ∃ b d g : Int, vs = [.int b, .int d, .int g] ∧ 0 ≤ d ∧ d ≤ b ∧ b ≤ 60 ∧ 0 ≤ g ∧ g < 2 ^ d.toNat ∧ ∀ p, H p = none → Q (.ref p) (upd H p (.tup [.int (g * 2 ^ (b - d).toNat), .int ((g + 1) * 2 ^ (b - d).toNat - 1)]))
def sp_39 (K : PySem.W.Frag) (A : Adr) : Sp := fun vs H Q _ => ∃ b lo hi d g : Int, vs = [.int b, .int lo, .int hi, .int d, .int g] ∧ 0 ≤ d ∧ d ≤ b ∧ b ≤ 60 ∧ 0 ≤ g ∧ g < 2 ^ d.toNat ∧ ∀ H', Same H H' → Q (.bl (meetsI b lo hi d g)) H'
def sp_28 (K : PySem.W.Frag) (A : Adr) : Sp := fun vs H Q _ => ∃ b lo hi : Int, vs = [.int b, .int lo, .int hi] ∧ Ends3 b lo hi ∧ Q .non H
def sp_30 (K : PySem.W.Frag) (A : Adr) : Sp := fun vs H Q _ => ∃ (v : V) (m : Key), vs = [v] ∧ DatW H v (partD (.cut m)) ∧ stampK m ∧ Q (.bl true) H
def sp_34 (K : PySem.W.Frag) (A : Adr) : Sp := fun vs H Q _ => ∃ (b lo hi d g : Int) (v : V) (p : Part), vs = [.int b, .int lo, .int hi, .int d, .int g, v] ∧ Ends3 b lo hi ∧ PartW H v b lo hi d g p ∧ tall p ≤ 60 ∧ ∀ H', Same H H' → Q (.bl true) H'
def sp_27 (K : PySem.W.Frag) (A : Adr) (n : Nat) : Sp := fun vs H Q _ => ∃ (b lo hi d g : Int) (v : V) (p : Part), vs = [.int b, .int lo, .int hi, .int d, .int g, v] ∧ Ends3 b lo hi ∧ PartW H v b lo hi d g p ∧ tall p ≤ 60 ∧ tall p < n ∧ ∀ H', Same H H' → Q .non H'
def sp_26 (K : PySem.W.Frag) (A : Adr) : Sp := fun vs H Q _ => ∃ (b lo hi : Int) (v : V) (p : Part), vs = [.int b, .int lo, .int hi, v] ∧ PaperW H v b lo hi p ∧ ∀ H', Same H H' → Q .non H'
structure PartS (H : Hp) (v : V) (p : Part) : Prop where
 w : DatW H v (partD p)
 ok : ∃ b lo hi d g : Int, Ends3 b lo hi ∧ 0 ≤ d ∧ d ≤ b ∧ okPart b lo hi d g p
 f : forks p ≤ 70
def NewL (H : Hp) (L : Addr) : Prop := ∀ M xs, H M = some (.lst xs) → M ≠ L
def sp_41 (K : PySem.W.Frag) (A : Adr) (j : Nat) : Sp := fun vs H Q _ => ∃ (f : Addr) (v : V) (p : Part) (g : SG) (n : Nat), vs = [.ref f, v] ∧ PartS H v p ∧ tall p < j ∧ Stp A H f g n ∧ n + 2 * forks p ≤ 42000 ∧
 ∀ (L : Addr) (ps : List Addr) (ts : List (List Key)) (g' : SG) (H' : Hp), KeepT H H' → Stp A H' f g' (n + 2 * forks p) → Sub g g' → NewL H L → H' L = some (.lst (ps.map V.ref)) → PK H' ps ts → (∀ h, Ext g' h → ts = termsP h p) → LastOk p ts → Q (.ref L) H'
def sp_40 (K : PySem.W.Frag) (A : Adr) : Sp := fun vs H Q _ => ∃ (f L : Addr) (v : V) (p : Part) (ps : List Addr) (ts : List (List Key)) (g : SG) (n : Nat), vs = [.ref f, v, .ref L] ∧ PartS H v p ∧ Stp A H f g n ∧ n ≤ 44000 ∧ H L = some (.lst (ps.map V.ref)) ∧ PK H ps ts ∧ (∀ h, Ext g h → ts = termsP h p) ∧ LastOk p ts ∧
 ∀ (x : Key) (g' : SG) (H' : Hp), KeepT H H' → Stp A H' f g' (n + 1) → Sub g g' → (∀ h, Ext g' h → x = markP h p) → okP x = true → szK x ≤ szP p → Q (kV x) H'
def sp_47 (K : PySem.W.Frag) (A : Adr) : Sp := fun vs H Q _ => ∃ (f : Addr) (b lo hi : Int) (v : V) (p : Part) (g : SG) (n : Nat), vs = [.ref f, .int b, .int lo, .int hi, v] ∧ PaperW H v b lo hi p ∧ Stp A H f g n ∧ n ≤ 40000 ∧
 ∀ (L : Addr) (ps : List Addr) (ts : List (List Key)) (g' : SG) (H' : Hp), KeepT H H' → Stp A H' f g' (n + 200) → Sub g g' → NewL H L → H' L = some (.lst (ps.map V.ref)) → PK H' ps ts → (∀ h, Ext g' h → ts = termsP h p) → Q (.ref L) H'
def sp_42 (K : PySem.W.Frag) (A : Adr) : Sp := fun vs H Q _ => ∃ (L : Addr) (lo hi : Int) (ps : List Addr) (h : List Key → Key) (p : Part), vs = [.int lo, .int hi, .ref L] ∧ H L = some (.lst (ps.map V.ref)) ∧ PK H ps (termsP h p) ∧ (termsP h p).length ≤ 1000 ∧
 ∀ (M : Addr) (rs : List Addr) (H' : Hp), Same H H' → H M = none → H' M = some (.lst (rs.map V.ref)) → PR H' rs ((leavesP p).filter (inI lo hi)) → Q (.ref M) H'
def sp_46 (K : PySem.W.Frag) (A : Adr) : Sp := fun vs H Q _ => ∃ (f : Addr) (b lo hi : Int) (v : V) (p : Part) (g : SG) (n : Nat), vs = [.ref f, .int b, .int lo, .int hi, v] ∧ PaperW H v b lo hi p ∧ Stp A H f g n ∧ n ≤ 40000 ∧
 ∀ (x : Key) (g' : SG) (H' : Hp), KeepT H H' → Stp A H' f g' (n + 201) → Sub g g' → (∀ h, Ext g' h → x = markP h p) → Q (kV x) H'
def sp_45 (K : PySem.W.Frag) (A : Adr) : Sp := fun vs H Q _ => ∃ (f : Addr) (b lo hi : Int) (v : V) (p : Part) (g : SG) (n : Nat) (x : Key), vs = [.ref f, .int b, kV x, .int lo, .int hi, v] ∧ PaperW H v b lo hi p ∧ Stp A H f g n ∧ n ≤ 40000 ∧ (∀ h, Ext g h → x = markP h p) ∧
 ∀ (M : Addr) (rs : List Addr) (g' : SG) (H' : Hp), KeepT H H' → Stp A H' f g' (n + 201) → Sub g g' → NewL H M → H' M = some (.lst (rs.map V.ref)) → PR H' rs ((leavesP p).filter (inI lo hi)) → Q (.ref M) H'
def sp_10 (K : PySem.W.Frag) (A : Adr) (j : Nat) : Sp := fun vs H Q _ => ∃ (f : Addr) (v : V) (p : Part) (g : SG) (n : Nat), vs = [.ref f, v] ∧ PartS H v p ∧ tall p < j ∧ Stp A H f g n ∧ n + many p ≤ 42000 ∧
 ∀ (t L : Addr) (x : Key) (ps : List Addr) (ts : List (List Key)) (g' : SG) (H' : Hp), KeepT H H' → Stp A H' f g' (n + many p) → Sub g g' → NewL H L → H' t = some (.tup [kV x, .ref L]) → H' L = some (.lst (ps.map V.ref)) → PK H' ps ts → (∀ h, Ext g' h → ts = termsP h p ∧ x = markP h p) → okP x = true → szK x ≤ szP p → Q (.ref t) H'
def sp_5 (K : PySem.W.Frag) (A : Adr) (j : Nat) : Sp := fun vs H Q _ => ∃ (v : V) (p : Part), vs = [v] ∧ DatW H v (partD p) ∧ tall p < j ∧ forks p ≤ 70 ∧
 ∀ (M : Addr) (rs : List Addr) (H' : Hp), Same H H' → H M = none → H' M = some (.lst (rs.map V.ref)) → PR H' rs (leavesP p) → Q (.ref M) H'
def sp_3 (K : PySem.W.Frag) (A : Adr) : Sp := fun vs H Q _ => ∃ (v : V) (p : Part) (lo hi : Int), vs = [v, .int lo, .int hi] ∧ DatW H v (partD p) ∧ tall p ≤ 60 ∧ forks p ≤ 70 ∧
 ∀ (M : Addr) (rs : List Addr) (H' : Hp), Same H H' → H M = none → H' M = some (.lst (rs.map V.ref)) → PR H' rs ((leavesP p).filter (inI lo hi)) → Q (.ref M) H'
abbrev PT (H : Hp) : List Addr → List (List Key) → Prop := Paired (fun (p : Addr) (k : List Key) => H p = some (.tup (k.map kV)) ∧ k.length ≤ 8)
def sp_18 (K : PySem.W.Frag) (A : Adr) : Sp := fun vs H Q _ => ∃ (L M : Addr) (ps rs : List Addr) (ts : List (List Key)), vs = [.ref L, .ref M] ∧ H L = some (.lst (ps.map V.ref)) ∧ H M = some (.lst (rs.map V.ref)) ∧ PT H ps ts ∧ PT H rs ts ∧ ts.length ≤ 1000 ∧ Q (.bl true) H
inductive Way : Part → Int → Int → List Int → Part → Int → Int → Prop
 | nil (p : Part) (d g : Int) : Way p d g [] p d g
 | left {e x D G d g : Int} {l r q : Part} {w : List Int} (h : Way l (e + 1) (2 * x) w q d g) : Way (.fork e x l r) D G (3 :: w) q d g
 | right {e x D G d g : Int} {l r q : Part} {w : List Int} (h : Way r (e + 1) (2 * x + 1) w q d g) : Way (.fork e x l r) D G (4 :: w) q d g
def plug : Part → List Int → Part → Part
 | _, [], q => q
 | .fork e x l r, i :: w, q => if i = 3 then .fork e x (plug l w q) r else .fork e x l (plug r w q)
 | p, _ :: _, _ => p
def SpotAt (H : Hp) (p : Part) (d g : Int) (w : List Int) (r : Addr) : Prop := ∃ (d' g' : Int) (u : List Int) (q : Part) (P : Addr), H r = some (.tup [.int d', .int g', .ref P]) ∧ H P = some (.tup ((w ++ u).map V.int)) ∧ Way p d g u q d' g'
def sp_19 (K : PySem.W.Frag) (A : Adr) (n : Nat) : Sp := fun vs H Q _ => ∃ (v : V) (p : Part) (d g : Int) (P : Addr) (w : List Int), vs = [v, .int d, .int g, .ref P] ∧ DatW H v (partD p) ∧ tall p < n ∧ H P = some (.tup (w.map V.int)) ∧ w.length + tall p ≤ 100 ∧ forks p ≤ 70 ∧
 ∀ (M r : Addr) (rs : List Addr) (H' : Hp), Same H H' → H M = none → H' M = some (.lst ((r :: rs).map V.ref)) → rs.length = 2 * forks p → H' r = some (.tup [.int d, .int g, .ref P]) → (∀ r' ∈ r :: rs, SpotAt H' p d g w r') → Q (.ref M) H'
def sp_15 (K : PySem.W.Frag) (A : Adr) : Sp := fun vs H Q _ => ∃ (v : V) (p q : Part) (D G d g : Int) (P : Addr) (w : List Int), vs = [v, .ref P] ∧ DatW H v (partD p) ∧ H P = some (.tup (w.map V.int)) ∧ Way p D G w q d g ∧ ∀ u : V, DatW H u (partD q) → Q u H
def sp_25 (K : PySem.W.Frag) (A : Adr) (n : Nat) : Sp := fun vs H Q _ => ∃ (v u : V) (p q q' : Part) (D G d g : Int) (P : Addr) (w : List Int), vs = [v, .ref P, u] ∧ DatW H v (partD p) ∧ H P = some (.tup (w.map V.int)) ∧ Way p D G w q d g ∧ DatW H u (partD q') ∧ w.length < n ∧ w.length ≤ 100 ∧ ∀ (y : V) (H' : Hp), Same H H' → DatW H' y (partD (plug p w q')) → Q y H'
def sp_6 (K : PySem.W.Frag) (A : Adr) : Sp := fun vs H Q _ => ∃ (f t : Addr) (b lo hi : Int) (v : V) (p : Part) (x : Key) (g : SG) (n : Nat), vs = [.ref f, .int b, .ref t, kV x, v] ∧ H t = some (.tup [.int lo, .int hi]) ∧ PaperW H v b lo hi p ∧ Stp A H f g n ∧ n ≤ 30000 ∧ (∀ (g1 : SG) (H1 : Hp) (n1 : Nat), Stp A H1 f g1 n1 → Sub g g1 → ∃ h, Ext g1 h ∧ x = markP h p) ∧
 ∀ (g' : SG) (H' : Hp), KeepT H H' → Stp A H' f g' (n + 1000) → Sub g g' → Q (.bl true) H'
def KeepR (H H' : Hp) : Prop := ∀ x o, H x = some o → (∀ ps, o ≠ .tbl ps) → (∀ kvs, o ≠ .dT kvs) → H' x = some o
def sp_11 (K : PySem.W.Frag) (A : Adr) : Sp := fun vs H Q _ => ∃ (t P : Addr) (b lo hi d g m : Int) (v y z : V) (p q r : Part) (w : List Int), vs = [.int b, .ref t, v, .ref P, y, z, .int m] ∧ H t = some (.tup [.int lo, .int hi]) ∧ PaperW H v b lo hi p ∧ forks p ≤ 60 ∧ H P = some (.tup (w.map V.int)) ∧ Way p 0 0 w q d g ∧ DatW H y (partD q) ∧ isCutP q = false ∧ DatW H z (partD r) ∧ okPart b lo hi d g r ∧ forks r ≤ 7 ∧ TabS A H ∧ TabP A H ∧ A.t_21 ≠ A.t_16 ∧
 ∀ H', KeepR H H' → TabS A H' → TabP A H' → Q (.bl true) H'
def sp_38 (K : PySem.W.Frag) (A : Adr) : Sp := fun vs H Q _ => ∃ (a : Addr) (ns : List Int), vs = [.ref a] ∧ SqL K H a (ns.map V.int) ∧ ns.length ≤ 63 ∧ Tabs0 A H ∧ ∀ H', Q (.bl true) H'
end Rs
namespace Rs
open PySem PySem.Spec PyProof.Rows L2
def Knd1 (K : PySem.W.Frag) (A : Adr) : L2.Kinds := [(ct_22, sp_22 K A), (ct_17, sp_17 K A)]
def Knd1_0 (K : PySem.W.Frag) (A : Adr) : L2.Kinds := [(ct_22, sp_22 K A)]
def T_22 (K : PySem.W.Frag) (A : Adr) : TS := tRet (tBM K "dict" rSetDef (mVar 1) (tCons (mVar 0) (tCons (tOp (mAddG K) (tOp (mMulB) (tC (.int 3)) (tCB (kLenA K) (tCons (mVar 1) (tNil)))) (mVar 2)) (tNil))))
def T_17 (K : PySem.W.Frag) (A : Adr) : TS := tSeq (mIfS (mTest (tOp (mEqC K) (mVar 0) (mVar 2))) (tRet (tHeld (Knd1_0 K A) (fun _ => E0) (mVar 1) (tCons (mVar 3) (tNil)))) (tNext)) (tRet (tHeld (Knd1_0 K A) (fun _ => E0) (mVar 1) (tCons (mVar 0) (tNil))))
def T_2 (K : PySem.W.Frag) (A : Adr) : TS := tRet (tOp (mAddG K) (tC (.int 1)) (tOp (mMod) (tOp (mFdivB) (mVar 0) (tC (.int 3))) (tOp (rIxA K) (tLst (tCons (tC (.int 60)) (tCons (tC (.int 8)) (tCons (tC (.int 60)) (tNil))))) (tOp (mMod) (mVar 0) (tC (.int 3))))))
def T_0 (K : PySem.W.Frag) (A : Adr) : TS := tSeq (mIfS (mTest (tOp (mLt) (mVar 1) (tCB (kLenA K) (tCons (mVar 0) (tNil))))) (tRet (tOp (rIxA K) (mVar 0) (mVar 1))) (tNext)) (tSeq (tAsg (tOp (mAddG K) (tC (.int 17)) (tCB (kLenA K) (tCons (mVar 0) (tNil)))) (gName 2)) (tSeq (tFor (iSeqA K (tSl (rSlA K) (mVar 0) (tNoPart) (tPart (tC (.int 5))))) (gName 3) (tAsg (tOp (mMod) (tOp (mAddG K) (tOp (mMulB) (mVar 2) (tC (.int 31))) (mVar 3)) (tC (.int 1000003))) (gName 2))) (tSeq (tAsg (tOp (mMod) (tOp (mAddG K) (mVar 2) (tOp (mMulB) (tC (.int 7919)) (mVar 1))) (tC (.int 1000003))) (gName 2)) (tRet (tOp (mMod) (tOp (mMulB) (mVar 2) (mVar 2)) (tC (.int 2147483629)))))))
def T_4 (K : PySem.W.Frag) (A : Adr) : TS := tSeq (tAsg (tOp (mShl) (tC (.int 1)) (mVar 0)) (gName 3)) (tSeq (tAsg (tOp (mFdivB) (mVar 1) (tC (.int 5))) (gName 4)) (tSeq (mIfS (mTest (tOp (mEqC K) (tOp (mMod) (mVar 1) (tC (.int 5))) (tC (.int 0)))) (tRet (tOp (mMod) (mVar 4) (mVar 3))) (tNext)) (tSeq (mIfS (mTest (tOp (mEqC K) (tOp (mMod) (mVar 1) (tC (.int 5))) (tC (.int 1)))) (tRet (tOp (mSub) (tOp (mSub) (mVar 3) (tC (.int 1))) (tOp (mMod) (mVar 4) (mVar 3)))) (tNext)) (tSeq (mIfS (mAnd (mTest (tOp (mEqC K) (tOp (mMod) (mVar 1) (tC (.int 5))) (tC (.int 2)))) (mTest (tOp (mNeB K) (mVar 2) (tLst (tNil))))) (tSeq (tAsg (tOp (mMod) (tOp (mMod) (tOp (mMulB) (mVar 4) (tC (.int 48271))) (tC (.int 65537))) (mVar 0)) (gName 5)) (tRet (tOp (mXor) (tOp (rIxA K) (mVar 2) (tOp (mMod) (mVar 4) (tCB (kLenA K) (tCons (mVar 2) (tNil))))) (tOp (mShl) (tC (.int 1)) (mVar 5))))) (tNext)) (tRet (tOp (mMod) (tOp (mMulB) (mVar 4) (tC (.int 1152921504606846883))) (mVar 3)))))))
def R_20_5 (K : PySem.W.Frag) (A : Adr) : TS := tRet (tTup (tCons (tCB (kMin) (tCons (mVar 3) (tCons (mVar 4) (tNil)))) (tCons (tCB (kMax) (tCons (mVar 3) (tCons (mVar 4) (tNil)))) (tNil))))
def R_20_4 (K : PySem.W.Frag) (A : Adr) : TS := tSeq (mIfS (mTest (tOp (mEqC K) (tOp (mMod) (mVar 2) (tC (.int 16))) (tC (.int 5)))) (tRet (tTup (tCons (tC (.int 0)) (tCons (tOp (mSub) (tOp (mShl) (tC (.int 1)) (mVar 0)) (tC (.int 1))) (tNil))))) (tNext)) (R_20_5 K A)
def R_20_3 (K : PySem.W.Frag) (A : Adr) : TS := tSeq (mIfS (mTest (tOp (mEqC K) (tOp (mMod) (mVar 1) (tC (.int 4))) (tC (.int 1)))) (tAsg (mVar 3) (gName 4)) (tNext)) (R_20_4 K A)
def T_20 (K : PySem.W.Frag) (A : Adr) : TS := tSeq (tAsg (tCallX (sp_4 K A) (fun _ => E0) (tCons (mVar 0) (tCons (mVar 1) (tCons (tLst (tNil)) (tNil))))) (gName 3)) (tSeq (tAsg (tCallX (sp_4 K A) (fun _ => E0) (tCons (mVar 0) (tCons (mVar 2) (tCons (tLst (tCons (mVar 3) (tNil))) (tNil))))) (gName 4)) (tSeq (mIfS (mTest (tOp (mEqC K) (tOp (mMod) (mVar 2) (tC (.int 7))) (tC (.int 3)))) (tAsg (tCB (kMin) (tCons (tOp (mAddG K) (mVar 3) (tOp (mMod) (tOp (mFdivB) (mVar 2) (tC (.int 7))) (tC (.int 40)))) (tCons (tOp (mSub) (tOp (mShl) (tC (.int 1)) (mVar 0)) (tC (.int 1))) (tNil)))) (gName 4)) (tNext)) (tSeq (mIfS (mTest (tOp (mEqC K) (tOp (mMod) (mVar 1) (tC (.int 4))) (tC (.int 1)))) (tAsg (mVar 3) (gName 4)) (tNext)) (tSeq (mIfS (mTest (tOp (mEqC K) (tOp (mMod) (mVar 2) (tC (.int 16))) (tC (.int 5)))) (tRet (tTup (tCons (tC (.int 0)) (tCons (tOp (mSub) (tOp (mShl) (tC (.int 1)) (mVar 0)) (tC (.int 1))) (tNil))))) (tNext)) (tRet (tTup (tCons (tCB (kMin) (tCons (mVar 3) (tCons (mVar 4) (tNil)))) (tCons (tCB (kMax) (tCons (mVar 3) (tCons (mVar 4) (tNil)))) (tNil)))))))))
def T_9 (K : PySem.W.Frag) (A : Adr) : TS := tRet (tOp (mMod) (tOp (mMulB) (tOp (mMod) (tOp (mAddG K) (tOp (mMulB) (tOp (mAddG K) (mVar 0) (tC (.int 1))) (tC (.int 69621))) (tOp (mMulB) (tOp (mAddG K) (tOp (mAddG K) (tOp (mMulB) (mVar 2) (tC (.int 31))) (mVar 1)) (tC (.int 7))) (tC (.int 48271)))) (tC (.int 1000003))) (tC (.int 7919))) (tC (.int 999983)))
def T_8 (K : PySem.W.Frag) (A : Adr) : TS := tSeq (tAsg (tOp (mShl) (tC (.int 1)) (tOp (mSub) (mVar 0) (mVar 3))) (gName 5)) (tRet (mAndV (tOp (mLe) (tOp (mMulB) (mVar 4) (mVar 5)) (mVar 2)) (tOp (mLt) (mVar 1) (tOp (mMulB) (tOp (mAddG K) (mVar 4) (tC (.int 1))) (mVar 5)))))
def T_7 (K : PySem.W.Frag) (A : Adr) : TS := tSeq (tAsg (tOp (mMod) (tOp (mMulB) (mVar 0) (tC (.int 69621))) (tC (.int 1000003))) (gName 0)) (tSeq (mIfS (mTest (tOp (mEqC K) (tOp (mMod) (mVar 0) (tC (.int 4))) (tC (.int 0)))) (tRet (tOp (mAddG K) (tC (.str "m")) (tCB (kStr) (tCons (tOp (mMod) (mVar 0) (tC (.int 50))) (tNil))))) (tNext)) (tSeq (mIfS (mTest (tOp (mEqC K) (tOp (mMod) (mVar 0) (tC (.int 4))) (tC (.int 1)))) (tRet (tOp (mMod) (tOp (mFdivB) (mVar 0) (tC (.int 4))) (tC (.int 12)))) (tNext)) (tSeq (mIfS (mTest (tOp (mEqC K) (tOp (mMod) (mVar 0) (tC (.int 4))) (tC (.int 2)))) (tRet (tOp (mMulB) (mVar 0) (tOp (mPow) (tC (.int 10)) (tC (.int 30))))) (tNext)) (tRet (tOp (mSub) (tOp (mSub) (tOp (mPow) (tC (.int 10)) (tC (.int 60))) (tC (.int 1))) (mVar 0))))))
def R_24_7 (K : PySem.W.Frag) (A : Adr) : TS := tRet (mVar 3)
def R_24_6 (K : PySem.W.Frag) (A : Adr) : TS := tSeq (tFor (iRng1 (tCons (mVar 2) (tNil))) (gName 4) (tAsg (tOp (mAddG K) (mVar 3) (tOp (rIxA K) (mVar 1) (tOp (mMod) (tOp (mAddG K) (tOp (mFdivB) (mVar 0) (tC (.int 4))) (tOp (mMulB) (mVar 4) (tOp (mMod) (tOp (mFdivB) (mVar 0) (tC (.int 128))) (tC (.int 5))))) (tCB (kLenA K) (tCons (mVar 1) (tNil)))))) (gName 3))) (R_24_7 K A)
def R_24_5 (K : PySem.W.Frag) (A : Adr) : TS := tSeq (tAsg (tC (.str "")) (gName 3)) (R_24_6 K A)
def R_24_4 (K : PySem.W.Frag) (A : Adr) : TS := tSeq (mIfS (mTest (tOp (mEqC K) (tOp (mMod) (tOp (mFdivB) (mVar 0) (tC (.int 4))) (tC (.int 8))) (tC (.int 2)))) (tAsg (tOp (mMod) (tOp (mFdivB) (mVar 0) (tC (.int 32))) (tC (.int 61))) (gName 2)) (tNext)) (R_24_5 K A)
def T_24 (K : PySem.W.Frag) (A : Adr) : TS := tSeq (tAsg (tC (.str " !\"#$&'()*+,-./0123456789:;<=>?@ABCDEFGHIJKLMNOPQRSTUVWXYZ[\\]^_`")) (gName 1)) (tSeq (tAsg (tOp (mAddG K) (mVar 1) (tC (.str "abcdefghijklmnopqrstuvwxyz{|}~"))) (gName 1)) (tSeq (tAsg (tOp (mMod) (mVar 0) (tC (.int 4))) (gName 2)) (tSeq (mIfS (mTest (tOp (mEqC K) (tOp (mMod) (tOp (mFdivB) (mVar 0) (tC (.int 4))) (tC (.int 8))) (tC (.int 1)))) (tAsg (tC (.int 60)) (gName 2)) (tNext)) (tSeq (mIfS (mTest (tOp (mEqC K) (tOp (mMod) (tOp (mFdivB) (mVar 0) (tC (.int 4))) (tC (.int 8))) (tC (.int 2)))) (tAsg (tOp (mMod) (tOp (mFdivB) (mVar 0) (tC (.int 32))) (tC (.int 61))) (gName 2)) (tNext)) (tSeq (tAsg (tC (.str "")) (gName 3)) (tSeq (tFor (iRng1 (tCons (mVar 2) (tNil))) (gName 4) (tAsg (tOp (mAddG K) (mVar 3) (tOp (rIxA K) (mVar 1) (tOp (mMod) (tOp (mAddG K) (tOp (mFdivB) (mVar 0) (tC (.int 4))) (tOp (mMulB) (mVar 4) (tOp (mMod) (tOp (mFdivB) (mVar 0) (tC (.int 128))) (tC (.int 5))))) (tCB (kLenA K) (tCons (mVar 1) (tNil)))))) (gName 3))) (tRet (mVar 3))))))))
def T_1 (K : PySem.W.Frag) (A : Adr) : TS := tSeq (mIfS (mTest (tOp (mEqC K) (tOp (mMod) (mVar 0) (tC (.int 5))) (tC (.int 0)))) (tRet (tOp (mAddG K) (tOp (mShl) (mVar 1) (mVar 2)) (tOp (mMod) (tOp (mMulB) (mVar 0) (tC (.int 48271))) (tOp (mShl) (tC (.int 1)) (mVar 2))))) (tNext)) (tSeq (tAsg (tOp (mShr) (tOp (mAddG K) (mVar 3) (tOp (mMod) (mVar 0) (tOp (mAddG K) (tOp (mSub) (mVar 4) (mVar 3)) (tC (.int 1))))) (tOp (mSub) (mVar 5) (mVar 2))) (gName 6)) (tSeq (mIfS (mTest (tOp (mNeB K) (tOp (mShr) (mVar 6) (mVar 2)) (mVar 1))) (tRet (tOp (mShl) (mVar 1) (mVar 2))) (tNext)) (tRet (mVar 6))))
def R_13_9 (K : PySem.W.Frag) (A : Adr) (n : Nat) : TS := tRet (tTup (tCons (tC (.str "fork")) (tCons (tOp (mAddG K) (mVar 4) (mVar 10)) (tCons (mVar 11) (tCons (mVar 12) (tCons (mVar 13) (tNil)))))))
def R_13_8 (K : PySem.W.Frag) (A : Adr) (n : Nat) : TS := tSeq (tAsg (tCallX (sp_13 K A n) (fun _ => E0) (tCons (mVar 0) (tCons (mVar 1) (tCons (mVar 2) (tCons (mVar 3) (tCons (tOp (mAddG K) (tOp (mAddG K) (mVar 4) (mVar 10)) (tC (.int 1))) (tCons (tOp (mAddG K) (tOp (mMulB) (tC (.int 2)) (mVar 11)) (tC (.int 1))) (tCons (tOp (mSub) (mVar 6) (tC (.int 1))) (tNil))))))))) (gName 13)) (R_13_9 K A n)
def R_13_7 (K : PySem.W.Frag) (A : Adr) (n : Nat) : TS := tSeq (tAsg (tCallX (sp_13 K A n) (fun _ => E0) (tCons (mVar 0) (tCons (mVar 1) (tCons (mVar 2) (tCons (mVar 3) (tCons (tOp (mAddG K) (tOp (mAddG K) (mVar 4) (mVar 10)) (tC (.int 1))) (tCons (tOp (mMulB) (tC (.int 2)) (mVar 11)) (tCons (tOp (mSub) (mVar 6) (tC (.int 1))) (tNil))))))))) (gName 12)) (R_13_8 K A n)
def R_13_6 (K : PySem.W.Frag) (A : Adr) (n : Nat) : TS := tSeq (tAsg (tCallX (sp_1 K A) (fun _ => E0) (tCons (mVar 7) (tCons (mVar 5) (tCons (mVar 10) (tCons (mVar 2) (tCons (mVar 3) (tCons (mVar 8) (tNil)))))))) (gName 11)) (R_13_7 K A n)
def R_13_5 (K : PySem.W.Frag) (A : Adr) (n : Nat) : TS := tSeq (tAsg (tOp (rIxA K) (tLst (tCons (tC (.int 0)) (tCons (tOp (mMod) (tOp (mFdivB) (mVar 7) (tC (.int 7))) (mVar 8)) (tCons (tC (.int 0)) (tCons (tOp (mMod) (tOp (mFdivB) (mVar 7) (tC (.int 7))) (tCB (kMin) (tCons (mVar 8) (tCons (tC (.int 3)) (tNil))))) (tNil)))))) (tOp (mMod) (mVar 7) (tC (.int 4)))) (gName 10)) (R_13_6 K A n)
def R_13_4 (K : PySem.W.Frag) (A : Adr) (n : Nat) : TS := tSeq (mIfS (mOr (mTest (tOp (mLt) (mVar 6) (tC (.int 1)))) (mOr (mTest (tOp (mEqC K) (mVar 8) (tC (.int 0)))) (mAnd (mTest (tOp (mEqC K) (tOp (mMod) (mVar 7) (tC (.int 7))) (tC (.int 0)))) (mTest (tOp (mLt) (mVar 6) (tC (.int 30))))))) (tSeq (tAsg (tOp (mAddG K) (tOp (mMulB) (mVar 5) (tOp (mShl) (tC (.int 1)) (mVar 8))) (tOp (mMod) (tOp (mMulB) (tOp (mFdivB) (mVar 7) (tC (.int 7))) (tC (.int 982451653))) (tOp (mShl) (tC (.int 1)) (mVar 8)))) (gName 9)) (tSeq (mIfS (mAnd (mTest (tOp (mEqC K) (tOp (mMod) (mVar 7) (tC (.int 3))) (tC (.int 0)))) (mTest (tOp (mEqC K) (tOp (mShr) (mVar 2) (mVar 8)) (mVar 5)))) (tAsg (mVar 2) (gName 9)) (tNext)) (tRet (tTup (tCons (tC (.str "leaf")) (tCons (mVar 9) (tCons (tCallX (sp_24 K A) (fun _ => E0) (tCons (tOp (mFdivB) (mVar 7) (tC (.int 3))) (tNil))) (tNil)))))))) (tNext)) (R_13_5 K A n)
def R_13_3 (K : PySem.W.Frag) (A : Adr) (n : Nat) : TS := tSeq (tAsg (tOp (mSub) (mVar 1) (mVar 4)) (gName 8)) (R_13_4 K A n)
def T_13 (K : PySem.W.Frag) (A : Adr) (n : Nat) : TS := tSeq (tAsg (tCallX (sp_9 K A) (fun _ => E0) (tCons (mVar 0) (tCons (mVar 4) (tCons (mVar 5) (tNil))))) (gName 7)) (tSeq (mIfS (tNot (mTru K (tCallX (sp_8 K A) (fun _ => E0) (tCons (mVar 1) (tCons (mVar 2) (tCons (mVar 3) (tCons (mVar 4) (tCons (mVar 5) (tNil))))))))) (tRet (tTup (tCons (tC (.str "cut")) (tCons (tCallX (sp_7 K A) (fun _ => E0) (tCons (mVar 7) (tNil))) (tNil))))) (tNext)) (tSeq (mIfS (mAnd (mTest (tOp (mEqC K) (mVar 4) (tC (.int 0)))) (mTest (tOp (mEqC K) (tOp (mMod) (mVar 7) (tC (.int 11))) (tC (.int 0))))) (tRet (tTup (tCons (tC (.str "bare")) (tNil)))) (tNext)) (tSeq (tAsg (tOp (mSub) (mVar 1) (mVar 4)) (gName 8)) (tSeq (mIfS (mOr (mTest (tOp (mLt) (mVar 6) (tC (.int 1)))) (mOr (mTest (tOp (mEqC K) (mVar 8) (tC (.int 0)))) (mAnd (mTest (tOp (mEqC K) (tOp (mMod) (mVar 7) (tC (.int 7))) (tC (.int 0)))) (mTest (tOp (mLt) (mVar 6) (tC (.int 30))))))) (tSeq (tAsg (tOp (mAddG K) (tOp (mMulB) (mVar 5) (tOp (mShl) (tC (.int 1)) (mVar 8))) (tOp (mMod) (tOp (mMulB) (tOp (mFdivB) (mVar 7) (tC (.int 7))) (tC (.int 982451653))) (tOp (mShl) (tC (.int 1)) (mVar 8)))) (gName 9)) (tSeq (mIfS (mAnd (mTest (tOp (mEqC K) (tOp (mMod) (mVar 7) (tC (.int 3))) (tC (.int 0)))) (mTest (tOp (mEqC K) (tOp (mShr) (mVar 2) (mVar 8)) (mVar 5)))) (tAsg (mVar 2) (gName 9)) (tNext)) (tRet (tTup (tCons (tC (.str "leaf")) (tCons (mVar 9) (tCons (tCallX (sp_24 K A) (fun _ => E0) (tCons (tOp (mFdivB) (mVar 7) (tC (.int 3))) (tNil))) (tNil)))))))) (tNext)) (tSeq (tAsg (tOp (rIxA K) (tLst (tCons (tC (.int 0)) (tCons (tOp (mMod) (tOp (mFdivB) (mVar 7) (tC (.int 7))) (mVar 8)) (tCons (tC (.int 0)) (tCons (tOp (mMod) (tOp (mFdivB) (mVar 7) (tC (.int 7))) (tCB (kMin) (tCons (mVar 8) (tCons (tC (.int 3)) (tNil))))) (tNil)))))) (tOp (mMod) (mVar 7) (tC (.int 4)))) (gName 10)) (tSeq (tAsg (tCallX (sp_1 K A) (fun _ => E0) (tCons (mVar 7) (tCons (mVar 5) (tCons (mVar 10) (tCons (mVar 2) (tCons (mVar 3) (tCons (mVar 8) (tNil)))))))) (gName 11)) (tSeq (tAsg (tCallX (sp_13 K A n) (fun _ => E0) (tCons (mVar 0) (tCons (mVar 1) (tCons (mVar 2) (tCons (mVar 3) (tCons (tOp (mAddG K) (tOp (mAddG K) (mVar 4) (mVar 10)) (tC (.int 1))) (tCons (tOp (mMulB) (tC (.int 2)) (mVar 11)) (tCons (tOp (mSub) (mVar 6) (tC (.int 1))) (tNil))))))))) (gName 12)) (tSeq (tAsg (tCallX (sp_13 K A n) (fun _ => E0) (tCons (mVar 0) (tCons (mVar 1) (tCons (mVar 2) (tCons (mVar 3) (tCons (tOp (mAddG K) (tOp (mAddG K) (mVar 4) (mVar 10)) (tC (.int 1))) (tCons (tOp (mAddG K) (tOp (mMulB) (tC (.int 2)) (mVar 11)) (tC (.int 1))) (tCons (tOp (mSub) (mVar 6) (tC (.int 1))) (tNil))))))))) (gName 13)) (tRet (tTup (tCons (tC (.str "fork")) (tCons (tOp (mAddG K) (mVar 4) (mVar 10)) (tCons (mVar 11) (tCons (mVar 12) (tCons (mVar 13) (tNil))))))))))))))))
def R_12_2 (K : PySem.W.Frag) (A : Adr) : TS := tRet (tCallX (sp_13 K A 70) (fun _ => E0) (tCons (mVar 0) (tCons (mVar 1) (tCons (mVar 2) (tCons (mVar 3) (tCons (tC (.int 0)) (tCons (tC (.int 0)) (tCons (mVar 4) (tNil)))))))))
def T_12 (K : PySem.W.Frag) (A : Adr) : TS := tSeq (tAsg (tOp (mAddG K) (tC (.int 1)) (tOp (mMod) (tOp (mFdivB) (mVar 0) (tC (.int 7))) (tC (.int 5)))) (gName 4)) (tSeq (mIfS (mTest (tOp (mEqC K) (mVar 2) (mVar 3))) (tAsg (tOp (rIxA K) (tLst (tCons (tC (.int 60)) (tCons (tC (.int 20)) (tCons (mVar 4) (tNil))))) (tOp (mMod) (mVar 0) (tC (.int 3)))) (gName 4)) (tNext)) (tRet (tCallX (sp_13 K A 70) (fun _ => E0) (tCons (mVar 0) (tCons (mVar 1) (tCons (mVar 2) (tCons (mVar 3) (tCons (tC (.int 0)) (tCons (tC (.int 0)) (tCons (mVar 4) (tNil)))))))))))
def T_19 (K : PySem.W.Frag) (A : Adr) (n : Nat) : TS := tSeq (tAsg (tLst (tCons (tTup (tCons (mVar 1) (tCons (mVar 2) (tCons (mVar 3) (tNil))))) (tNil))) (gName 4)) (tSeq (mIfS (mTest (tOp (mEqC K) (tOp (rIxA K) (mVar 0) (tC (.int 0))) (tC (.str "fork")))) (tSeq (tAsg (tOp (mAddG K) (mVar 4) (tCallX (sp_19 K A n) (fun _ => E0) (tCons (tOp (rIxA K) (mVar 0) (tC (.int 3))) (tCons (tOp (mAddG K) (tOp (rIxA K) (mVar 0) (tC (.int 1))) (tC (.int 1))) (tCons (tOp (mMulB) (tC (.int 2)) (tOp (rIxA K) (mVar 0) (tC (.int 2)))) (tCons (tOp (mAddG K) (mVar 3) (tTup (tCons (tC (.int 3)) (tNil)))) (tNil))))))) (gName 4)) (tAsg (tOp (mAddG K) (mVar 4) (tCallX (sp_19 K A n) (fun _ => E0) (tCons (tOp (rIxA K) (mVar 0) (tC (.int 4))) (tCons (tOp (mAddG K) (tOp (rIxA K) (mVar 0) (tC (.int 1))) (tC (.int 1))) (tCons (tOp (mAddG K) (tOp (mMulB) (tC (.int 2)) (tOp (rIxA K) (mVar 0) (tC (.int 2)))) (tC (.int 1))) (tCons (tOp (mAddG K) (mVar 3) (tTup (tCons (tC (.int 4)) (tNil)))) (tNil))))))) (gName 4))) (tNext)) (tRet (mVar 4)))
def T_15 (K : PySem.W.Frag) (A : Adr) : TS := tSeq (tFor (iSeqA K (mVar 1)) (gName 2) (tAsg (tOp (rIxA K) (mVar 0) (mVar 2)) (gName 0))) (tRet (mVar 0))
def T_21 (K : PySem.W.Frag) (A : Adr) (q0 q1 : Addr) : TSM := mSeq (mLift (tAsg (tDNewA) (gName 1))) (mSeq (mLift (tAsg (tLam A.t_21 ⟨146, 4, 147, 81⟩ ct_22 [q1, q0]) (gName 2))) (mRet (mVar 2)))
def T_10 (K : PySem.W.Frag) (A : Adr) (n : Nat) : TS := tSeq (mIfS (mTest (tOp (mEqC K) (tOp (rIxA K) (mVar 1) (tC (.int 0))) (tC (.str "cut")))) (tRet (tTup (tCons (tOp (rIxA K) (mVar 1) (tC (.int 1))) (tCons (tLst (tNil)) (tNil))))) (tNext)) (tSeq (mIfS (mTest (tOp (mNeB K) (tOp (rIxA K) (mVar 1) (tC (.int 0))) (tC (.str "fork")))) (tRet (tTup (tCons (tHeld (Knd1 K A) (fun _ => E0) (mVar 0) (tCons (mVar 1) (tNil))) (tCons (tLst (tCons (mVar 1) (tNil))) (tNil))))) (tNext)) (tSeq (tAsg (tCallX (sp_10 K A n) (fun _ => E0) (tCons (mVar 0) (tCons (tOp (rIxA K) (mVar 1) (tC (.int 3))) (tNil)))) (gName 2)) (tSeq (tAsg (tCallX (sp_10 K A n) (fun _ => E0) (tCons (mVar 0) (tCons (tOp (rIxA K) (mVar 1) (tC (.int 4))) (tNil)))) (gName 3)) (tSeq (tAsg (tTup (tCons (tC (.str "fork")) (tCons (tOp (rIxA K) (mVar 1) (tC (.int 1))) (tCons (tOp (rIxA K) (mVar 1) (tC (.int 2))) (tCons (tOp (rIxA K) (mVar 2) (tC (.int 0))) (tCons (tOp (rIxA K) (mVar 3) (tC (.int 0))) (tNil))))))) (gName 4)) (tRet (tTup (tCons (tHeld (Knd1 K A) (fun _ => E0) (mVar 0) (tCons (mVar 4) (tNil))) (tCons (tOp (mAddG K) (tOp (mAddG K) (tOp (rIxA K) (mVar 2) (tC (.int 1))) (tOp (rIxA K) (mVar 3) (tC (.int 1)))) (tLst (tCons (mVar 4) (tNil)))) (tNil)))))))))
def T_16 (K : PySem.W.Frag) (A : Adr) (q0 q1 q2 : Addr) : TSM := mSeq (mLift (tAsg (tLam A.t_16 ⟨151, 4, 154, 39⟩ ct_17 [q0, q2, q1]) (gName 3))) (mRet (mVar 3))
def T_25 (K : PySem.W.Frag) (A : Adr) (n : Nat) : TS := tSeq (mIfS (mTest (tOp (mEqC K) (mVar 1) (tTup (tNil)))) (tRet (mVar 2)) (tNext)) (tSeq (tAsg (tOp (rIxA K) (mVar 1) (tC (.int 0))) (gName 3)) (tRet (tOp (mAddG K) (tOp (mAddG K) (tSl (rSlA K) (mVar 0) (tNoPart) (tPart (mVar 3))) (tTup (tCons (tCallX (sp_25 K A n) (fun _ => E0) (tCons (tOp (rIxA K) (mVar 0) (mVar 3)) (tCons (tSl (rSlA K) (mVar 1) (tPart (tC (.int 1))) (tNoPart)) (tCons (mVar 2) (tNil))))) (tNil)))) (tSl (rSlA K) (mVar 0) (tPart (tOp (mAddG K) (mVar 3) (tC (.int 1)))) (tNoPart)))))
def T_14 (K : PySem.W.Frag) (A : Adr) : TS := tSeq (mIfS (mTru K (tCB (kIsi) (tCons (mVar 1) (tCons (tC (.ty "str")) (tNil))))) (tRet (mAndV (tCB (kIsi) (tCons (mVar 0) (tCons (tC (.ty "str")) (tNil)))) (tOp (mEqC K) (mVar 0) (mVar 1)))) (tNext)) (tRet (mAndV (tCB (kIsi) (tCons (mVar 0) (tCons (tC (.ty "int")) (tNil)))) (mAndV (mNotV (tCB (kIsi) (tCons (mVar 0) (tCons (tC (.ty "bool")) (tNil))))) (tOp (mEqC K) (mVar 0) (mVar 1)))))
def T_37 (K : PySem.W.Frag) (A : Adr) : TS := tRet (mAndV (tCB (kIsi) (tCons (mVar 0) (tCons (tC (.ty "int")) (tNil)))) (mNotV (tCB (kIsi) (tCons (mVar 0) (tCons (tC (.ty "bool")) (tNil))))))
def T_32 (K : PySem.W.Frag) (A : Adr) : TS := tRet (mAndV (tCallX (sp_37 K A) (fun _ => E0) (tCons (mVar 1) (tNil))) (mChain (mLe) (mLt) (tC (.int 0)) (mVar 1) (tOp (mShl) (tC (.int 1)) (mVar 0))))
def T_28 (K : PySem.W.Frag) (A : Adr) : TS := tSeq (mIfS (mOr (tNot (mTru K (tCallX (sp_32 K A) (fun _ => E0) (tCons (mVar 0) (tCons (mVar 1) (tNil)))))) (tNot (mTru K (tCallX (sp_32 K A) (fun _ => E0) (tCons (mVar 0) (tCons (mVar 2) (tNil))))))) (tNever) (tNext)) (mIfS (mTest (tOp (mGt) (mVar 1) (mVar 2))) (tNever) (tNext))
def T_43 (K : PySem.W.Frag) (A : Adr) : TS := tSeq (tAsg (tOp (mSub) (mVar 0) (mVar 1)) (gName 3)) (tRet (tTup (tCons (tOp (mShl) (mVar 2) (mVar 3)) (tCons (tOp (mSub) (tOp (mShl) (tOp (mAddG K) (mVar 2) (tC (.int 1))) (mVar 3)) (tC (.int 1))) (tNil)))))
def T_39 (K : PySem.W.Frag) (A : Adr) : TS := tSeq (tAsg (tCallX (sp_43 K A) (fun _ => E0) (tCons (mVar 0) (tCons (mVar 3) (tCons (mVar 4) (tNil))))) (gName 5)) (tRet (mAndV (tOp (mLe) (tOp (rIxA K) (mVar 5) (tC (.int 0))) (mVar 2)) (tOp (mLe) (mVar 1) (tOp (rIxA K) (mVar 5) (tC (.int 1))))))
def T_35 (K : PySem.W.Frag) (A : Adr) : TS := tSeq (mIfS (mTru K (tCallX (sp_37 K A) (fun _ => E0) (tCons (mVar 0) (tNil)))) (tRet (mChain (mLe) (mLt) (tC (.int 0)) (mVar 0) (tOp (mPow) (tC (.int 10)) (tC (.int 60))))) (tNext)) (tRet (tCB (kIsi) (tCons (mVar 0) (tCons (tC (.ty "str")) (tNil)))))
def T_30 (K : PySem.W.Frag) (A : Adr) : TS := tRet (mAndV (tCB (kIsi) (tCons (mVar 0) (tCons (tC (.ty "tuple")) (tNil)))) (mAndV (tOp (mEqC K) (tCB (kLenA K) (tCons (mVar 0) (tNil))) (tC (.int 2))) (mAndV (tOp (mEqC K) (tOp (rIxA K) (mVar 0) (tC (.int 0))) (tC (.str "cut"))) (tCallX (sp_35 K A) (fun _ => E0) (tCons (tOp (rIxA K) (mVar 0) (tC (.int 1))) (tNil))))))
def T_36 (K : PySem.W.Frag) (A : Adr) : TS := tRet (mAndV (tCB (kIsi) (tCons (mVar 0) (tCons (tC (.ty "str")) (tNil)))) (tOp (mLe) (tCB (kLenA K) (tCons (mVar 0) (tNil))) (tC (.int 60))))
def T_44 (K : PySem.W.Frag) (A : Adr) : TS := tRet (tOp (mShr) (mVar 1) (tOp (mSub) (mVar 0) (mVar 2)))
def T_33 (K : PySem.W.Frag) (A : Adr) : TS := tSeq (mIfS (mOr (tNot (mTru K (tCB (kIsi) (tCons (mVar 3) (tCons (tC (.ty "tuple")) (tNil)))))) (mOr (mTest (tOp (mNeB K) (tCB (kLenA K) (tCons (mVar 3) (tNil))) (tC (.int 3)))) (mTest (tOp (mNeB K) (tOp (rIxA K) (mVar 3) (tC (.int 0))) (tC (.str "leaf")))))) (tRet (tC (.bl false))) (tNext)) (tSeq (mIfS (mOr (tNot (mTru K (tCallX (sp_32 K A) (fun _ => E0) (tCons (mVar 0) (tCons (tOp (rIxA K) (mVar 3) (tC (.int 1))) (tNil)))))) (tNot (mTru K (tCallX (sp_36 K A) (fun _ => E0) (tCons (tOp (rIxA K) (mVar 3) (tC (.int 2))) (tNil)))))) (tRet (tC (.bl false))) (tNext)) (tRet (tOp (mEqC K) (tCallX (sp_44 K A) (fun _ => E0) (tCons (mVar 0) (tCons (tOp (rIxA K) (mVar 3) (tC (.int 1))) (tCons (mVar 1) (tNil))))) (mVar 2))))
def T_31 (K : PySem.W.Frag) (A : Adr) : TS := tSeq (mIfS (mOr (tNot (mTru K (tCB (kIsi) (tCons (mVar 3) (tCons (tC (.ty "tuple")) (tNil)))))) (mOr (mTest (tOp (mNeB K) (tCB (kLenA K) (tCons (mVar 3) (tNil))) (tC (.int 5)))) (mTest (tOp (mNeB K) (tOp (rIxA K) (mVar 3) (tC (.int 0))) (tC (.str "fork")))))) (tRet (tC (.bl false))) (tNext)) (tSeq (mIfS (mOr (tNot (mTru K (tCallX (sp_37 K A) (fun _ => E0) (tCons (tOp (rIxA K) (mVar 3) (tC (.int 1))) (tNil))))) (tNot (mTest (mChain (mLe) (mLt) (mVar 1) (tOp (rIxA K) (mVar 3) (tC (.int 1))) (mVar 0))))) (tRet (tC (.bl false))) (tNext)) (tSeq (mIfS (mOr (tNot (mTru K (tCallX (sp_37 K A) (fun _ => E0) (tCons (tOp (rIxA K) (mVar 3) (tC (.int 2))) (tNil))))) (tNot (mTest (mChain (mLe) (mLt) (tC (.int 0)) (tOp (rIxA K) (mVar 3) (tC (.int 2))) (tOp (mShl) (tC (.int 1)) (tOp (rIxA K) (mVar 3) (tC (.int 1)))))))) (tRet (tC (.bl false))) (tNext)) (tRet (tOp (mEqC K) (tOp (mShr) (tOp (rIxA K) (mVar 3) (tC (.int 2))) (tOp (mSub) (tOp (rIxA K) (mVar 3) (tC (.int 1))) (mVar 1))) (mVar 2)))))
def R_34_2 (K : PySem.W.Frag) (A : Adr) : TS := tRet (mOrV (tCallX (sp_33 K A) (fun _ => E0) (tCons (mVar 0) (tCons (mVar 3) (tCons (mVar 4) (tCons (mVar 5) (tNil)))))) (tCallX (sp_31 K A) (fun _ => E0) (tCons (mVar 0) (tCons (mVar 3) (tCons (mVar 4) (tCons (mVar 5) (tNil)))))))
def R_34_1 (K : PySem.W.Frag) (A : Adr) : TS := tSeq (mIfS (mTest (tOp (mEqC K) (mVar 5) (tTup (tCons (tC (.str "bare")) (tNil))))) (tRet (tOp (mEqC K) (mVar 3) (tC (.int 0)))) (tNext)) (R_34_2 K A)
def T_34 (K : PySem.W.Frag) (A : Adr) : TS := tSeq (mIfS (tNot (mTru K (tCallX (sp_39 K A) (fun _ => E0) (tCons (mVar 0) (tCons (mVar 1) (tCons (mVar 2) (tCons (mVar 3) (tCons (mVar 4) (tNil))))))))) (tRet (tCallX (sp_30 K A) (fun _ => E0) (tCons (mVar 5) (tNil)))) (tNext)) (tSeq (mIfS (mTest (tOp (mEqC K) (mVar 5) (tTup (tCons (tC (.str "bare")) (tNil))))) (tRet (tOp (mEqC K) (mVar 3) (tC (.int 0)))) (tNext)) (tRet (mOrV (tCallX (sp_33 K A) (fun _ => E0) (tCons (mVar 0) (tCons (mVar 3) (tCons (mVar 4) (tCons (mVar 5) (tNil)))))) (tCallX (sp_31 K A) (fun _ => E0) (tCons (mVar 0) (tCons (mVar 3) (tCons (mVar 4) (tCons (mVar 5) (tNil)))))))))
def T_27 (K : PySem.W.Frag) (A : Adr) (n : Nat) : TS := tSeq (mIfS (tNot (mTru K (tCallX (sp_34 K A) (fun _ => E0) (tCons (mVar 0) (tCons (mVar 1) (tCons (mVar 2) (tCons (mVar 3) (tCons (mVar 4) (tCons (mVar 5) (tNil)))))))))) (tNever) (tNext)) (mIfS (mTest (tOp (mEqC K) (tOp (rIxA K) (mVar 5) (tC (.int 0))) (tC (.str "fork")))) (tSeq (tDrop (tCallX (sp_27 K A n) (fun _ => E0) (tCons (mVar 0) (tCons (mVar 1) (tCons (mVar 2) (tCons (tOp (mAddG K) (tOp (rIxA K) (mVar 5) (tC (.int 1))) (tC (.int 1))) (tCons (tOp (mMulB) (tC (.int 2)) (tOp (rIxA K) (mVar 5) (tC (.int 2)))) (tCons (tOp (rIxA K) (mVar 5) (tC (.int 3))) (tNil))))))))) (tDrop (tCallX (sp_27 K A n) (fun _ => E0) (tCons (mVar 0) (tCons (mVar 1) (tCons (mVar 2) (tCons (tOp (mAddG K) (tOp (rIxA K) (mVar 5) (tC (.int 1))) (tC (.int 1))) (tCons (tOp (mAddG K) (tOp (mMulB) (tC (.int 2)) (tOp (rIxA K) (mVar 5) (tC (.int 2)))) (tC (.int 1))) (tCons (tOp (rIxA K) (mVar 5) (tC (.int 4))) (tNil)))))))))) (tNext))
def T_26 (K : PySem.W.Frag) (A : Adr) : TS := tSeq (tDrop (tCallX (sp_28 K A) (fun _ => E0) (tCons (mVar 0) (tCons (mVar 1) (tCons (mVar 2) (tNil)))))) (tDrop (tCallX (sp_27 K A 70) (fun _ => E0) (tCons (mVar 0) (tCons (mVar 1) (tCons (mVar 2) (tCons (tC (.int 0)) (tCons (tC (.int 0)) (tCons (mVar 3) (tNil)))))))))
def T_40 (K : PySem.W.Frag) (A : Adr) : TS := tRet (mIf (mTest (tOp (mEqC K) (tOp (rIxA K) (mVar 1) (tC (.int 0))) (tC (.str "cut")))) (tOp (rIxA K) (mVar 1) (tC (.int 1))) (tHeld (Knd1 K A) (fun _ => E0) (mVar 0) (tCons (tOp (rIxA K) (mVar 2) (tUn mNeg (tC (.int 1)))) (tNil))))
def T_41 (K : PySem.W.Frag) (A : Adr) (n : Nat) : TS := tSeq (mIfS (mTest (tOp (mEqC K) (tOp (rIxA K) (mVar 1) (tC (.int 0))) (tC (.str "cut")))) (tRet (tLst (tNil))) (tNext)) (tSeq (mIfS (mTest (tOp (mNeB K) (tOp (rIxA K) (mVar 1) (tC (.int 0))) (tC (.str "fork")))) (tRet (tLst (tCons (mVar 1) (tNil)))) (tNext)) (tSeq (tAsg (tCallX (sp_41 K A n) (fun _ => E0) (tCons (mVar 0) (tCons (tOp (rIxA K) (mVar 1) (tC (.int 3))) (tNil)))) (gName 2)) (tSeq (tAsg (tCallX (sp_41 K A n) (fun _ => E0) (tCons (mVar 0) (tCons (tOp (rIxA K) (mVar 1) (tC (.int 4))) (tNil)))) (gName 3)) (tSeq (tAsg (tTup (tCons (tCallX (sp_40 K A) (fun _ => E0) (tCons (mVar 0) (tCons (tOp (rIxA K) (mVar 1) (tC (.int 3))) (tCons (mVar 2) (tNil))))) (tCons (tCallX (sp_40 K A) (fun _ => E0) (tCons (mVar 0) (tCons (tOp (rIxA K) (mVar 1) (tC (.int 4))) (tCons (mVar 3) (tNil))))) (tNil)))) (gName 4)) (tRet (tOp (mAddG K) (tOp (mAddG K) (mVar 2) (mVar 3)) (tLst (tCons (tTup (tCons (tC (.str "fork")) (tCons (tOp (rIxA K) (mVar 1) (tC (.int 1))) (tCons (tOp (rIxA K) (mVar 1) (tC (.int 2))) (tCons (tOp (rIxA K) (mVar 4) (tC (.int 0))) (tCons (tOp (rIxA K) (mVar 4) (tC (.int 1))) (tNil))))))) (tNil)))))))))
def T_47 (K : PySem.W.Frag) (A : Adr) : TS := tSeq (tDrop (tCallX (sp_26 K A) (fun _ => E0) (tCons (mVar 1) (tCons (mVar 2) (tCons (mVar 3) (tCons (mVar 4) (tNil))))))) (tRet (tCallX (sp_41 K A 70) (fun _ => E0) (tCons (mVar 0) (tCons (mVar 4) (tNil)))))
def T_46 (K : PySem.W.Frag) (A : Adr) : TS := tRet (tHeld (Knd1 K A) (fun _ => E0) (mVar 0) (tCons (tOp (rIxA K) (tCallX (sp_47 K A) (fun _ => E0) (tCons (mVar 0) (tCons (mVar 1) (tCons (mVar 2) (tCons (mVar 3) (tCons (mVar 4) (tNil))))))) (tUn mNeg (tC (.int 1)))) (tNil)))
def T_42 (K : PySem.W.Frag) (A : Adr) : TS := tRet (tComp [0, 1] (iSeqA K (mVar 2)) (mAnd (mTest (tOp (mEqC K) (tOp (rIxA K) (mVar 0) (tC (.int 0))) (tC (.str "leaf")))) (mTest (mChain (mLe) (mLe) (mVar 1) (tOp (rIxA K) (mVar 0) (tC (.int 1))) (mVar 2)))) (tTup (tCons (tOp (rIxA K) (mVar 0) (tC (.int 1))) (tCons (tOp (rIxA K) (mVar 0) (tC (.int 2))) (tNil)))))
def T_45 (K : PySem.W.Frag) (A : Adr) : TS := tSeq (tAsg (tCallX (sp_47 K A) (fun _ => E0) (tCons (mVar 0) (tCons (mVar 1) (tCons (mVar 3) (tCons (mVar 4) (tCons (mVar 5) (tNil))))))) (gName 6)) (tSeq (tAsg (tHeld (Knd1 K A) (fun _ => E0) (mVar 0) (tCons (tOp (rIxA K) (mVar 6) (tUn mNeg (tC (.int 1)))) (tNil))) (gName 7)) (tSeq (mIfS (mTest (tOp (mNeB K) (mVar 7) (mVar 2))) (tNever) (tNext)) (tRet (tCallX (sp_42 K A) (fun _ => E0) (tCons (mVar 3) (tCons (mVar 4) (tCons (mVar 6) (tNil))))))))
def T_23 (K : PySem.W.Frag) (A : Adr) : TS := tSeq (mIfS (mOr (tNot (mTru K (tCB (kIsi) (tCons (mVar 0) (tCons (tC (.ty "tuple")) (tNil)))))) (mTest (tOp (mNeB K) (tCB (kLenA K) (tCons (mVar 0) (tNil))) (tCB (kLenA K) (tCons (mVar 1) (tNil)))))) (tRet (tC (.bl false))) (tNext)) (tSeq (tFor (iRng1 (tCons (tCB (kLenA K) (tCons (mVar 1) (tNil))) (tNil))) (gName 2) (mIfS (tNot (mTru K (tCallX (sp_14 K A) (fun _ => E0) (tCons (tOp (rIxA K) (mVar 0) (mVar 2)) (tCons (tOp (rIxA K) (mVar 1) (mVar 2)) (tNil)))))) (tRet (tC (.bl false))) (tNext))) (tRet (tC (.bl true))))
def T_18 (K : PySem.W.Frag) (A : Adr) : TS := tSeq (mIfS (mOr (tNot (mTru K (tCB (kIsi) (tCons (mVar 0) (tCons (tC (.ty "list")) (tNil)))))) (mTest (tOp (mNeB K) (tCB (kLenA K) (tCons (mVar 0) (tNil))) (tCB (kLenA K) (tCons (mVar 1) (tNil)))))) (tRet (tC (.bl false))) (tNext)) (tSeq (tFor (iRng1 (tCons (tCB (kLenA K) (tCons (mVar 1) (tNil))) (tNil))) (gName 2) (mIfS (tNot (mTru K (tCallX (sp_23 K A) (fun _ => E0) (tCons (tOp (rIxA K) (mVar 0) (mVar 2)) (tCons (tOp (rIxA K) (mVar 1) (mVar 2)) (tNil)))))) (tRet (tC (.bl false))) (tNext))) (tRet (tC (.bl true))))
def T_5 (K : PySem.W.Frag) (A : Adr) (n : Nat) : TS := tSeq (mIfS (mTest (tOp (mEqC K) (tOp (rIxA K) (mVar 0) (tC (.int 0))) (tC (.str "leaf")))) (tRet (tLst (tCons (tTup (tCons (tOp (rIxA K) (mVar 0) (tC (.int 1))) (tCons (tOp (rIxA K) (mVar 0) (tC (.int 2))) (tNil)))) (tNil)))) (tNext)) (tSeq (mIfS (mTest (tOp (mEqC K) (tOp (rIxA K) (mVar 0) (tC (.int 0))) (tC (.str "fork")))) (tRet (tOp (mAddG K) (tCallX (sp_5 K A n) (fun _ => E0) (tCons (tOp (rIxA K) (mVar 0) (tC (.int 3))) (tNil))) (tCallX (sp_5 K A n) (fun _ => E0) (tCons (tOp (rIxA K) (mVar 0) (tC (.int 4))) (tNil))))) (tNext)) (tRet (tLst (tNil))))
def T_3 (K : PySem.W.Frag) (A : Adr) : TS := tRet (tComp [1, 2] (iSeqA K (tCallX (sp_5 K A 70) (fun _ => E0) (tCons (mVar 0) (tNil)))) (mTest (mChain (mLe) (mLe) (mVar 1) (tOp (rIxA K) (mVar 0) (tC (.int 0))) (mVar 2))) (mVar 0))
def T_6 (K : PySem.W.Frag) (A : Adr) : TS := tSeq (mIfS (tNot (mTru K (tCallX (sp_14 K A) (fun _ => E0) (tCons (tCallX (sp_46 K A) (fun _ => E0) (tCons (mVar 0) (tCons (mVar 1) (tCons (tOp (rIxA K) (mVar 2) (tC (.int 0))) (tCons (tOp (rIxA K) (mVar 2) (tC (.int 1))) (tCons (mVar 4) (tNil))))))) (tCons (mVar 3) (tNil)))))) (tRet (tC (.bl false))) (tNext)) (tSeq (tAsg (tCallX (sp_45 K A) (fun _ => E0) (tCons (mVar 0) (tCons (mVar 1) (tCons (mVar 3) (tCons (tOp (rIxA K) (mVar 2) (tC (.int 0))) (tCons (tOp (rIxA K) (mVar 2) (tC (.int 1))) (tCons (mVar 4) (tNil)))))))) (gName 5)) (tRet (tCallX (sp_18 K A) (fun _ => E0) (tCons (mVar 5) (tCons (tCallX (sp_3 K A) (fun _ => E0) (tCons (mVar 4) (tCons (tOp (rIxA K) (mVar 2) (tC (.int 0))) (tCons (tOp (rIxA K) (mVar 2) (tC (.int 1))) (tNil))))) (tNil))))))
def T_29 (K : PySem.W.Frag) (A : Adr) : TS := tSeq (tAsg (tDNewA) (gName 2)) (tSeq (tFor (iSeqA K (mVar 1)) (gName 3) (tSeq (tAsg (tBM K "dict" rSetDef (mVar 2) (tCons (tHeld (Knd1 K A) (fun _ => E0) (mVar 0) (tCons (mVar 3) (tNil))) (tCons (mVar 3) (tNil)))) (gName 4)) (mIfS (mTest (tOp (mNeB K) (mVar 4) (mVar 3))) (tRet (tTup (tCons (mVar 4) (tCons (mVar 3) (tNil))))) (tNext)))) (tRet (tC .non)))
def R_11_13 (K : PySem.W.Frag) (A : Adr) : TS := tRet (mAndV (tCallX (sp_23 K A) (fun _ => E0) (tCons (tOp (rIxA K) (mVar 15) (tC (.int 0))) (tCons (tOp (rIxA K) (mVar 8) (tUn mNeg (tC (.int 1)))) (tNil)))) (tCallX (sp_23 K A) (fun _ => E0) (tCons (tOp (rIxA K) (mVar 15) (tC (.int 1))) (tCons (tOp (rIxA K) (mVar 9) (tUn mNeg (tC (.int 1)))) (tNil)))))
def R_11_12 (K : PySem.W.Frag) (A : Adr) : TS := tSeq (mIfS (mOr (tNot (mTru K (tCB (kIsi) (tCons (mVar 15) (tCons (tC (.ty "tuple")) (tNil)))))) (mTest (tOp (mNeB K) (tCB (kLenA K) (tCons (mVar 15) (tNil))) (tC (.int 2))))) (tRet (tC (.bl false))) (tNext)) (R_11_13 K A)
def R_11_11 (K : PySem.W.Frag) (A : Adr) : TS := tSeq (mIfS (mTest (tOp (mEqC K) (mVar 4) (mVar 5))) (tRet (tOp (mIsA) (mVar 15) (tC .non))) (tNext)) (R_11_12 K A)
def R_11_10 (K : PySem.W.Frag) (A : Adr) : TS := tSeq (tAsg (tCallX (sp_29 K A) (fun _ => E0) (tCons (mVar 10) (tCons (tOp (mAddG K) (mVar 14) (tCallX (sp_47 K A) (fun _ => E0) (tCons (mVar 10) (tCons (mVar 0) (tCons (tOp (rIxA K) (mVar 1) (tC (.int 0))) (tCons (tOp (rIxA K) (mVar 1) (tC (.int 1))) (tCons (mVar 12) (tNil)))))))) (tNil)))) (gName 15)) (R_11_11 K A)
def R_11_9 (K : PySem.W.Frag) (A : Adr) : TS := tSeq (tAsg (tCallX (sp_47 K A) (fun _ => E0) (tCons (mVar 10) (tCons (mVar 0) (tCons (tOp (rIxA K) (mVar 1) (tC (.int 0))) (tCons (tOp (rIxA K) (mVar 1) (tC (.int 1))) (tCons (mVar 11) (tNil))))))) (gName 14)) (R_11_10 K A)
def R_11_8 (K : PySem.W.Frag) (A : Adr) : TS := tSeq (mIfS (mOr (tNot (mTru K (tCallX (sp_6 K A) (fun _ => E0) (tCons (mVar 10) (tCons (mVar 0) (tCons (mVar 1) (tCons (mVar 13) (tCons (mVar 11) (tNil))))))))) (tNot (mTru K (tCallX (sp_6 K A) (fun _ => E0) (tCons (mVar 10) (tCons (mVar 0) (tCons (mVar 1) (tCons (mVar 13) (tCons (mVar 12) (tNil)))))))))) (tRet (tC (.bl false))) (tNext)) (R_11_9 K A)
def R_11_7 (K : PySem.W.Frag) (A : Adr) : TS := tSeq (tAsg (tOp (rIxA K) (tCallX (sp_10 K A 70) (fun _ => E0) (tCons (mVar 10) (tCons (mVar 11) (tNil)))) (tC (.int 0))) (gName 13)) (R_11_8 K A)
def R_11_6 (K : PySem.W.Frag) (A : Adr) : TS := tSeq (tAsg (tCallX (sp_25 K A 70) (fun _ => E0) (tCons (mVar 2) (tCons (mVar 3) (tCons (mVar 5) (tNil))))) (gName 12)) (R_11_7 K A)
def R_11_5 (K : PySem.W.Frag) (A : Adr) : TS := tSeq (tAsg (tCallX (sp_25 K A 70) (fun _ => E0) (tCons (mVar 2) (tCons (mVar 3) (tCons (mVar 4) (tNil))))) (gName 11)) (R_11_6 K A)
def R_11_4 (K : PySem.W.Frag) (A : Adr) : TS := tSeq (tAsg (tCallX (sp_16 K A) (fun _ => E0) (tCons (mVar 7) (tCons (tOp (rIxA K) (mVar 8) (tUn mNeg (tC (.int 1)))) (tCons (tOp (rIxA K) (mVar 9) (tUn mNeg (tC (.int 1)))) (tNil))))) (gName 10)) (R_11_5 K A)
def R_11_3 (K : PySem.W.Frag) (A : Adr) : TS := tSeq (mIfS (mTest (tOp (mInA K) (tOp (rIxA K) (mVar 9) (tUn mNeg (tC (.int 1)))) (mVar 8))) (tSeq (tPar 4 5 (tCons (mVar 5) (tCons (mVar 4) (tNil)))) (tPar 8 9 (tCons (mVar 9) (tCons (mVar 8) (tNil))))) (tNext)) (R_11_4 K A)
def R_11_2 (K : PySem.W.Frag) (A : Adr) : TS := tSeq (tAsg (tOp (rIxA K) (tCallX (sp_10 K A 70) (fun _ => E0) (tCons (mVar 7) (tCons (mVar 5) (tNil)))) (tC (.int 1))) (gName 9)) (R_11_3 K A)
def R_11_1 (K : PySem.W.Frag) (A : Adr) : TS := tSeq (tAsg (tOp (rIxA K) (tCallX (sp_10 K A 70) (fun _ => E0) (tCons (mVar 7) (tCons (mVar 4) (tNil)))) (tC (.int 1))) (gName 8)) (R_11_2 K A)
def T_11 (K : PySem.W.Frag) (A : Adr) : TS := tSeq (tAsg (tCallX (sp_21 K A) (fun _ => E0) (tCons (tOp (mMod) (mVar 6) (tC (.int 1000))) (tNil))) (gName 7)) (tSeq (tAsg (tOp (rIxA K) (tCallX (sp_10 K A 70) (fun _ => E0) (tCons (mVar 7) (tCons (mVar 4) (tNil)))) (tC (.int 1))) (gName 8)) (tSeq (tAsg (tOp (rIxA K) (tCallX (sp_10 K A 70) (fun _ => E0) (tCons (mVar 7) (tCons (mVar 5) (tNil)))) (tC (.int 1))) (gName 9)) (tSeq (mIfS (mTest (tOp (mInA K) (tOp (rIxA K) (mVar 9) (tUn mNeg (tC (.int 1)))) (mVar 8))) (tSeq (tPar 4 5 (tCons (mVar 5) (tCons (mVar 4) (tNil)))) (tPar 8 9 (tCons (mVar 9) (tCons (mVar 8) (tNil))))) (tNext)) (tSeq (tAsg (tCallX (sp_16 K A) (fun _ => E0) (tCons (mVar 7) (tCons (tOp (rIxA K) (mVar 8) (tUn mNeg (tC (.int 1)))) (tCons (tOp (rIxA K) (mVar 9) (tUn mNeg (tC (.int 1)))) (tNil))))) (gName 10)) (tSeq (tAsg (tCallX (sp_25 K A 70) (fun _ => E0) (tCons (mVar 2) (tCons (mVar 3) (tCons (mVar 4) (tNil))))) (gName 11)) (tSeq (tAsg (tCallX (sp_25 K A 70) (fun _ => E0) (tCons (mVar 2) (tCons (mVar 3) (tCons (mVar 5) (tNil))))) (gName 12)) (tSeq (tAsg (tOp (rIxA K) (tCallX (sp_10 K A 70) (fun _ => E0) (tCons (mVar 10) (tCons (mVar 11) (tNil)))) (tC (.int 0))) (gName 13)) (tSeq (mIfS (mOr (tNot (mTru K (tCallX (sp_6 K A) (fun _ => E0) (tCons (mVar 10) (tCons (mVar 0) (tCons (mVar 1) (tCons (mVar 13) (tCons (mVar 11) (tNil))))))))) (tNot (mTru K (tCallX (sp_6 K A) (fun _ => E0) (tCons (mVar 10) (tCons (mVar 0) (tCons (mVar 1) (tCons (mVar 13) (tCons (mVar 12) (tNil)))))))))) (tRet (tC (.bl false))) (tNext)) (tSeq (tAsg (tCallX (sp_47 K A) (fun _ => E0) (tCons (mVar 10) (tCons (mVar 0) (tCons (tOp (rIxA K) (mVar 1) (tC (.int 0))) (tCons (tOp (rIxA K) (mVar 1) (tC (.int 1))) (tCons (mVar 11) (tNil))))))) (gName 14)) (tSeq (tAsg (tCallX (sp_29 K A) (fun _ => E0) (tCons (mVar 10) (tCons (tOp (mAddG K) (mVar 14) (tCallX (sp_47 K A) (fun _ => E0) (tCons (mVar 10) (tCons (mVar 0) (tCons (tOp (rIxA K) (mVar 1) (tC (.int 0))) (tCons (tOp (rIxA K) (mVar 1) (tC (.int 1))) (tCons (mVar 12) (tNil)))))))) (tNil)))) (gName 15)) (tSeq (mIfS (mTest (tOp (mEqC K) (mVar 4) (mVar 5))) (tRet (tOp (mIsA) (mVar 15) (tC .non))) (tNext)) (tSeq (mIfS (mOr (tNot (mTru K (tCB (kIsi) (tCons (mVar 15) (tCons (tC (.ty "tuple")) (tNil)))))) (mTest (tOp (mNeB K) (tCB (kLenA K) (tCons (mVar 15) (tNil))) (tC (.int 2))))) (tRet (tC (.bl false))) (tNext)) (tRet (mAndV (tCallX (sp_23 K A) (fun _ => E0) (tCons (tOp (rIxA K) (mVar 15) (tC (.int 0))) (tCons (tOp (rIxA K) (mVar 8) (tUn mNeg (tC (.int 1)))) (tNil)))) (tCallX (sp_23 K A) (fun _ => E0) (tCons (tOp (rIxA K) (mVar 15) (tC (.int 1))) (tCons (tOp (rIxA K) (mVar 9) (tUn mNeg (tC (.int 1)))) (tNil))))))))))))))))))
def R_38_6 (K : PySem.W.Frag) (A : Adr) : TS := tRet (tC (.bl true))
def R_38_5 (K : PySem.W.Frag) (A : Adr) : TS := tSeq (tFor (iSeqA K (tOp (mAddG K) (tSl (rSlA K) (mVar 0) (tPart (tC (.int 5))) (tPart (tC (.int 8)))) (tLst (tCons (tCallX (sp_0 K A) (fun _ => E0) (tCons (mVar 0) (tCons (tC (.int 9)) (tNil)))) (tNil))))) (gName 5) (tSeq (tAsg (tOp (rIxA K) (mVar 4) (tOp (mMod) (mVar 5) (tCB (kLenA K) (tCons (mVar 4) (tNil))))) (gTup K 3 (gCons (gName 6) (gCons (gName 7) (gCons (gName 8) gNil))))) (tSeq (tAsg (tOp (mMod) (tOp (mMulB) (mVar 5) (tC (.int 48271))) (tC (.int 1000003))) (gName 9)) (tSeq (tAsg (tCallX (sp_13 K A 70) (fun _ => E0) (tCons (mVar 9) (tCons (mVar 1) (tCons (tOp (rIxA K) (mVar 2) (tC (.int 0))) (tCons (tOp (rIxA K) (mVar 2) (tC (.int 1))) (tCons (mVar 6) (tCons (mVar 7) (tCons (tOp (mMod) (mVar 9) (tC (.int 4))) (tNil))))))))) (gName 10)) (mIfS (tNot (mTru K (tCallX (sp_11 K A) (fun _ => E0) (tCons (mVar 1) (tCons (mVar 2) (tCons (mVar 3) (tCons (mVar 8) (tCons (tCallX (sp_15 K A) (fun _ => E0) (tCons (mVar 3) (tCons (mVar 8) (tNil)))) (tCons (mVar 10) (tCons (tCallX (sp_0 K A) (fun _ => E0) (tCons (mVar 0) (tCons (tC (.int 4)) (tNil)))) (tNil))))))))))) (tRet (tC (.bl false))) (tNext)))))) (R_38_6 K A)
def R_38_4 (K : PySem.W.Frag) (A : Adr) : TS := tSeq (tAsg (tComp [3] (iSeqA K (mVar 4)) (mTest (tOp (mNeB K) (tOp (rIxA K) (tCallX (sp_15 K A) (fun _ => E0) (tCons (mVar 1) (tCons (tOp (rIxA K) (mVar 0) (tC (.int 2))) (tNil)))) (tC (.int 0))) (tC (.str "cut")))) (mVar 0)) (gName 4)) (R_38_5 K A)
def R_38_3 (K : PySem.W.Frag) (A : Adr) : TS := tSeq (tAsg (tCallX (sp_19 K A 70) (fun _ => E0) (tCons (mVar 3) (tCons (tC (.int 0)) (tCons (tC (.int 0)) (tCons (tTup (tNil)) (tNil)))))) (gName 4)) (R_38_4 K A)
def R_38_2 (K : PySem.W.Frag) (A : Adr) : TS := tSeq (tAsg (tCallX (sp_12 K A) (fun _ => E0) (tCons (tCallX (sp_0 K A) (fun _ => E0) (tCons (mVar 0) (tCons (tC (.int 3)) (tNil)))) (tCons (mVar 1) (tCons (tOp (rIxA K) (mVar 2) (tC (.int 0))) (tCons (tOp (rIxA K) (mVar 2) (tC (.int 1))) (tNil)))))) (gName 3)) (R_38_3 K A)
def R_38_1 (K : PySem.W.Frag) (A : Adr) : TS := tSeq (tAsg (tCallX (sp_20 K A) (fun _ => E0) (tCons (mVar 1) (tCons (tCallX (sp_0 K A) (fun _ => E0) (tCons (mVar 0) (tCons (tC (.int 1)) (tNil)))) (tCons (tCallX (sp_0 K A) (fun _ => E0) (tCons (mVar 0) (tCons (tC (.int 2)) (tNil)))) (tNil))))) (gName 2)) (R_38_2 K A)
def T_38 (K : PySem.W.Frag) (A : Adr) : TS := tSeq (tAsg (tCallX (sp_2 K A) (fun _ => E0) (tCons (tCallX (sp_0 K A) (fun _ => E0) (tCons (mVar 0) (tCons (tC (.int 0)) (tNil)))) (tNil))) (gName 1)) (tSeq (tAsg (tCallX (sp_20 K A) (fun _ => E0) (tCons (mVar 1) (tCons (tCallX (sp_0 K A) (fun _ => E0) (tCons (mVar 0) (tCons (tC (.int 1)) (tNil)))) (tCons (tCallX (sp_0 K A) (fun _ => E0) (tCons (mVar 0) (tCons (tC (.int 2)) (tNil)))) (tNil))))) (gName 2)) (tSeq (tAsg (tCallX (sp_12 K A) (fun _ => E0) (tCons (tCallX (sp_0 K A) (fun _ => E0) (tCons (mVar 0) (tCons (tC (.int 3)) (tNil)))) (tCons (mVar 1) (tCons (tOp (rIxA K) (mVar 2) (tC (.int 0))) (tCons (tOp (rIxA K) (mVar 2) (tC (.int 1))) (tNil)))))) (gName 3)) (tSeq (tAsg (tCallX (sp_19 K A 70) (fun _ => E0) (tCons (mVar 3) (tCons (tC (.int 0)) (tCons (tC (.int 0)) (tCons (tTup (tNil)) (tNil)))))) (gName 4)) (tSeq (tAsg (tComp [3] (iSeqA K (mVar 4)) (mTest (tOp (mNeB K) (tOp (rIxA K) (tCallX (sp_15 K A) (fun _ => E0) (tCons (mVar 1) (tCons (tOp (rIxA K) (mVar 0) (tC (.int 2))) (tNil)))) (tC (.int 0))) (tC (.str "cut")))) (mVar 0)) (gName 4)) (tSeq (tFor (iSeqA K (tOp (mAddG K) (tSl (rSlA K) (mVar 0) (tPart (tC (.int 5))) (tPart (tC (.int 8)))) (tLst (tCons (tCallX (sp_0 K A) (fun _ => E0) (tCons (mVar 0) (tCons (tC (.int 9)) (tNil)))) (tNil))))) (gName 5) (tSeq (tAsg (tOp (rIxA K) (mVar 4) (tOp (mMod) (mVar 5) (tCB (kLenA K) (tCons (mVar 4) (tNil))))) (gTup K 3 (gCons (gName 6) (gCons (gName 7) (gCons (gName 8) gNil))))) (tSeq (tAsg (tOp (mMod) (tOp (mMulB) (mVar 5) (tC (.int 48271))) (tC (.int 1000003))) (gName 9)) (tSeq (tAsg (tCallX (sp_13 K A 70) (fun _ => E0) (tCons (mVar 9) (tCons (mVar 1) (tCons (tOp (rIxA K) (mVar 2) (tC (.int 0))) (tCons (tOp (rIxA K) (mVar 2) (tC (.int 1))) (tCons (mVar 6) (tCons (mVar 7) (tCons (tOp (mMod) (mVar 9) (tC (.int 4))) (tNil))))))))) (gName 10)) (mIfS (tNot (mTru K (tCallX (sp_11 K A) (fun _ => E0) (tCons (mVar 1) (tCons (mVar 2) (tCons (mVar 3) (tCons (mVar 8) (tCons (tCallX (sp_15 K A) (fun _ => E0) (tCons (mVar 3) (tCons (mVar 8) (tNil)))) (tCons (mVar 10) (tCons (tCallX (sp_0 K A) (fun _ => E0) (tCons (mVar 0) (tCons (tC (.int 4)) (tNil)))) (tNil))))))))))) (tRet (tC (.bl false))) (tNext)))))) (tRet (tC (.bl true))))))))
end Rs
namespace Rs
open PySem PySem.Spec PyProof.Rows L2
def tyD : Dat → String
 | .non => "NoneType"
 | .bl _ => "bool"
 | .int _ => "int"
 | .str _ => "str"
 | .lst _ => "list"
 | .tup _ => "tuple"
 | .dic => "dict"
theorem DatW.ty {H : Hp} {v : V} {d : Dat} (h : DatW H v d) : tyN H v = some (tyD d) := by
 cases h with
 | lst e _ => unfold tyN; dsimp only; rw [e]; rfl
 | tup e _ => unfold tyN; dsimp only; rw [e]; rfl
 | dic e => unfold tyN; dsimp only; rcases e with ⟨kvs, e⟩ | ⟨kvs, e⟩ <;> rw [e] <;> rfl
 | _ => rfl
mutual
theorem DatW.toV {K : PySem.W.Frag} {H : Hp} {v : V} {d : Dat} (h : DatW H v d) (ok : okD d = true) : DatV K H v (toPy d) := by
 cases h with
 | non => exact .non
 | bl b => exact .bl b
 | int i => exact .int i
 | str z => exact .str z
 | lst e r => exact .lst (SqL.of e) (DatWs.toV r ok)
 | tup e r => exact .tup (SqT.of e) (DatWs.toV r ok)
 | dic e => cases ok
theorem DatWs.toV {K : PySem.W.Frag} {H : Hp} {xs : List V} {ds : List Dat} (h : DatWs H xs ds) (ok : okDs ds = true) : DatVs K H xs (toPys ds) := by
  cases h with
  | nil => exact .nil
  | cons a r =>
    have ok : (okD _ && okDs _) = true := ok
    rw [Bool.and_eq_true] at ok
    exact .cons (DatW.toV a ok.1) (DatWs.toV r ok.2)
end
theorem asc_ok {z : Str} (h : ascS z = true) : PyData.strOk z = true := by
 unfold PyData.strOk
 unfold ascS at h
 rw [Array.all_eq_true] at h ⊢
 intro i hi
 have := of_decide_eq_true (h i hi)
 exact decide_eq_true (by omega)
mutual
theorem lay_toPy : ∀ {d : Dat}, okD d = true → (toPy d).canLay0 = true
 | .non, _ => rfl
 | .bl _, _ => rfl
 | .int _, _ => rfl
 | .str z, h => asc_ok (Bool.and_eq_true_iff.mp h).1
 | .lst ds, h => lay_toPys h
 | .tup ds, h => lay_toPys h
theorem lay_toPys : ∀ {ds : List Dat}, okDs ds = true → PyData.canLayAll0 (toPys ds) = true
  | [], _ => rfl
  | d :: r, h => by
    have h : (okD d && okDs r) = true := h
    rw [Bool.and_eq_true] at h
    show ((toPy d).canLay0 && PyData.canLayAll0 (toPys r)) = true
    rw [lay_toPy h.1, lay_toPys h.2]; rfl
end
theorem DatWs.len {H : Hp} : ∀ {xs : List V} {ds : List Dat}, DatWs H xs ds → xs.length = ds.length
 | _, _, .nil => rfl
 | _, _, .cons _ r => by rw [List.length_cons, List.length_cons, r.len]
mutual
theorem DatW.mono {H H' : Hp} {v : V} {d : Dat} (s : Same H H') (h : DatW H v d) : DatW H' v d := by
 cases h with
 | non => exact .non
 | bl b => exact .bl b
 | int i => exact .int i
 | str z => exact .str z
 | lst e r => exact .lst (s _ _ e) (DatWs.mono s r)
 | tup e r => exact .tup (s _ _ e) (DatWs.mono s r)
 | dic e => exact .dic (e.imp (fun ⟨k, e⟩ => ⟨k, s _ _ e⟩) fun ⟨k, e⟩ => ⟨k, s _ _ e⟩)
theorem DatWs.mono {H H' : Hp} {xs : List V} {ds : List Dat} (s : Same H H') (h : DatWs H xs ds) : DatWs H' xs ds := by
 cases h with
 | nil => exact .nil
 | cons a r => exact .cons (DatW.mono s a) (DatWs.mono s r)
end
theorem ne_word {K : PySem.W.Frag} {H : Hp} {v : V} {d : Dat} {w : Str} {Q : VK} (h : DatW H v d) (ok : okD d = true) (dp : (toPy d).depth ≤ 150) (hw : PyData.strOk w = true) (q : Q (.bl (!isStrD w d)) H) : mNeB K v (.str w) H Q := by
 have ref : ∀ a, v = .ref a → (toPy d).eqv (.str w) = false → isStrD w d = false → mNeB K v (.str w) H Q := fun a e e1 e2 => by
  subst e
  refine ⟨_, _, h.toV ok, .str w, lay_toPy ok, hw, dp, ?_⟩
  rw [e1]; rw [e2] at q; exact q
 cases h with
 | non => exact q
 | bl b => exact q
 | int i => exact q
 | str z => exact q
 | lst e r => exact ref _ rfl rfl rfl
 | tup e r => exact ref _ rfl rfl rfl
 | dic e => cases ok
theorem ixT {K : PySem.W.Frag} {H : Hp} {Q : VK} {a : Addr} {xs : List V} {x : V} {i : Int} {j : Nat} (ha : H a = some (.tup xs)) (e : i = j) (hx : xs[j]? = some x) (q : Q x H) : rIxA K (.ref a) (.int i) H Q := by
 subst e
 refine .inl (.inr (.inl ⟨a, xs, j, x, rfl, rfl, SqT.of ha, ?_, q⟩))
 have hj := (List.getElem?_eq_some_iff.mp hx).1
 rw [atI_lt (by omega) (by omega)]
 simp [List.getD_eq_getElem?_getD, hx]
variable {K : PySem.W.Frag} {mg : Str → Option Value} {A : Adr}
theorem len_37 (K : PySem.W.Frag) (A : Adr) : ∀ vs H Q E, sp_37 K A vs H Q E → vs.length = 1 := by rintro vs H Q E ⟨v, d, rfl, _⟩; rfl
theorem rd_37 (T : Txt K mg A) (vs : List V) (H : Hp) (Q : VK) (E : XK) (h : sp_37 K A vs H Q E) : T_37 K A { nx := fun _ H' => Q .non H', rt := Q } (start ["thing"] vs) H := by
 obtain ⟨v, d, rfl, w, q⟩ := h
 refine ⟨by decide, _, w.ty, ?_⟩
 cases d
 case int i => exact Sel.yes rfl ⟨by decide, _, w.ty, q⟩
 case bl b => exact Sel.yes rfl ⟨by decide, _, w.ty, q⟩
 all_goals exact Sel.no rfl q
theorem len_35 (K : PySem.W.Frag) (A : Adr) : ∀ vs H Q E, sp_35 K A vs H Q E → vs.length = 1 := by rintro vs H Q E ⟨v, d, rfl, _⟩; rfl
theorem rd_35 (T : Txt K mg A) (vs : List V) (H : Hp) (Q : VK) (E : XK) (h : sp_35 K A vs H Q E) : T_35 K A { nx := fun _ H' => Q .non H', rt := Q } (start ["thing"] vs) H := by
  obtain ⟨v, d, rfl, w, q⟩ := h
  refine ⟨v, d, rfl, w, ?_⟩
  cases w with
  | int i =>
    refine Sel.yes rfl (Sel.dec (fun h0 => ⟨⟨by decide, by decide, by decide⟩, ?_⟩) (fun h0 => ?_))
    · show Q (.bl (decide (i < 10 ^ ((60 : Int).toNat)))) H
      have e : isStampD (.int i) = decide (i < 10 ^ ((60 : Int).toNat)) := by
        show decide (0 ≤ i ∧ i < 10 ^ 60) = decide (i < 10 ^ 60)
        by_cases h1 : i < 10 ^ 60
        · rw [decide_eq_true h1, decide_eq_true ⟨h0, h1⟩]
        · rw [decide_eq_false h1, decide_eq_false fun z => h1 z.2]
      rw [← e]; exact q
    · have e : isStampD (.int i) = false := decide_eq_false fun z => h0 z.1
      rw [← e]; exact q
  | non => exact Sel.no rfl ⟨by decide, _, rfl, q⟩
  | bl b => exact Sel.no rfl ⟨by decide, _, rfl, q⟩
  | str z => exact Sel.no rfl ⟨by decide, _, rfl, q⟩
  | lst e r => exact Sel.no rfl ⟨by decide, _, (DatW.lst e r).ty, q⟩
  | tup e r => exact Sel.no rfl ⟨by decide, _, (DatW.tup e r).ty, q⟩
  | dic e => exact Sel.no rfl ⟨by decide, _, (DatW.dic e).ty, q⟩
theorem len_44 (K : PySem.W.Frag) (A : Adr) : ∀ vs H Q E, sp_44 K A vs H Q E → vs.length = 3 := by rintro vs H Q E ⟨b, k, d, rfl, _⟩; rfl
theorem rd_44 (T : Txt K mg A) (vs : List V) (H : Hp) (Q : VK) (E : XK) (h : sp_44 K A vs H Q E) : T_44 K A { nx := fun _ H' => Q .non H', rt := Q } (L2.start ["bits", "key", "depth"] vs) H := by
 obtain ⟨b, k, d, rfl, hd, q⟩ := h
 exact ⟨by omega, q⟩
theorem len_32 (K : PySem.W.Frag) (A : Adr) : ∀ vs H Q E, sp_32 K A vs H Q E → vs.length = 2 := by rintro vs H Q E ⟨b, v, d, rfl, _⟩; rfl
theorem rd_32 (T : Txt K mg A) (vs : List V) (H : Hp) (Q : VK) (E : XK) (h : sp_32 K A vs H Q E) : T_32 K A { nx := fun _ H' => Q .non H', rt := Q } (L2.start ["bits", "thing"] vs) H := by
  obtain ⟨b, v, d, rfl, h0, h1, w, q⟩ := h
  refine ⟨v, d, rfl, w, ?_⟩
  cases w with
  | int i =>
    refine Sel.yes rfl (Sel.dec (fun h2 => ⟨⟨h0, by omega, by decide⟩, ?_⟩) (fun h2 => ?_))
    · show Q (.bl (decide (i < 1 * 2 ^ b.toNat))) H
      have e : isKeyD b (.int i) = decide (i < 1 * 2 ^ b.toNat) := by
        show decide (0 ≤ i ∧ i < 2 ^ b.toNat) = _
        rw [Int.one_mul]
        by_cases h1 : i < 2 ^ b.toNat
        · rw [decide_eq_true h1, decide_eq_true ⟨h2, h1⟩]
        · rw [decide_eq_false h1, decide_eq_false fun z => h1 z.2]
      rw [← e]; exact q
    · have e : isKeyD b (.int i) = false := decide_eq_false fun z => h2 z.1
      rw [← e]; exact q
  | _ => exact Sel.no rfl q
theorem len_36 (K : PySem.W.Frag) (A : Adr) : ∀ vs H Q E, sp_36 K A vs H Q E → vs.length = 1 := by rintro vs H Q E ⟨v, d, rfl, _⟩; rfl
theorem rd_36 (T : Txt K mg A) (vs : List V) (H : Hp) (Q : VK) (E : XK) (h : sp_36 K A vs H Q E) : T_36 K A { nx := fun _ H' => Q .non H', rt := Q } (L2.start ["thing"] vs) H := by
  obtain ⟨v, d, rfl, w, ok, q⟩ := h
  refine ⟨by decide, _, w.ty, ?_⟩
  cases w with
  | str z =>
    have hl := of_decide_eq_true (Bool.and_eq_true_iff.mp ok).2
    refine Sel.yes rfl (.inl ⟨line_ge (by omega), ?_⟩)
    have e : isValueD (.str z) = decide ((z.length : Int) ≤ 60) := by
      show decide (z.length ≤ 60) = _
      by_cases h1 : z.length ≤ 60
      · rw [decide_eq_true h1, decide_eq_true (by omega)]
      · rw [decide_eq_false h1, decide_eq_false (by omega)]
    show Q (.bl (decide ((z.length : Int) ≤ 60))) H
    rw [← e]; exact q
  | _ => exact Sel.no rfl q
end Rs
namespace Rs
open PySem PySem.Spec PyProof.Rows L2
theorem dp_mem {d : Dat} {ds : List Dat} (hm : d ∈ ds) : (toPy d).depth ≤ PyData.depthAll (toPys ds) := by
  induction ds with
  | nil => cases hm
  | cons x r ih =>
    show _ ≤ max (toPy x).depth (PyData.depthAll (toPys r))
    rcases List.mem_cons.mp hm with rfl | hm
    · omega
    · have := ih hm; omega
theorem ok_mem {d : Dat} {ds : List Dat} (h : okDs ds = true) (hm : d ∈ ds) : okD d = true := by
  induction ds with
  | nil => cases hm
  | cons x r ih =>
    have h : (okD x && okDs r) = true := h
    rw [Bool.and_eq_true] at h
    rcases List.mem_cons.mp hm with rfl | hm
    · exact h.1
    · exact ih h.2 hm
theorem endOk.tup {ds : List Dat} (h : endOk (.tup ds)) : okDs ds = true ∧ PyData.depthAll (toPys ds) ≤ 139 := by
 rcases h with ⟨h1, h2⟩ | h
 · exact ⟨h1, by have h2 : PyData.depthAll (toPys ds) + 1 ≤ 140 := h2; omega⟩
 · cases h
theorem eq_bare {K : PySem.W.Frag} {H : Hp} {v : V} {d : Dat} {p : Addr} {Q : VK} (w : DatW H v d) (ok : endOk d) (hp : H p = some (.tup [.str "bare"])) (q : Q (.bl (isBareD d)) H) : mEqC K v (.ref p) H Q := by
  have dv : DatV K H (.ref p) (.tuple [.str "bare"]) := .tup (SqT.of hp) (.cons (.str _) .nil)
  have lv : (PyData.tuple [.str "bare"]).canLay0 = true := by decide +kernel
  rcases ok with ⟨ok, dp⟩ | rfl
  · have hd : ∀ e : (toPy d).eqv (.tuple [.str "bare"]) = isBareD d, rEqD K v (.ref p) H Q := fun e => ⟨_, _, w.toV ok, dv, lay_toPy ok, lv, by omega, by rw [e]; exact q⟩
    cases w with
    | non => exact hd rfl
    | bl b => exact hd rfl
    | int i => exact hd rfl
    | str z => exact hd rfl
    | lst e r => exact .inr (.inl (hd rfl))
    | @tup a xs ds e r =>
      refine .inr (.inl (hd ?_))
      clear hd r ok dp q
      cases ds with
      | nil => rfl
      | cons x rs =>
        cases rs with
        | nil =>
          show ((toPy x).eqv (.str "bare") && true) = isStrD "bare" x
          rw [Bool.and_true]
          cases x with
          | str z =>
            show (z == ("bare" : Str)) = decide (z = "bare")
            by_cases h : z = "bare" <;> simp [h]
          | _ => rfl
        | cons y rs =>
          show ((toPy x).eqv (.str "bare") && false) = false
          rw [Bool.and_false]
    | dic e => cases ok
  · cases w with
    | dic e => exact .inr (.inr ⟨_, p, _, rfl, rfl, e, SqT.of hp, q⟩)
variable {K : PySem.W.Frag} {mg : Str → Option Value} {A : Adr}
theorem len_33 (K : PySem.W.Frag) (A : Adr) : ∀ vs H Q E, sp_33 K A vs H Q E → vs.length = 4 := by rintro vs H Q E ⟨b, p, g, v, d, rfl, _⟩; rfl
theorem rd_33 (T : Txt K mg A) (vs : List V) (H : Hp) (Q : VK) (E : XK) (h : sp_33 K A vs H Q E) : T_33 K A { nx := fun _ H' => Q .non H', rt := Q } (L2.start ["bits", "depth", "begin", "thing"] vs) H := by
  obtain ⟨b, p, g, v, d, rfl, b0, b60, hp, w, ok, q⟩ := h
  refine ⟨by decide, _, w.ty, ?_⟩
  cases w with
  | @tup a xs ds e r =>
    obtain ⟨ok, dp⟩ := ok.tup
    have el := r.len
    refine Sel.no rfl (.inl (.inr (.inl ⟨_, SqT.of e, Sel.ndec (fun ne => Sel.t ?_) (fun he => ?_)⟩)))
    · have e2 : isLeafD b p g (.tup ds) = false := by
        unfold isLeafD
        split
        · rename_i heq; cases heq; simp at el; omega
        · rfl
      rw [e2] at q; exact q
    · cases r with
      | nil => simp at he
      | @cons x0 _ d0 _ w0 r =>
      cases r with
      | nil => simp at he
      | @cons x1 _ d1 _ w1 r =>
      cases r with
      | nil => simp at he
      | @cons x2 _ d2 _ w2 r =>
      cases r with
      | cons _ _ => simp at he; omega
      | nil =>
      have o0 := ok_mem ok (d := d0) (by simp)
      have p0 := dp_mem (d := d0) (ds := [d0, d1, d2]) (by simp)
      have o2 := ok_mem ok (d := d2) (by simp)
      refine ixT (j := 0) e rfl rfl (ne_word w0 o0 (by omega) (by decide +kernel) (Sel.mk (fun hn => ?_) (fun hy => ?_)))
      · have hn : isStrD "leaf" d0 = false := by simpa using hn
        have e2 : isLeafD b p g (.tup [d0, d1, d2]) = false := by
          cases d1 <;> first | rfl | (show (isStrD "leaf" d0 && _ && _ && _) = false; rw [hn]; rfl)
        rw [e2] at q; exact q
      · have hy : isStrD "leaf" d0 = true := by simpa using hy
        refine ixT (j := 1) e rfl rfl ⟨b, x1, d1, rfl, b0, b60, w1, ?_⟩
        cases w1 with
        | int k =>
          have e2 : isLeafD b p g (.tup [d0, .int k, d2]) = (decide (0 ≤ k ∧ k < 2 ^ b.toNat) && isValueD d2 && decide (startI b k p = g)) := by
            show (isStrD "leaf" d0 && _ && _ && _) = _
            rw [hy]; simp
          rw [e2] at q
          refine Sel.mk (fun hk => Sel.t ?_) (fun hk => ?_)
          · have hk : isKeyD b (.int k) = false := by simpa only [Bool.not_eq_true'] using hk
            have hk : decide (0 ≤ k ∧ k < 2 ^ b.toNat) = false := hk
            rw [hk] at q; exact q
          · have hk : isKeyD b (.int k) = true := by simpa only [Bool.not_eq_false'] using hk
            have hk : decide (0 ≤ k ∧ k < 2 ^ b.toNat) = true := hk
            rw [hk, Bool.true_and] at q
            refine ixT (j := 2) e rfl rfl ⟨x2, d2, rfl, w2, o2, ?_⟩
            refine Sel.mk (fun hv => ?_) (fun hv => ?_)
            · have hv : isValueD d2 = false := by simpa using hv
              rw [hv] at q; exact q
            · have hv : isValueD d2 = true := by simpa using hv
              rw [hv, Bool.true_and] at q
              exact ixT (j := 1) e rfl rfl ⟨b, k, p, rfl, hp, q⟩
        | _ => exact Sel.t (Sel.t q)
  | _ => exact Sel.yes rfl (Sel.t q)
theorem len_31 (K : PySem.W.Frag) (A : Adr) : ∀ vs H Q E, sp_31 K A vs H Q E → vs.length = 4 := by rintro vs H Q E ⟨b, p, g, v, d, rfl, _⟩; rfl
theorem rd_31 (T : Txt K mg A) (vs : List V) (H : Hp) (Q : VK) (E : XK) (h : sp_31 K A vs H Q E) : T_31 K A { nx := fun _ H' => Q .non H', rt := Q } (L2.start ["bits", "depth", "begin", "thing"] vs) H := by
  obtain ⟨b, p, g, v, d, rfl, p0, b60, hp, w, ok, q⟩ := h
  refine ⟨by decide, _, w.ty, ?_⟩
  cases w with
  | @tup a xs ds e r =>
    obtain ⟨ok, dp⟩ := ok.tup
    have el := r.len
    refine Sel.no rfl (.inl (.inr (.inl ⟨_, SqT.of e, Sel.ndec (fun ne => Sel.t ?_) (fun he => ?_)⟩)))
    · have e2 : isForkD b p g (.tup ds) = false := by
        unfold isForkD
        split
        · rename_i heq; cases heq; simp at el; omega
        · rfl
      rw [e2] at q; exact q
    · cases r with
      | nil => simp at he
      | @cons x0 _ d0 _ w0 r =>
      cases r with
      | nil => simp at he
      | @cons x1 _ d1 _ w1 r =>
      cases r with
      | nil => simp at he
      | @cons x2 _ d2 _ w2 r =>
      cases r with
      | nil => simp at he
      | @cons x3 _ d3 _ w3 r =>
      cases r with
      | nil => simp at he
      | @cons x4 _ d4 _ w4 r =>
      cases r with
      | cons _ _ => simp at he; omega
      | nil =>
      have o0 := ok_mem ok (d := d0) (by simp)
      have pp := dp_mem (d := d0) (ds := [d0, d1, d2, d3, d4]) (by simp)
      refine ixT (j := 0) e rfl rfl (ne_word w0 o0 (by omega) (by decide +kernel) (Sel.mk (fun hn => ?_) (fun hy => ?_)))
      · have hn : isStrD "fork" d0 = false := by simpa using hn
        have e2 : isForkD b p g (.tup [d0, d1, d2, d3, d4]) = false := by
          cases d1 <;> first | rfl | (cases d2 <;> first | rfl | (show (isStrD "fork" d0 && _ && _ && _) = false; rw [hn]; rfl))
        rw [e2] at q; exact q
      · have hy : isStrD "fork" d0 = true := by simpa using hy
        refine ixT (j := 1) e rfl rfl ⟨x1, d1, rfl, w1, ?_⟩
        cases w1 with
        | int ee =>
          refine Sel.no rfl (ixT (j := 1) e rfl rfl ?_)
          have bad : decide (p ≤ ee ∧ ee < b) = false → isForkD b p g (.tup [d0, .int ee, d2, d3, d4]) = false := fun z => by
            cases d2 <;> first | rfl | (show (isStrD "fork" d0 && _ && _ && _) = false; rw [z]; simp)
          refine Sel.dec (fun h1 => Sel.ndec (fun h2 => ?_) (fun h2 => ?_)) (fun h1 => ?_)
          · rw [bad (decide_eq_false fun z => h2 z.2)] at q; exact q
          · refine ixT (j := 2) e rfl rfl ⟨x2, d2, rfl, w2, ?_⟩
            cases w2 with
            | int bb =>
              have e2 : isForkD b p g (.tup [d0, .int ee, .int bb, d3, d4]) = (decide (0 ≤ bb ∧ bb < 2 ^ ee.toNat) && decide (bb / 2 ^ (ee - p).toNat = g)) := by
                show (isStrD "fork" d0 && decide (p ≤ ee ∧ ee < b) && _ && _) = _
                rw [hy, decide_eq_true ⟨h1, h2⟩]; simp
              rw [e2] at q
              refine Sel.no rfl (ixT (j := 2) e rfl rfl ?_)
              refine Sel.dec (fun h3 => ixT (j := 1) e rfl rfl ⟨⟨by omega, by omega, by decide⟩, Sel.mk (fun h4 => ?_) (fun h4 => ?_)⟩) (fun h3 => ?_)
              · rw [Int.one_mul] at h4
                have h4 : ¬ bb < 2 ^ ee.toNat := by simpa using h4
                rw [decide_eq_false (fun z => h4 z.2)] at q; exact q
              · rw [Int.one_mul] at h4
                have h4 : bb < 2 ^ ee.toNat := by simpa using h4
                rw [decide_eq_true ⟨h3, h4⟩, Bool.true_and] at q
                exact ixT (j := 2) e rfl rfl (ixT (j := 1) e rfl rfl ⟨by omega, q⟩)
              · rw [decide_eq_false (fun z => h3 z.1)] at q; exact Sel.yes rfl q
            | _ => exact Sel.yes rfl (Sel.t q)
          · rw [bad (decide_eq_false fun z => h1 z.1)] at q; exact Sel.yes rfl q
        | _ => exact Sel.yes rfl (Sel.t q)
  | _ => exact Sel.yes rfl (Sel.t q)
end Rs
namespace Rs
open PySem PySem.Spec PyProof.Rows L2
theorem bits64 {x : Int} (h : x.natAbs < 2 ^ 64) : Builtin.Int.intBits x ≤ 64 := by
 unfold Builtin.Int.intBits
 split
 · decide
 · rename_i hx
   have hx : x ≠ 0 := by simpa using hx
   have : x.natAbs.log2 < 64 := (Nat.log2_lt (by omega)).mpr h
   omega
theorem mulL {x y : Int} (h0 : 0 ≤ x) (h : x < 2 ^ 64) : IntMulOk x y := IntMulOk.of_left (bits64 (by omega))
theorem mulR {x y : Int} (h0 : 0 ≤ y) (h : y < 2 ^ 64) : IntMulOk x y := IntMulOk.of_right (bits64 (by omega))
variable {K : PySem.W.Frag} {mg : Str → Option Value} {A : Adr}
theorem len_0 (K : PySem.W.Frag) (A : Adr) : ∀ vs H Q E, sp_0 K A vs H Q E → vs.length = 2 := by rintro vs H Q E ⟨a, ns, k, rfl, _⟩; rfl
theorem rd_0 (T : Txt K mg A) (vs : List V) (H : Hp) (Q : VK) (E : XK) (h : sp_0 K A vs H Q E) : T_0 K A { nx := fun _ H' => Q .non H', rt := Q } (L2.start ["_law_script", "_law_k", "_law_number_here", "_law_cell"] vs) H := by
 obtain ⟨a, ns, k, rfl, hs, h0, q⟩ := h
 refine .inl (.inl ⟨_, hs, Sel.dec (fun h => ?_) (fun h => ?_)⟩)
 · obtain ⟨v, hv⟩ := atI_ex h0 h
   obtain ⟨j, _, hj, _⟩ := atI_get hv
   obtain ⟨z, _, rfl⟩ := map_get hj
   exact .inl (.inl ⟨a, _, k, _, rfl, rfl, hs, hv, q z H (.refl H)⟩)
 · obtain ⟨zs, ez, hz⟩ := cutV_ints ns none (some 5)
   refine .inl (.inl ⟨_, hs, 5, rfl, .inl (.inl ⟨a, _, rfl, hs, fun p hp => ?_⟩)⟩)
   rw [ez]
   refine ⟨p, rfl, .inl ⟨⟨_, SqL.of upd_same⟩, ?_⟩⟩
   refine for_list (xs := zs.map V.int) (fun i σ H' => H' = upd H p (.lst (zs.map V.int)) ∧ ∃ n x3, σ = [some (.ref a), some (.int k), some (.int n), x3]) ⟨rfl, _, none, rfl⟩ ?_ ?_ ?_
   · rintro i σ _ _ ⟨rfl, _⟩; exact SqL.of upd_same
   · rintro i x σ _ hx ⟨rfl, n, x3, rfl⟩
     obtain ⟨z, _, rfl⟩ := map_get hx
     exact ⟨mulR (by decide) (by decide), by decide, rfl, _, _, rfl⟩
   · rintro σ _ ⟨rfl, n, x3, rfl⟩
     refine ⟨IntMulOk.of_left (by decide), by decide, ?_⟩
     have b0 : 0 ≤ (n + 7919 * k) % 1000003 := by omega
     have b1 : (n + 7919 * k) % 1000003 < 1000003 := by omega
     exact ⟨mulL b0 (by omega), by decide, q _ _ (Same.upd hp)⟩
theorem len_2 (K : PySem.W.Frag) (A : Adr) : ∀ vs H Q E, sp_2 K A vs H Q E → vs.length = 1 := by rintro vs H Q E ⟨c, rfl, _⟩; rfl
theorem rd_2 (T : Txt K mg A) (vs : List V) (H : Hp) (Q : VK) (E : XK) (h : sp_2 K A vs H Q E) : T_2 K A { nx := fun _ H' => Q .non H', rt := Q } (L2.start ["_law_cell"] vs) H := by
 obtain ⟨c, rfl, q⟩ := h
 refine ⟨⟨by decide, by decide⟩, line_ge (n := 3) (by decide), fun p hp => ⟨by decide, ?_⟩⟩
 have hc : c % 3 = 0 ∨ c % 3 = 1 ∨ c % 3 = 2 := by omega
 have S := Same.upd (o := .lst [V.int 60, .int 8, .int 60]) hp
 rcases hc with e | e | e <;> rw [e]
 · exact ixL (j := 0) upd_same rfl rfl ⟨by decide, q _ _ S (by omega) (by omega)⟩
 · exact ixL (j := 1) upd_same rfl rfl ⟨by decide, q _ _ S (by omega) (by omega)⟩
 · exact ixL (j := 2) upd_same rfl rfl ⟨by decide, q _ _ S (by omega) (by omega)⟩
theorem flip_in {x : Int} {j m : Nat} (x0 : 0 ≤ x) (hm : j < m) (x1 : x < 2 ^ m) : 0 ≤ Builtin.bitXor x (1 * 2 ^ j) ∧ Builtin.bitXor x (1 * 2 ^ j) < 2 ^ m := by
 obtain ⟨y, rfl⟩ := Int.eq_ofNat_of_zero_le x0
 have e : (1 : Int) * 2 ^ j = ((2 ^ j : Nat) : Int) := by rw [Int.one_mul, pow2z]
 rw [e, bitXor_nat, ← pow2z]
 refine ⟨by omega, ?_⟩
 have y1 : y < 2 ^ m := by rw [← pow2z] at x1; exact_mod_cast x1
 have := Nat.xor_lt_two_pow (n := m) y1 (Nat.pow_lt_pow_right (by decide : 1 < 2) hm)
 exact_mod_cast this
theorem len_4 (K : PySem.W.Frag) (A : Adr) : ∀ vs H Q E, sp_4 K A vs H Q E → vs.length = 3 := by rintro vs H Q E ⟨b, c, o, ks, rfl, _⟩; rfl
theorem rd_4 (T : Txt K mg A) (vs : List V) (H : Hp) (Q : VK) (E : XK) (h : sp_4 K A vs H Q E) : T_4 K A { nx := fun _ H' => Q .non H', rt := Q } (L2.start ["_law_bits_here", "_law_cell", "_law_others", "_law_many", "_law_number_here", "_law_flip"] vs) H := by
  obtain ⟨b, c, o, ks, rfl, b1, b60, ho, kl, kk, q⟩ := h
  have hp : (0 : Int) < 1 * 2 ^ b.toNat := by rw [Int.one_mul]; exact pow2_pos _
  have e1 : (1 : Int) * 2 ^ b.toNat = 2 ^ b.toNat := Int.one_mul _
  have fin : ∀ (n : Int) (H' : Hp), Same H H' → Q (.int (n % (1 * 2 ^ b.toNat))) H' := fun n H' s => q _ _ s (Int.emod_nonneg _ (Int.ne_of_gt hp)) (Int.lt_of_lt_of_le (Int.emod_lt_of_pos _ hp) (Int.le_of_eq e1))
  refine ⟨⟨by omega, by omega, by decide⟩, ⟨by decide, by decide⟩, by decide, Sel.dec (fun h => ?_) (fun h => ?_)⟩
  · exact ⟨hp, fin _ H (.refl H)⟩
  refine ⟨by decide, Sel.dec (fun h1 => ?_) (fun h1 => ?_)⟩
  · have h2 := Int.emod_nonneg (c / 5) (b := 1 * 2 ^ b.toNat) (by omega)
    have h3 := Int.emod_lt_of_pos (c / 5) hp
    exact ⟨hp, q _ _ (.refl H) (by omega) (Int.lt_of_lt_of_le (b := 1 * 2 ^ b.toNat) (by omega) (Int.le_of_eq e1))⟩
  refine ⟨by decide, Sel.dec (fun h2 => ?_) (fun h2 => Sel.f ?_)⟩
  · refine ⟨line_ge (n := 0) (by decide), fun p hp' => ⟨_, _, .lst (SqL.of (Same.upd hp' _ _ ho)) (datVs_ints ks), .lst (SqL.of upd_same) .nil, canLay_ints ks, rfl, depth_ints ks, ?_⟩⟩
    cases ks with
    | nil => exact Sel.no rfl ⟨mulR (by decide) (by decide), hp, fin _ _ (Same.upd hp')⟩
    | cons x xr =>
      cases xr with
      | cons y yr => simp at kl
      | nil =>
      refine Sel.yes rfl ⟨mulR (by decide) (by decide), by decide, by omega, .inl (.inl ⟨_, SqL.of (Same.upd hp' _ _ ho), by simp, ?_⟩)⟩
      have hx := kk x List.mem_cons_self
      have r0 := Int.emod_nonneg (c / 5 * 48271 % 65537) (b := b) (by omega)
      have r1 := Int.emod_lt_of_pos (c / 5 * 48271 % 65537) (b := b) (by omega)
      have fl := flip_in (j := (c / 5 * 48271 % 65537 % b).toNat) hx.1 (by omega) hx.2
      refine ixL (j := 0) (Same.upd hp' _ _ ho) ?_ rfl ⟨⟨by omega, by omega, by decide⟩, q _ _ (Same.upd hp') fl.1 fl.2⟩
      show c / 5 % 1 = 0
      omega
  · exact ⟨mulR (by decide) (by decide), hp, fin _ H (.refl H)⟩
theorem len_7 (K : PySem.W.Frag) (A : Adr) : ∀ vs H Q E, sp_7 K A vs H Q E → vs.length = 1 := by rintro vs H Q E ⟨c, rfl, _⟩; rfl
theorem str50 : ∀ n : Fin 50, okD (.str (("m" : Str) ++ Str.ofString (toString (((n : Nat) : Int))))) = true ∧ (Str.ofString (toString (((n : Nat) : Int)))).length ≤ 2 ∧ szK (.inr (("m" : Str) ++ Str.ofString (toString (((n : Nat) : Int))))) ≤ 1062 := by decide +kernel
theorem stampI {i : Int} (h0 : 0 ≤ i) (h1 : i < 10 ^ 60) : stampK (.inl i) := ⟨decide_eq_true ⟨h0, h1⟩, rfl, by show 62 ≤ 1062; decide⟩
theorem rd_7 (T : Txt K mg A) (vs : List V) (H : Hp) (Q : VK) (E : XK) (h : sp_7 K A vs H Q E) : T_7 K A { nx := fun _ H' => Q .non H', rt := Q } (L2.start ["_law_number_here"] vs) H := by
 obtain ⟨c, rfl, q⟩ := h
 refine ⟨mulR (by decide) (by decide), by decide, ?_⟩
 have n0 : 0 ≤ c * 69621 % 1000003 := by omega
 have n1 : c * 69621 % 1000003 < 1000003 := by omega
 show tSeq _ _ _ [some (V.int (c * 69621 % 1000003))] H
 generalize c * 69621 % 1000003 = n at n0 n1 ⊢
 have big : (1000003 : Int) * 10 ^ 30 < 10 ^ 60 := by decide +kernel
 have p30 : (0 : Int) < 10 ^ 30 := by decide +kernel
 have p60 : (1000003 : Int) < 10 ^ 60 := by decide +kernel
 refine ⟨by decide, Sel.dec (fun h => ?_) (fun h => ?_)⟩
 · have l0 : 0 ≤ n % 50 := by omega
   have l1 : n % 50 < 50 := by omega
   obtain ⟨j, hj⟩ := Int.eq_ofNat_of_zero_le l0
   obtain ⟨s1, s2, s3⟩ := str50 ⟨j, by omega⟩
   have s1 : okD (.str (("m" : Str) ++ Str.ofString (toString ((j : Nat) : Int)))) = true := s1
   have s2 : (Str.ofString (toString ((j : Nat) : Int))).length ≤ 2 := s2
   refine ⟨by decide, ?_⟩
   rw [hj]
   exact ⟨Nat.lt_of_le_of_lt (Nat.log2_le_self _) (by omega), Nat.le_trans (Nat.add_le_add (Nat.le_refl 1) s2) (line_ge (by decide)), q (.inr _) ⟨rfl, s1, s3⟩⟩
 refine ⟨by decide, Sel.dec (fun h1 => ?_) (fun h1 => ?_)⟩
 · exact ⟨⟨by decide, by decide⟩, by decide, q (.inl _) (stampI (by omega) (by omega))⟩
 refine ⟨by decide, Sel.dec (fun h2 => ?_) (fun h2 => ?_)⟩
 · refine ⟨⟨by decide, by decide, by decide⟩, mulL n0 (by omega), q (.inl _) (stampI ?_ ?_)⟩
   · exact Int.mul_nonneg n0 (Int.le_of_lt p30)
   · have : n * 10 ^ 30 < 1000003 * 10 ^ 30 := Int.mul_lt_mul_of_pos_right n1 p30
     show n * 10 ^ 30 < 10 ^ 60
     omega
 · refine ⟨⟨by decide, by decide, by decide⟩, q (.inl _) (stampI ?_ ?_)⟩
   · show 0 ≤ (10 : Int) ^ 60 - 1 - n
     omega
   · show (10 : Int) ^ 60 - 1 - n < 10 ^ 60
     omega
end Rs
namespace Rs
open PySem PySem.Spec PyProof.Rows L2
theorem pow_split {a b : Int} (h0 : 0 ≤ a) (h : a ≤ b) : (2 : Int) ^ b.toNat = 2 ^ a.toNat * 2 ^ (b - a).toNat := by
 rw [← Int.pow_add]
 congr 1
 omega
theorem div_div {x y z : Int} (hy : 0 < y) : x / y / z = x / (y * z) := by
 rw [Int.ediv_ediv, if_neg (by omega), Int.sub_zero]
theorem startI_start {b k e l : Int} (h1 : l ≤ e) (h2 : e ≤ b) : startI b k e / 2 ^ (e - l).toNat = startI b k l := by
 unfold startI
 rw [div_div (pow2_pos _), ← Int.pow_add]
 congr 2
 omega
theorem strOk_app {x y : Str} (h1 : ascS x = true) (h2 : ascS y = true) : ascS (x ++ y) = true := by
 unfold ascS at h1 h2 ⊢
 show (x.cps ++ y.cps).all _ = true
 rw [Array.all_append, h1, h2]; rfl
theorem dat_kV (H : Hp) (m : Key) : DatW H (kV m) (datK m) := by cases m <;> constructor
theorem dp_datK (m : Key) : (toPy (datK m)).depth = 0 := by cases m <;> rfl
mutual
def noL : Dat → Bool
 | .lst _ => false
 | .tup ds => noLs ds
 | .non => true
 | .bl _ => true
 | .int _ => true
 | .str _ => true
 | .dic => true
def noLs : List Dat → Bool
 | [] => true
 | d :: r => noL d && noLs r
end
end Rs
namespace Rs
open PySem PySem.Spec PyProof.Rows L2
def sg1 : Str := " !\"#$&'()*+,-./0123456789:;<=>?@ABCDEFGHIJKLMNOPQRSTUVWXYZ[\\]^_`"
def sg2 : Str := "abcdefghijklmnopqrstuvwxyz{|}~"
theorem sg_len : (sg1 ++ sg2).length = 94 ∧ (sg1 ++ sg2).cps.toList.length = 94 ∧ (sg1 ++ sg2).cps.toList.all (· < 128) = true := by decide +kernel
theorem okS_leaf : okD (.str "leaf") = true := by decide +kernel
theorem okS_fork : okD (.str "fork") = true := by decide +kernel
theorem okS_z {z : Str} (h : ascS z = true) (hl : z.length ≤ 100000) : okD (.str z) = true := by
 show (ascS z && decide (z.length ≤ 100000)) = true
 rw [h, decide_eq_true hl]; rfl
variable {K : PySem.W.Frag} {mg : Str → Option Value} {A : Adr}
theorem len_24 (K : PySem.W.Frag) (A : Adr) : ∀ vs H Q E, sp_24 K A vs H Q E → vs.length = 1 := by rintro vs H Q E ⟨c, rfl, _⟩; rfl
theorem rd_24 (T : Txt K mg A) (vs : List V) (H : Hp) (Q : VK) (E : XK) (h : sp_24 K A vs H Q E) : T_24 K A { nx := fun _ H' => Q .non H', rt := Q } (L2.start ["_law_cell", "_law_signs", "_law_size", "_law_made", "_law_k"] vs) H := by
 obtain ⟨c, rfl, q⟩ := h
 obtain ⟨g1, g2, g3⟩ := sg_len
 have rest : ∀ sz : Int, 0 ≤ sz → sz ≤ 60 → R_24_5 K A { nx := fun _ H' => Q .non H', rt := Q } [some (.int c), some (.str (sg1 ++ sg2)), some (.int sz), none, none] H := by
  intro sz s0 s1
  refine ⟨sz, rfl, by omega, by omega, ?_⟩
  refine for_range (fun i σ H' => H' = H ∧ ∃ z x4, σ = [some (.int c), some (.str (sg1 ++ sg2)), some (.int sz), some (.str z), x4] ∧ z.length = i ∧ ascS z = true) ⟨rfl, "", none, rfl, by decide, by decide +kernel⟩ ?_ ?_
  · rintro i σ _ hi ⟨rfl, z, x4, rfl, hz, ho⟩
    refine ⟨⟨by decide, by decide⟩, ⟨by decide, by decide⟩, by decide, mulR (by omega) (by omega), .inl ⟨by rw [g1]; exact line_ge (by decide), by rw [g1]; decide, ?_⟩⟩
    generalize (c / 4 + _ : Int) = w
    have e94 : ((sg1 ++ sg2).length : Int) = 94 := by rw [g1]; rfl
    rw [e94]
    obtain ⟨cc, hcc⟩ := atI_ex (xs := (sg1 ++ sg2).cps.toList) (i := w % 94) (by omega) (by rw [g2]; omega)
    refine .inl (.inr (.inr ⟨_, _, cc, rfl, rfl, by rw [g1]; exact line_ge (by decide), hcc, ?_⟩))
    refine ⟨by rw [hz]; exact line_ge (by show i + 1 ≤ 1000000; omega), rfl, z ++ ⟨#[cc]⟩, _, rfl, by rw [strLen_append, hz]; rfl, strOk_app ho ?_⟩
    obtain ⟨j, _, hj, _⟩ := atI_get hcc
    have := of_decide_eq_true (List.all_eq_true.mp g3 cc (List.mem_of_getElem? hj))
    unfold ascS
    simp
    omega
  · rintro σ _ ⟨rfl, z, x4, rfl, hz, ho⟩
    exact q z _ (.refl _) (by omega) ho
 have rest4 : ∀ sz : Int, 0 ≤ sz → sz ≤ 60 → R_24_4 K A { nx := fun _ H' => Q .non H', rt := Q } [some (.int c), some (.str (sg1 ++ sg2)), some (.int sz), none, none] H := by
  intro sz s0 s1
  refine ⟨⟨by decide, by decide⟩, by decide, Sel.dec (fun h => ?_) (fun h => rest sz s0 s1)⟩
  exact ⟨⟨by decide, by decide⟩, by decide, rest (c / 32 % 61) (by omega) (by omega)⟩
 refine ⟨line_ge (by decide +kernel), by decide, ⟨by decide, by decide⟩, by decide, Sel.dec (fun h => rest4 60 (by decide) (by decide)) (fun h => rest4 (c % 4) (by omega) (by omega))⟩
end Rs
namespace Rs
open PySem PySem.Spec PyProof.Rows L2
theorem neB_keys {K : PySem.W.Frag} {H : Hp} {Q : VK} {a : Key} (q : Q (.bl false) H) : mNeB K (kV a) (kV a) H Q := by
 cases a
 · rename_i i
   have e : (!decide (i = i)) = false := by simp
   rw [← e] at q; exact q
 · rename_i i
   have e : (!decide (i = i)) = false := by simp
   rw [← e] at q; exact q
theorem valOf {H : Hp} {v : V} {k : Key} (w : DatW H v (datK k)) : v = kV k := by cases k <;> (cases w; rfl)
theorem kV_tup {H : Hp} {v : V} : ∀ {e : List Key} {xs : List V}, DatWs H xs (e.map datK) → xs = e.map kV
  | [], _, h => by cases h; rfl
  | x :: r, _, h => by
    cases h with
    | cons a b => rw [valOf a, kV_tup (v := v) b]; rfl
theorem kV_at {H : Hp} {v : V} {e : List Key} (h : DatW H v (.tup (e.map datK))) : ∃ a, v = .ref a ∧ H a = some (.tup (e.map kV)) := by
 cases h with
 | @tup a xs _ ea r => exact ⟨a, rfl, by rw [ea, kV_tup (v := .non) r]⟩
variable {K : PySem.W.Frag} {mg : Str → Option Value} {A : Adr}
theorem len_14 (K : PySem.W.Frag) (A : Adr) : ∀ vs H Q E, sp_14 K A vs H Q E → vs.length = 2 := by rintro vs H Q E ⟨x, rfl, _⟩; rfl
theorem rd_14 (T : Txt K mg A) (vs : List V) (H : Hp) (Q : VK) (E : XK) (h : sp_14 K A vs H Q E) : T_14 K A { nx := fun _ H' => Q .non H', rt := Q } (L2.start ["_law_found", "_law_due"] vs) H := by
  obtain ⟨x, rfl, q⟩ := h
  cases x with
  | inl i =>
    have e : decide (i = i) = true := decide_eq_true rfl
    rw [← e] at q
    exact ⟨by decide, "int", rfl, Sel.no rfl ⟨by decide, "int", rfl, Sel.yes rfl ⟨by decide, "int", rfl, Sel.yes rfl q⟩⟩⟩
  | inr z =>
    have e : decide (z = z) = true := decide_eq_true rfl
    rw [← e] at q
    exact ⟨by decide, "str", rfl, Sel.yes rfl ⟨by decide, "str", rfl, Sel.yes rfl q⟩⟩
theorem len_23 (K : PySem.W.Frag) (A : Adr) : ∀ vs H Q E, sp_23 K A vs H Q E → vs.length = 2 := by rintro vs H Q E ⟨p, r, k, rfl, _⟩; rfl
theorem rd_23 (T : Txt K mg A) (vs : List V) (H : Hp) (Q : VK) (E : XK) (h : sp_23 K A vs H Q E) : T_23 K A { nx := fun _ H' => Q .non H', rt := Q } (L2.start ["_law_found", "_law_due", "_law_k"] vs) H := by
 obtain ⟨p, r, k, rfl, hp, hr, hk, q⟩ := h
 have ty : tyN H (.ref p) = some "tuple" := by unfold tyN; dsimp only; rw [hp]
 refine ⟨by decide, "tuple", ty, Sel.no rfl (.inl (.inr (.inl ⟨_, SqT.of hp, .inl (.inr (.inl ⟨_, SqT.of hr, ?_⟩))⟩)))⟩
 refine Sel.no (by simp) (.inl (.inr (.inl ⟨_, SqT.of hr, _, rfl, by omega, by simp; omega, ?_⟩)))
 have hn : (((k.map kV).length : Nat) : Int).toNat = k.length := by simp
 rw [hn]
 refine for_range (fun i σ H' => H' = H ∧ ∃ x2, σ = [some (.ref p), some (.ref r), x2]) ⟨rfl, none, rfl⟩ ?_ ?_
 · rintro i σ _ hi ⟨rfl, x2, rfl⟩
   obtain ⟨x, hx⟩ : ∃ x, k[i]? = some x := ⟨_, List.getElem?_eq_getElem hi⟩
   have hx2 : (k.map kV)[i]? = some (kV x) := by rw [List.getElem?_map, hx]; rfl
   refine ixT (j := i) hp (by omega) hx2 (ixT (j := i) hr (by omega) hx2 ⟨x, rfl, Sel.no rfl ⟨rfl, _, rfl⟩⟩)
 · rintro σ _ ⟨rfl, x2, rfl⟩
   exact q
theorem pk_get {H : Hp} {ps : List Addr} {ts : List (List Key)} (h : PK H ps ts) : ∀ {i : Nat} {t : List Key}, ts[i]? = some t → ∃ p, ps[i]? = some p ∧ H p = some (.tup (t.map kV)) ∧ okT t = true := by
  induction h with
  | nil => intro i t e; cases e
  | cons r _ ih =>
    intro i t e
    cases i with
    | zero => cases e; exact ⟨_, rfl, r⟩
    | succ i => exact ih e
theorem pk_len {H : Hp} {ps : List Addr} {ts : List (List Key)} (h : PK H ps ts) : ps.length = ts.length := Paired.length h
theorem okT_len {k : List Key} (h : okT k = true) : 1 ≤ k.length ∧ k.length ≤ 8 := by
 unfold okT at h
 simp only [Bool.and_eq_true] at h
 exact of_decide_eq_true h.1.1
theorem pt_get {H : Hp} {ps : List Addr} {ts : List (List Key)} (h : PT H ps ts) : ∀ {i : Nat} {t : List Key}, ts[i]? = some t → ∃ p, ps[i]? = some p ∧ H p = some (.tup (t.map kV)) ∧ t.length ≤ 8 := by
  induction h with
  | nil => intro i t e; cases e
  | cons a _ ih =>
    intro i t e
    cases i with
    | zero => cases e; exact ⟨_, rfl, a⟩
    | succ i => exact ih e
theorem pt_len {H : Hp} {ps : List Addr} {ts : List (List Key)} (h : PT H ps ts) : ps.length = ts.length := Paired.length h
theorem len_18 (K : PySem.W.Frag) (A : Adr) : ∀ vs H Q E, sp_18 K A vs H Q E → vs.length = 2 := by rintro vs H Q E ⟨_, _, _, _, _, rfl, _⟩; rfl
theorem rd_18 (T : Txt K mg A) (vs : List V) (H : Hp) (Q : VK) (E : XK) (h : sp_18 K A vs H Q E) : T_18 K A { nx := fun _ H' => Q .non H', rt := Q } (L2.start ["_law_found", "_law_due", "_law_k"] vs) H := by
 obtain ⟨L, M, ps, rs, ts, rfl, hL, hM, w1, w2, hl, q⟩ := h
 have l1 := pt_len w1
 have l2 := pt_len w2
 have ty : tyN H (.ref L) = some "list" := by unfold tyN; dsimp only; rw [hL]
 refine ⟨by decide, "list", ty, Sel.no rfl (.inl (.inl ⟨_, SqL.of hL, .inl (.inl ⟨_, SqL.of hM, ?_⟩)⟩))⟩
 refine Sel.no (by simp; omega) (.inl (.inl ⟨_, SqL.of hM, _, rfl, by omega, by simp; omega, ?_⟩))
 have hn : (((rs.map V.ref).length : Nat) : Int).toNat = ts.length := by simp; omega
 rw [hn]
 refine for_range (fun i σ H' => H' = H ∧ ∃ x2, σ = [some (.ref L), some (.ref M), x2]) ⟨rfl, none, rfl⟩ ?_ ?_
 · rintro i σ _ hi ⟨rfl, x2, rfl⟩
   obtain ⟨t, ht⟩ : ∃ t, ts[i]? = some t := ⟨_, List.getElem?_eq_getElem hi⟩
   obtain ⟨p, hp, hp2, ok⟩ := pt_get w1 ht
   obtain ⟨r, hr, hr2, _⟩ := pt_get w2 ht
   have e1 : (ps.map V.ref)[i]? = some (.ref p) := by rw [List.getElem?_map, hp]; rfl
   have e2 : (rs.map V.ref)[i]? = some (.ref r) := by rw [List.getElem?_map, hr]; rfl
   refine ixL (j := i) hL (by omega) e1 (ixL (j := i) hM (by omega) e2 ⟨p, r, t, rfl, hp2, hr2, ok, Sel.no rfl ⟨rfl, _, rfl⟩⟩)
 · rintro σ _ ⟨rfl, x2, rfl⟩
   exact q
end Rs
namespace Rs
open PySem PySem.Spec PyProof.Rows L2
theorem okT_all {k : List Key} (h : okT k = true) : k.all okP = true := by
 unfold okT at h
 rw [Bool.and_eq_true] at h
 exact h.2
theorem okT_mem {k : List Key} {x : Key} (h : okT k = true) (hx : x ∈ k) : okP x = true := List.all_eq_true.mp (okT_all h) x hx
theorem KeepB.rfl' {b : Addr} {H : Hp} : KeepB b H H := fun _ _ _ e => e
theorem KeepB.trans {b : Addr} {H H1 H2 : Hp} (a : KeepB b H H1) (c : KeepB b H1 H2) : KeepB b H H2 := fun x o n e => c x o n (a x o n e)
theorem KeepB.same {b : Addr} {H H1 : Hp} (s : Same H H1) : KeepB b H H1 := fun x o _ e => s x o e
theorem Sub0.rfl' {g : List Key → Option Key} : Sub0 g g := fun _ _ e => e
theorem Sub0.trans {g g1 g2 : List Key → Option Key} (a : Sub0 g g1) (b : Sub0 g1 g2) : Sub0 g g2 := fun k v e => b k v (a k v e)
theorem Ext0.of {g g' : List Key → Option Key} {h : List Key → Key} (s : Sub0 g g') (e : Ext0 g' h) : Ext0 g h := fun k v z => e k v (s k v z)
theorem tab_val (kvs : List (List Key × Key)) (k : List Key) : valV (tabV kvs) k = (tabG kvs k).map kV := by
 unfold valV tabV tabG
 rw [List.find?_map]
 simp only [Option.map_map]
 congr 1
theorem tabG_snoc {kvs : List (List Key × Key)} {k : List Key} {v : Key} {x : List Key × Key} (h : tabG kvs k = some v) : tabG (kvs ++ [x]) k = some v := by
 unfold tabG at h ⊢
 rw [List.find?_append]
 cases e : kvs.find? fun p => decide (p.1 = k) with
 | none => rw [e] at h; cases h
 | some y => rw [e] at h; exact h
theorem tabG_new {kvs : List (List Key × Key)} {k : List Key} {d : Key} (h : tabG kvs k = none) : tabG (kvs ++ [(k, d)]) k = some d := by
 unfold tabG at h ⊢
 rw [List.find?_append]
 cases e : kvs.find? fun p => decide (p.1 = k) with
 | none => simp
 | some y => rw [e] at h; cases h
theorem tabG_val {kvs : List (List Key × Key)} {k : List Key} {v : Key} (h : tabG kvs k = some v) : valV (tabV kvs) k = some (kV v) := by rw [tab_val, h]; rfl
theorem tabG_at {kvs : List (List Key × Key)} {k : List Key} {v : Key} (h : tabG kvs k = some v) : ∃ i : Nat, kvs[i]? = some (k, v) := by
  unfold tabG at h
  cases e : kvs.find? fun p => decide (p.1 = k) with
  | none => rw [e] at h; cases h
  | some y =>
    rw [e] at h
    cases h
    obtain ⟨i, hi, ei⟩ := List.getElem_of_mem (List.mem_of_find?_eq_some e)
    have hk := List.find?_some e
    refine ⟨i, ?_⟩
    rw [List.getElem?_eq_getElem hi, ei, ← (of_decide_eq_true hk)]
theorem sure_inj {j : Int} {kvs : List (List Key × Key)} (s : SureT j kvs) {k k' : List Key} {v : Key} (h : tabG kvs k = some v) (h' : tabG kvs k' = some v) : k = k' := by
 obtain ⟨i, hi⟩ := tabG_at h
 obtain ⟨i', hi'⟩ := tabG_at h'
 have e1 := s _ _ hi
 have e2 := s _ _ hi'
 have : (Sum.inl (3 * (i : Int) + j) : Key) = Sum.inl (3 * (i' : Int) + j) := e1.symm.trans e2
 have : i = i' := by injection this; omega
 subst this
 rw [hi] at hi'; cases hi'; rfl
theorem sure_num {j : Int} (j0 : 0 ≤ j) (j1 : j < 1000) {kvs : List (List Key × Key)} (s : SureT j kvs) (hl : kvs.length ≤ 50000) {k : List Key} {v : Key} (h : tabG kvs k = some v) : ∃ i : Int, 0 ≤ i ∧ i < 10 ^ 60 ∧ v = .inl i := by
 obtain ⟨i, hi⟩ := tabG_at h
 have e1 : v = .inl (3 * (i : Int) + j) := s _ _ hi
 have hlt := (List.getElem?_eq_some_iff.mp hi).1
 have p60 : (200000 : Int) < 10 ^ 60 := by decide +kernel
 exact ⟨_, by omega, by omega, e1⟩
theorem sure_snoc {j : Int} {kvs : List (List Key × Key)} (s : SureT j kvs) (k : List Key) : SureT j (kvs ++ [(k, .inl (3 * (kvs.length : Int) + j))]) := fun i p h => by
  by_cases hi : i < kvs.length
  · rw [List.getElem?_append_left hi] at h; exact s i p h
  · rw [List.getElem?_append_right (by omega)] at h
    cases e : i - kvs.length with
    | zero =>
      rw [e] at h
      cases h
      have : i = kvs.length := by omega
      rw [this]
    | succ m => rw [e] at h; cases h
theorem SurAt.keepB {H H' : Hp} {a : SA} {kvs : List (List Key × Key)} {n m : Nat} (s : SurAt H a kvs n) (hn : n ≤ m) (k : ∀ x o, H x = some o → (∀ xs, o ≠ .lst xs) → (∀ kvs, o ≠ .dK kvs) → (∀ ps, o ≠ .tbl ps) → H' x = some o) : SurAt H' a kvs m :=
 ⟨s.j0, s.j1, k _ _ s.hf (fun _ z => nomatch z) (fun _ z => nomatch z) (fun _ z => nomatch z), k _ _ s.hc (fun _ z => nomatch z) (fun _ z => nomatch z) (fun _ z => nomatch z), k _ _ s.h0 (fun _ z => nomatch z) (fun _ z => nomatch z) (fun _ z => nomatch z), k _ _ s.h1 (fun _ z => nomatch z) (fun _ z => nomatch z) (fun _ z => nomatch z), k _ _ s.hb (fun _ z => nomatch z) (fun _ z => nomatch z) (fun _ z => nomatch z), Nat.le_trans s.hl hn, s.st⟩
theorem SurAt.clo {H : Hp} {a : SA} {kvs : List (List Key × Key)} {n : Nat} (s : SurAt H a kvs n) : CloAt H a.f ct_22 [a.q1, a.q0] [.ref a.b, .int a.j] := ⟨⟨a.c, s.hf, s.hc⟩, .cons s.h1 (.cons s.h0 .nil)⟩
variable {K : PySem.W.Frag} {mg : Str → Option Value} {A : Adr}
theorem dget_t {H : Hp} {b p : Addr} {kvs : List (List Key × V)} {kk : List Key} {d : V} (hb : H b = some (.dT kvs)) (hp : H p = some (.tup (kk.map kV))) (hl : kvs.length ≤ 50000) :
  DDef H b (.ref p) d (defV kvs kk d) (defH H b kvs kk d) := by
 unfold defV defH
 have g := DGet.t hb hp
 cases e : valV kvs kk with
 | some v => rw [e] at g; exact .inl ⟨g, if_pos rfl⟩
 | none => rw [e] at g; exact .inr ⟨g, .inr ⟨kvs, kk, p, hb, rfl, hp, Nat.lt_of_le_of_lt hl (line_ge (n := 50001) (by decide)), if_neg (by decide)⟩, rfl⟩
theorem rd_22 (T : Txt K mg A) (a0 b0 b1 : V) (H : Hp) (Q : VK) (E : XK) (h : sp_22 K A [a0, b0, b1] H Q E) : T_22 K A { nx := fun _ H' => Q .non H', rt := Q } (startC ["_law_term", "_law_known", "_law_first"] [a0] [b0, b1]) H := by
 obtain ⟨p, b, j, k, kvs, e, hp, hb, hl, q⟩ := h
 cases e
 exact ⟨.inr (.inr (.inl ⟨rfl, .inr ⟨_, hb⟩⟩)), .inr ⟨b, kvs, rfl, hb, IntMulOk.of_left (by decide), b, .ref p, _, _, _, rfl, rfl, dget_t hb hp hl, q⟩⟩
theorem sur_call {ks : L2.Kinds} (hm : (ct_22, sp_22 K A) ∈ ks) {H : Hp} {a : SA} {p : Addr} {kvs : List (List Key × Key)} {n : Nat} {k : List Key} {R : VK} (s : SurAt H a kvs n) (hn : n ≤ 46000) (hp : H p = some (.tup (k.map kV)))
    (q : ∀ (v : Key) (H' : Hp) (kvs' : List (List Key × Key)), KeepB a.b H H' → SurAt H' a kvs' (n + 1) → Sub0 (tabG kvs) (tabG kvs') → tabG kvs' k = some v → (∃ i : Int, 0 ≤ i ∧ i < 10 ^ 60 ∧ v = .inl i) → R (kV v) H') : HCall ks a.f [.ref p] H R E0 := by
  have hc := s.clo
  have ll : (tabV kvs).length = kvs.length := by simp [tabV]
  have hbc : a.b ∉ [a.q1, a.q0] := hc.cells.notin s.hb fun _ z => nomatch z
  refine ⟨_, hm, _, _, hc, rfl, p, a.b, a.j, k, tabV kvs, rfl, hc.cells.hide hp (fun _ z => nomatch z), hc.cells.hide s.hb (fun _ z => nomatch z), by rw [ll]; have := s.hl; omega, ?_⟩
  dsimp only
  rw [ll]
  cases e : tabG kvs k with
  | some v =>
    have ev := tabG_val e
    unfold defV defH
    rw [ev]
    show R (kV v) (backC _ H (hideC _ H))
    rw [backC_hide]
    exact q v H kvs KeepB.rfl' (s.keepB (Nat.le_succ _) fun _ _ e _ _ _ => e) Sub0.rfl' e (sure_num s.j0 s.j1 s.st (by have := s.hl; omega) e)
  | none =>
    have ev : valV (tabV kvs) k = none := by rw [tab_val, e]; rfl
    unfold defV defH
    rw [ev, if_neg (by decide), backC_upd hbc, backC_hide, putK_new _ ev]
    have et : tabV kvs ++ [(k, V.int (3 * (kvs.length : Int) + a.j))] = tabV (kvs ++ [(k, .inl (3 * (kvs.length : Int) + a.j))]) := by unfold tabV; rw [List.map_append]; rfl
    rw [et]
    have kb : KeepB a.b H (upd H a.b (.dT (tabV (kvs ++ [(k, .inl (3 * (kvs.length : Int) + a.j))])))) := fun x o n e => by rw [upd_ne n]; exact e
    have sn := sure_snoc s.st k
    have ne : ∀ {x : Addr} {φ : Heap → Prop}, H x = some (.ext φ) → x ≠ a.b := fun h z => by rw [z, s.hb] at h; cases h
    exact q (.inl (3 * (kvs.length : Int) + a.j)) _ (kvs ++ [(k, .inl (3 * (kvs.length : Int) + a.j))]) kb ⟨s.j0, s.j1, kb _ _ (ne s.hf) s.hf, kb _ _ (ne s.hc) s.hc, kb _ _ (ne s.h0) s.h0, kb _ _ (ne s.h1) s.h1, upd_same, by have := s.hl; simp; omega, sn⟩
      (fun x y z => tabG_snoc z) (tabG_new e) (sure_num s.j0 s.j1 sn (by have := s.hl; simp; omega) (tabG_new e))
theorem eqTC_keys {H : Hp} {Q : VK} {a b : Addr} {k l : List Key} (ha : H a = some (.tup (k.map kV))) (hb : H b = some (.tup (l.map kV))) (q : Q (.bl (decide (k = l))) H) : mEqC K (.ref a) (.ref b) H Q := by
 refine .inl ⟨a, b, _, _, rfl, rfl, SqT.of ha, SqT.of hb, plain_kVs _, plain_kVs _, ?_⟩
 by_cases e : k = l
 · subst e; rw [decide_eq_true rfl] at q ⊢; exact q
 · rw [decide_eq_false e] at q; rw [decide_eq_false fun z => e (kVs_inj z)]; exact q
theorem m0 {x : CloT × Sp} {l : List (CloT × Sp)} : x ∈ x :: l := List.mem_cons_self
theorem mS {x y : CloT × Sp} {l : List (CloT × Sp)} (h : x ∈ l) : x ∈ y :: l := List.mem_cons_of_mem _ h
theorem rd_17 (T : Txt K mg A) (a0 b0 b1 b2 : V) (H : Hp) (Q : VK) (E : XK) (h : sp_17 K A [a0, b0, b1, b2] H Q E) : T_17 K A { nx := fun _ H' => Q .non H', rt := Q } (startC ["_law_term", "_law_sure_one", "_law_other", "_law_one"] [a0] [b0, b1, b2]) H := by
 obtain ⟨p, o1, o2, a, k, k1, k2, kvs, n, e, hp, h1, h2, ok, ok1, ok2, su, hn, q⟩ := h
 cases e
 refine eqTC_keys hp h2 (Sel.dec (fun e => ?_) (fun e => ?_))
 · rw [if_pos e] at q
   exact ⟨a.f, rfl, ⟨_, m0, _, _, su.clo⟩, tc1 rfl (sur_call (K := K) (A := A) m0 su (by omega) h1 fun v H' kvs' kb su' sub gv nv => q v H' kvs' kb su' sub gv nv)⟩
 · rw [if_neg e] at q
   exact ⟨a.f, rfl, ⟨_, m0, _, _, su.clo⟩, tc1 rfl (sur_call (K := K) (A := A) m0 su (by omega) hp fun v H' kvs' kb su' sub gv nv => q v H' kvs' kb su' sub gv nv)⟩
theorem Stq.clo {H : Hp} {f : Addr} {d : Kd} {g : List Key → Option Key} {n : Nat} (s : Stq A H f d g n) : ∃ ts ∈ Knd1 K A, ∃ cs cvs, CloAt H f ts.1 cs cvs := by
  cases s with
  | sur kvs h ef ep hg => subst ef; exact ⟨_, m0, _, _, h.clo⟩
  | pla k1 k2 kvs h ep hg =>
    obtain ⟨q0, q1, q2, o1, o2, hc, _⟩ := h.ex
    exact ⟨_, mS m0, _, _, hc⟩
theorem PlaAt.keep {H H' : Hp} {f : Addr} {a : SA} {k1 k2 : List Key} {kvs : List (List Key × Key)} {n m : Nat} (s : PlaAt H f a k1 k2 kvs n) (hn : n ≤ m) (k : ∀ x o, H x = some o → (∀ xs, o ≠ .lst xs) → (∀ kvs, o ≠ .dK kvs) → (∀ ps, o ≠ .tbl ps) → H' x = some o) : PlaAt H' f a k1 k2 kvs m := by
 obtain ⟨⟨q0, q1, q2, o1, o2, hc, e1, e2, dis⟩, ok1, ok2, su⟩ := s
 exact ⟨⟨q0, q1, q2, o1, o2, hc.keep (fun x φ e => k x _ e (fun _ z => nomatch z) (fun _ z => nomatch z) (fun _ z => nomatch z)), k _ _ e1 (fun _ z => nomatch z) (fun _ z => nomatch z) (fun _ z => nomatch z), k _ _ e2 (fun _ z => nomatch z) (fun _ z => nomatch z) (fun _ z => nomatch z), dis⟩, ok1, ok2, su.keepB hn k⟩
theorem Stq.keep {H H' : Hp} {f : Addr} {d : Kd} {g : List Key → Option Key} {n m : Nat} (s : Stq A H f d g n) (hn : n ≤ m) (k : ∀ x o, H x = some o → (∀ xs, o ≠ .lst xs) → (∀ kvs, o ≠ .dK kvs) → (∀ ps, o ≠ .tbl ps) → H' x = some o) : Stq A H' f d g m := by
 cases s with
 | sur kvs h ef ep hg => exact .sur kvs (h.keepB hn k) ef ep hg
 | pla k1 k2 kvs h ep hg => exact .pla k1 k2 kvs (h.keep hn k) ep hg
theorem Stq.same {H H' : Hp} {f : Addr} {d : Kd} {g : List Key → Option Key} {n m : Nat} (s : Stq A H f d g n) (hn : n ≤ m) (S : Same H H') : Stq A H' f d g m := s.keep hn fun b o e _ _ _ => S b o e
theorem Stq.dict {H : Hp} {f : Addr} {d : Kd} {g : List Key → Option Key} {n : Nat} (s : Stq A H f d g n) : ∃ kvs, H d.a.b = some (.dT kvs) := by
 cases s with
 | sur kvs h ef ep hg => exact ⟨_, h.hb⟩
 | pla k1 k2 kvs h ep hg => exact ⟨_, h.su.hb⟩
theorem pla_call {H : Hp} {f p : Addr} {a : SA} {k1 k2 : List Key} {kvs : List (List Key × Key)} {n : Nat} {k : List Key} {R : VK} (s : PlaAt H f a k1 k2 kvs n) (hn : n ≤ 45000) (hp : H p = some (.tup (k.map kV))) (ok : okT k = true)
  (q : ∀ (v : Key) (H' : Hp) (kvs' : List (List Key × Key)), KeepB a.b H H' → PlaAt H' f a k1 k2 kvs' (n + 1) → Sub0 (tabG kvs) (tabG kvs') → tabG kvs' (if k = k2 then k1 else k) = some v → (∃ i : Int, 0 ≤ i ∧ i < 10 ^ 60 ∧ v = .inl i) → R (kV v) H') : HCall (Knd1 K A) f [.ref p] H R E0 := by
 obtain ⟨⟨q0, q1, q2, o1, o2, hc, e1, e2, dis⟩, ok1, ok2, su⟩ := s
 have out : ∀ x ∈ [a.f, a.q0, a.q1, a.c], hideC [q0, q2, q1] H x = H x := fun x hx => hideC_out (dis x hx)
 have bk : ∀ (x : Addr) (H' : Hp), x ∈ [a.f, a.q0, a.q1, a.c] → backC [q0, q2, q1] H H' x = H' x := fun x H' hx => backC_out (dis x hx)
 have hbc : a.b ∉ [q0, q2, q1] := hc.cells.notin su.hb fun _ z => nomatch z
 refine ⟨_, mS m0, _, _, hc, rfl, p, o1, o2, a, k, k1, k2, kvs, n, rfl, hc.cells.hide hp (fun _ z => nomatch z), hc.cells.hide e1 (fun _ z => nomatch z), hc.cells.hide e2 (fun _ z => nomatch z), ok, ok1, ok2,
  ⟨su.j0, su.j1, by rw [out _ (by simp)]; exact su.hf, by rw [out _ (by simp)]; exact su.hc, by rw [out _ (by simp)]; exact su.h0, by rw [out _ (by simp)]; exact su.h1, by rw [hideC_out hbc]; exact su.hb, su.hl, su.st⟩, hn, fun v H' kvs' kb su' sub gv nv => ?_⟩
 have kb' : KeepB a.b H (backC [q0, q2, q1] H H') := fun x o n e => by
  by_cases hx : x ∈ [q0, q2, q1]
  · rw [backC_in hx]; exact e
  · rw [backC_out hx]; exact kb x o n (by rw [hideC_out hx]; exact e)
 have ne : ∀ {x : Addr} {o : HO}, H x = some o → (∀ kvs, o ≠ .dT kvs) → x ≠ a.b := fun h hn z => by subst z; rw [su.hb] at h; cases h; exact hn _ rfl
 refine q v _ kvs' kb' ⟨⟨q0, q1, q2, o1, o2, hc.keep (fun x φ e => kb' x _ (ne e (fun _ z => nomatch z)) e), kb' _ _ (ne e1 (fun _ z => nomatch z)) e1, kb' _ _ (ne e2 (fun _ z => nomatch z)) e2, dis⟩, ok1, ok2, ?_⟩ sub gv nv
 exact ⟨su.j0, su.j1, by rw [bk _ _ (by simp)]; exact su'.hf, by rw [bk _ _ (by simp)]; exact su'.hc, by rw [bk _ _ (by simp)]; exact su'.h0, by rw [bk _ _ (by simp)]; exact su'.h1, by rw [backC_out hbc]; exact su'.hb, su'.hl, su'.st⟩
theorem eff_sub {d : Kd} {g g' : List Key → Option Key} (s : Sub0 g g') : Sub0 (eff d g) (eff d g') := fun k v e => by
 unfold eff at e ⊢
 cases h : d.pl with
 | none => rw [h] at e; exact s _ _ e
 | some p => rw [h] at e; exact s _ _ e
theorem call_ok0 {H : Hp} {f p : Addr} {d : Kd} {g : List Key → Option Key} {n : Nat} {k : List Key} {R : VK} (s : Stq A H f d g n) (hn : n ≤ 45000) (hp : H p = some (.tup (k.map kV))) (ok : okT k = true)
    (q : ∀ (v : Key) (H' : Hp) (g' : List Key → Option Key), KeepB d.a.b H H' → Stq A H' f d g' (n + 1) → Sub0 g g' → eff d g' k = some v → stOf k v → R (kV v) H') : HCall (Knd1 K A) f [.ref p] H R E0 := by
  cases s with
  | sur kvs h ef ep hg =>
    subst ef hg
    exact sur_call m0 h (by omega) hp fun v H' kvs' kb su' sub gv ⟨i, i0, i1, ei⟩ => q v H' (tabG kvs') kb (.sur kvs' su' rfl ep rfl) sub (by unfold eff; rw [ep]; exact gv) (by rw [ei]; exact ⟨i0, i1⟩)
  | pla k1 k2 kvs h ep hg =>
    subst hg
    exact pla_call h hn hp ok fun v H' kvs' kb su' sub gv ⟨i, i0, i1, ei⟩ => q v H' (tabG kvs') kb (.pla k1 k2 kvs' su' ep rfl) sub (by unfold eff; rw [ep]; exact gv) (by rw [ei]; exact ⟨i0, i1⟩)
end Rs
namespace Rs
open PySem PySem.Spec PyProof.Rows L2
theorem KeepP.trans {P : Addr} {H H1 H2 : Hp} (a : KeepP P H H1) (b : KeepP P H1 H2) : KeepP P H H2 := fun x o e n => b x o (a x o e n) n
theorem KeepP.new {P p : Addr} {H : Hp} {o : HO} (h : H p = none) : KeepP P H (upd H p o) := fun b u e _ => by rw [upd_ne (ne_of_none e h)]; exact e
theorem KeepP.tab {P : Addr} {H : Hp} {o : HO} : KeepP P H (upd H P o) := fun b u e n => by rw [upd_ne n]; exact e
theorem fresh_ne {H : Hp} {P q : Addr} {o : HO} (hP : H P = some o) (hq : H q = none) : q ≠ P := fun e => by rw [e, hP] at hq; cases hq
theorem Tab1.same {P : Addr} {l c : Nat} {t : CloT} {H H' : Hp} (h : Tab1 P l c t H) (s : Same H H') : Tab1 P l c t H' := by
 obtain ⟨ps, h1, h2⟩ := h
 exact ⟨ps, s _ _ h1, h2.imp id fun ⟨a, e, ha⟩ => ⟨a, e, s _ _ ha⟩⟩
theorem made {P : Addr} {l c : Nat} {t : CloT} {H : Hp} {cs : List Addr} {R : V → Hp → Prop} (tb : Tab1 P l c t H)
   (q : ∀ (f d : Addr) (H3 : Hp), H f = none → KeepP P H H3 → Tab1 P l c t H3 → f ≠ P → d ≠ P → H3 f = some (cloO f t cs d) → H3 d = some (codeO d t.qual) → R (.ref f) H3) :
   ∃ ps, H P = some (.tbl ps) ∧ ((ps = #[] ∧ ∀ d f, H d = none → H f = none → d ≠ f → R (.ref f) (upd (upd (upd H P (.tbl (ps ++ #[rawInt ((l : Nat) : Int), rawInt ((c : Nat) : Int), .ref d]))) d (codeO d t.qual)) f (cloO f t cs d))) ∨ ∃ d, ps = #[] ++ #[rawInt ((l : Nat) : Int), rawInt ((c : Nat) : Int), .ref d] ∧ ∀ f, H f = none → R (.ref f) (upd H f (cloO f t cs d))) := by
 obtain ⟨ps, hP, tb⟩ := tb
 refine ⟨ps, hP, ?_⟩
 rcases tb with rfl | ⟨d, rfl, hd⟩
 · refine .inl ⟨rfl, fun d f hd hf hne => ?_⟩
   have dP := fresh_ne hP hd
   have fP := fresh_ne hP hf
   have c1 : ∀ o, upd H P o d = none := fun o => by rw [upd_ne dP]; exact hd
   have f1 : ∀ o, upd (upd H P o) d (codeO d t.qual) f = none := fun o => by rw [upd_ne (Ne.symm hne), upd_ne fP]; exact hf
   exact q f d _ hf (KeepP.tab.trans ((KeepP.new (c1 _)).trans (KeepP.new (f1 _)))) ⟨_, by rw [upd_ne (Ne.symm fP), upd_ne (Ne.symm dP), upd_same], .inr ⟨d, rfl, by rw [upd_ne hne, upd_same]⟩⟩ fP dP upd_same (by rw [upd_ne hne, upd_same])
 · refine .inr ⟨d, rfl, fun f hf => ?_⟩
   have fP := fresh_ne hP hf
   have dP : d ≠ P := fun z => by subst z; rw [hP] at hd; cases hd
   have S := Same.upd (o := cloO f t cs d) hf
   exact q f d _ hf (KeepP.new hf) ⟨_, S _ _ hP, .inr ⟨d, rfl, S _ _ hd⟩⟩ fP dP upd_same (S _ _ hd)
variable {K : PySem.W.Frag} {mg : Str → Option Value} {A : Adr}
theorem len_21 (K : PySem.W.Frag) (A : Adr) : ∀ vs H Q E, sp_21 K A vs H Q E → vs.length = 1 := by rintro vs H Q E ⟨j, rfl, _⟩; rfl
theorem rd_21 (T : Txt K mg A) (q0 q1 : Addr) (hnd : ([q0, q1] : List Addr).Nodup) (vs : List V) (H : Hp) (Q : VK) (E : XK) (h : sp_21 K A vs H Q E) : T_21 K A q0 q1 { nx := fun σ H' => (∀ p ∈ ([(0, q0), (1, q1)] : List (Nat × Addr)), H' p.2 = none) → Q .non (trackC [(0, q0), (1, q1)] σ H'), rt := fun σ v H' => (∀ p ∈ ([(0, q0), (1, q1)] : List (Nat × Addr)), H' p.2 = none) → Q v (trackC [(0, q0), (1, q1)] σ H') } (L2.start ["_law_first", "_law_known", "_law_number"] vs) H := by
 obtain ⟨j, rfl, j0, j1, tb, q⟩ := h
 have n01 : q0 ≠ q1 := fun e => by simp [e] at hnd
 refine .inr fun b hb => ?_
 have tb1 : TabS A (upd H b (.dT [])) := tb.same (Same.upd hb)
 obtain ⟨ps0, hP0, _⟩ := id tb
 have bP : b ≠ A.t_21 := fresh_ne hP0 hb
 have S1 : KeepP A.t_21 H (upd H b (.dT [])) := KeepP.new hb
 have key : ∀ (f d : Addr) (H3 : Hp), upd H b (.dT []) f = none → KeepP A.t_21 (upd H b (.dT [])) H3 → TabS A H3 → f ≠ A.t_21 → d ≠ A.t_21 → H3 f = some (cloO f ct_22 [q1, q0] d) → H3 d = some (codeO d ct_22.qual) →
    ((∀ p ∈ ([(0, q0), (1, q1)] : List (Nat × Addr)), H3 p.2 = none) → Q (.ref f) (upd (upd H3 q0 (cellO q0 (.int j))) q1 (cellO q1 (.ref b)))) := by
   intro f d H3 hf k3 tb3 fP dP hf3 hd3 hq
   have a0 : H3 q0 = none := hq (0, q0) (by simp)
   have a1 : H3 q1 = none := hq (1, q1) (by simp)
   have a1' : upd H3 q0 (cellO q0 (.int j)) q1 = none := by rw [upd_ne (Ne.symm n01)]; exact a1
   have S2 := (Same.upd (o := cellO q0 (.int j)) a0).trans (Same.upd (o := cellO q1 (.ref b)) a1')
   refine q ⟨f, b, q0, q1, d, j⟩ _ (S1.trans (k3.trans fun x o e _ => S2 _ _ e)) (tb3.same S2) hb ⟨j0, j1, S2 _ _ hf3, S2 _ _ hd3, ?_, upd_same, S2 _ _ (k3 _ _ upd_same bP), Nat.le_refl _, fun i p h => by cases h⟩
   show upd (upd H3 q0 (cellO q0 (.int j))) q1 _ q0 = _
   rw [upd_ne n01, upd_same]
 obtain ⟨ps, hP, h⟩ := made (cs := [q1, q0]) (R := fun v H3 => ∀ f, v = .ref f → (∀ p ∈ ([(0, q0), (1, q1)] : List (Nat × Addr)), H3 p.2 = none) → Q (.ref f) (upd (upd H3 q0 (cellO q0 (.int j))) q1 (cellO q1 (.ref b)))) tb1
   (fun f d H3 hf k3 tb3 fP dP hf3 hd3 f' ef => by cases ef; exact key f d H3 hf k3 tb3 fP dP hf3 hd3)
 rcases h with ⟨rfl, h⟩ | ⟨d, rfl, h⟩
 · exact ⟨_, hP, trivial, .inl ⟨rfl, fun c f hc hf hne hq => h c f hc hf hne f rfl hq⟩⟩
 · exact ⟨_, hP, trivial, .inr ⟨d, rfl, fun f hf hq => h f hf f rfl hq⟩⟩
theorem len_16 (K : PySem.W.Frag) (A : Adr) : ∀ vs H Q E, sp_16 K A vs H Q E → vs.length = 3 := by rintro vs H Q E ⟨o1, o2, a, k1, k2, kvs, n, rfl, _⟩; rfl
theorem rd_16 (T : Txt K mg A) (q0 q1 q2 : Addr) (hnd : ([q0, q1, q2] : List Addr).Nodup) (vs : List V) (H : Hp) (Q : VK) (E : XK) (h : sp_16 K A vs H Q E) : T_16 K A q0 q1 q2 { nx := fun σ H' => (∀ p ∈ ([(0, q0), (1, q1), (2, q2)] : List (Nat × Addr)), H' p.2 = none) → Q .non (trackC [(0, q0), (1, q1), (2, q2)] σ H'), rt := fun σ v H' => (∀ p ∈ ([(0, q0), (1, q1), (2, q2)] : List (Nat × Addr)), H' p.2 = none) → Q v (trackC [(0, q0), (1, q1), (2, q2)] σ H') } (L2.start ["_law_sure_one", "_law_one", "_law_other", "_law_number"] vs) H := by
 obtain ⟨o1, o2, a, k1, k2, kvs, n, rfl, h1, h2, ok1, ok2, su, tb, q⟩ := h
 have n01 : q0 ≠ q1 := fun e => by simp [e] at hnd
 have n02 : q0 ≠ q2 := fun e => by simp [e] at hnd
 have n12 : q1 ≠ q2 := fun e => by simp [e] at hnd
 obtain ⟨ps0, hP0, _⟩ := id tb
 have nP : ∀ {x : Addr} {o : HO}, H x = some o → (∀ ps, o ≠ .tbl ps) → x ≠ A.t_16 := fun e hn z => by subst z; rw [hP0] at e; cases e; exact hn _ rfl
 have key : ∀ (f d : Addr) (H3 : Hp), H f = none → KeepP A.t_16 H H3 → TabP A H3 → f ≠ A.t_16 → d ≠ A.t_16 → H3 f = some (cloO f ct_17 [q0, q2, q1] d) → H3 d = some (codeO d ct_17.qual) →
     ((∀ p ∈ ([(0, q0), (1, q1), (2, q2)] : List (Nat × Addr)), H3 p.2 = none) → Q (.ref f) (upd (upd (upd H3 q0 (cellO q0 (.ref a.f))) q1 (cellO q1 (.ref o1))) q2 (cellO q2 (.ref o2)))) := by
   intro f d H3 hf k3 tb3 fP dP hf3 hd3 hq
   have a0 : H3 q0 = none := hq (0, q0) (by simp)
   have a1 : H3 q1 = none := hq (1, q1) (by simp)
   have a2 : H3 q2 = none := hq (2, q2) (by simp)
   have a1' : upd H3 q0 (cellO q0 (.ref a.f)) q1 = none := by rw [upd_ne (Ne.symm n01)]; exact a1
   have a2' : upd (upd H3 q0 (cellO q0 (.ref a.f))) q1 (cellO q1 (.ref o1)) q2 = none := by rw [upd_ne (Ne.symm n12), upd_ne (Ne.symm n02)]; exact a2
   have S2 := (Same.upd (o := cellO q0 (.ref a.f)) a0).trans ((Same.upd (o := cellO q1 (.ref o1)) a1').trans (Same.upd (o := cellO q2 (.ref o2)) a2'))
   have kk : KeepP A.t_16 H (upd (upd (upd H3 q0 (cellO q0 (.ref a.f))) q1 (cellO q1 (.ref o1))) q2 (cellO q2 (.ref o2))) := k3.trans fun x o e _ => S2 _ _ e
   have z0 : upd (upd (upd H3 q0 (cellO q0 (.ref a.f))) q1 (cellO q1 (.ref o1))) q2 (cellO q2 (.ref o2)) q0 = some (cellO q0 (.ref a.f)) := by rw [upd_ne n02, upd_ne n01, upd_same]
   have z1 : upd (upd (upd H3 q0 (cellO q0 (.ref a.f))) q1 (cellO q1 (.ref o1))) q2 (cellO q2 (.ref o2)) q1 = some (cellO q1 (.ref o1)) := by rw [upd_ne n12, upd_same]
   have z2 : upd (upd (upd H3 q0 (cellO q0 (.ref a.f))) q1 (cellO q1 (.ref o1))) q2 (cellO q2 (.ref o2)) q2 = some (cellO q2 (.ref o2)) := upd_same
   have hx : ∀ {x : Addr} {o : HO}, H x = some o → (∀ ps, o ≠ .tbl ps) → x ∉ [q0, q2, q1] := fun e hn z => by
     have e3 := k3 _ _ e (nP e hn)
     simp only [List.mem_cons, List.not_mem_nil, or_false] at z
     rcases z with rfl | rfl | rfl
     · rw [a0] at e3; cases e3
     · rw [a2] at e3; cases e3
     · rw [a1] at e3; cases e3
   refine q f _ kk (tb3.same S2) ⟨⟨q0, q1, q2, o1, o2, ⟨⟨d, S2 _ _ hf3, S2 _ _ hd3⟩, .cons z0 (.cons z2 (.cons z1 .nil))⟩, kk _ _ h1 (nP h1 (fun _ z => nomatch z)), kk _ _ h2 (nP h2 (fun _ z => nomatch z)), fun x hm => ?_⟩, ok1, ok2, su.keepB (Nat.le_refl _) fun x o e _ _ nt => kk _ _ e (nP e nt)⟩
   simp only [List.mem_cons, List.not_mem_nil, or_false] at hm
   rcases hm with rfl | rfl | rfl | rfl
   · exact hx su.hf (fun _ z => nomatch z)
   · exact hx su.h0 (fun _ z => nomatch z)
   · exact hx su.h1 (fun _ z => nomatch z)
   · exact hx su.hc (fun _ z => nomatch z)
 obtain ⟨ps, hP, h⟩ := made (cs := [q0, q2, q1]) (R := fun v H3 => ∀ f, v = .ref f → (∀ p ∈ ([(0, q0), (1, q1), (2, q2)] : List (Nat × Addr)), H3 p.2 = none) → Q (.ref f) (upd (upd (upd H3 q0 (cellO q0 (.ref a.f))) q1 (cellO q1 (.ref o1))) q2 (cellO q2 (.ref o2)))) tb
   (fun f d H3 hf k3 tb3 fP dP hf3 hd3 f' ef => by cases ef; exact key f d H3 hf k3 tb3 fP dP hf3 hd3)
 rcases h with ⟨rfl, h⟩ | ⟨d, rfl, h⟩
 · exact ⟨_, hP, trivial, .inl ⟨rfl, fun c f hc hf hne hq => h c f hc hf hne f rfl hq⟩⟩
 · exact ⟨_, hP, trivial, .inr ⟨d, rfl, fun f hf hq => h f hf f rfl hq⟩⟩
end Rs
namespace Rs
open PySem PySem.Spec PyProof.Rows L2
theorem KeepT.rfl' {H : Hp} : KeepT H H := fun _ _ e _ => e
theorem KeepT.trans {H H1 H2 : Hp} (a : KeepT H H1) (b : KeepT H1 H2) : KeepT H H2 := fun x o e n => b x o (a x o e n) n
theorem KeepT.same {H H' : Hp} (S : Same H H') : KeepT H H' := fun x o e _ => S x o e
theorem KeepT.tup {H H' : Hp} (k : KeepT H H') : ∀ b xs, H b = some (.tup xs) → H' b = some (.tup xs) := fun b xs e => k b _ e fun _ z => nomatch z
theorem KeepB.keepT {H H' : Hp} {b : Addr} {kvs : List (List Key × V)} (hb : H b = some (.dT kvs)) (k : KeepB b H H') : KeepT H H' := fun x o e n => k x o (fun z => by subst z; rw [hb] at e; cases e; exact n _ rfl) e
theorem KeepB.obj {d : Addr} {H H' : Hp} (k : KeepB d H H') (hd : ∃ kvs, H d = some (.dT kvs)) {x : Addr} {o : HO} (e : H x = some o) (hn : ∀ kvs, o ≠ .dT kvs) : H' x = some o := k _ _ (fun z => by obtain ⟨kvs, hd⟩ := hd; subst z; rw [hd] at e; cases e; exact hn _ rfl) e
theorem Sub.rfl' {g : SG} : Sub g g := ⟨rfl, Sub0.rfl'⟩
theorem Sub.trans {a b c : SG} (h : Sub a b) (k : Sub b c) : Sub a c := ⟨h.1.trans k.1, Sub0.trans h.2 k.2⟩
theorem Ext.of {g g' : SG} {h : List Key → Key} (e : Ext g' h) (s : Sub g g') : Ext g h := fun k v hk => by
 obtain ⟨d, g⟩ := g
 obtain ⟨d', g'⟩ := g'
 obtain ⟨rfl, s⟩ := s
 exact e k v (eff_sub s k v hk)
def extT (g : SG) : List Key → Key := fun k => (g.e k).getD (.inl 0)
theorem extT_ok (g : SG) : Ext g (extT g) := fun k v e => by unfold extT; rw [e]; rfl
theorem Stq.dict' {A : Adr} {H : Hp} {f : Addr} {d : Kd} {g : List Key → Option Key} {n : Nat} (s : Stq A H f d g n) : ∃ kvs, H d.a.b = some (.dT kvs) := by
 cases s with
 | sur kvs h ef ep hg => exact ⟨_, h.hb⟩
 | pla k1 k2 kvs h ep hg => exact ⟨_, h.su.hb⟩
variable {K : PySem.W.Frag} {mg : Str → Option Value} {A : Adr}
theorem Stp.clo {H : Hp} {f : Addr} {g : SG} {n : Nat} (s : Stp A H f g n) : ∃ ts ∈ Knd1 K A, ∃ cs cvs, CloAt H f ts.1 cs cvs := Stq.clo s
theorem Stp.keep {H H' : Hp} {f : Addr} {g : SG} {n m : Nat} (s : Stp A H f g n) (hn : n ≤ m) (k : ∀ b o, H b = some o → (∀ xs, o ≠ .lst xs) → (∀ ps, o ≠ .tbl ps) → H' b = some o) : Stp A H' f g m := Stq.keep s hn fun b o e n1 _ n3 => k b o e n1 n3
theorem Stp.same {H H' : Hp} {f : Addr} {g : SG} {n m : Nat} (s : Stp A H f g n) (hn : n ≤ m) (S : Same H H') : Stp A H' f g m := s.keep hn fun b o e _ _ => S b o e
theorem call_ok {H : Hp} {f p : Addr} {g : SG} {n : Nat} {k : List Key} {R : VK} (s : Stp A H f g n) (hn : n ≤ 45000) (hp : H p = some (.tup (k.map kV))) (ok : okT k = true)
  (q : ∀ (v : Key) (H' : Hp) (g' : SG), KeepT H H' → Stp A H' f g' (n + 1) → Sub g g' → g'.e k = some v → stOf k v → R (kV v) H') : HCall (Knd1 K A) f [.ref p] H R E0 := by
 obtain ⟨kvs, hb⟩ := Stq.dict' s
 exact call_ok0 s hn hp ok fun v H' g' kb s' sub e so => q v H' ⟨g.d, g'⟩ (kb.keepT hb) s' ⟨rfl, sub⟩ e so
end Rs
namespace Rs
open PySem PySem.Spec PyProof.Rows L2
mutual
def tupD : Dat → Bool
 | .lst _ => false
 | .tup ds => tupDs ds
 | .non => true
 | .bl _ => true
 | .int _ => true
 | .str _ => true
 | .dic => false
def tupDs : List Dat → Bool
 | [] => true
 | d :: r => tupD d && tupDs r
end
mutual
theorem DatW.keepT {H H' : Hp} {v : V} {d : Dat} (h : DatW H v d) (k : ∀ b xs, H b = some (.tup xs) → H' b = some (.tup xs)) (t : tupD d = true) : DatW H' v d := by
 cases h with
 | non => exact .non
 | bl b => exact .bl b
 | int i => exact .int i
 | str z => exact .str z
 | lst e r => cases t
 | tup e r => exact .tup (k _ _ e) (DatWs.keepT r k t)
 | dic e => cases t
theorem DatWs.keepT {H H' : Hp} {xs : List V} {ds : List Dat} (h : DatWs H xs ds) (k : ∀ b xs, H b = some (.tup xs) → H' b = some (.tup xs)) (t : tupDs ds = true) : DatWs H' xs ds := by
  cases h with
  | nil => exact .nil
  | cons a r =>
    have t : (tupD _ && tupDs _) = true := t
    rw [Bool.and_eq_true] at t
    exact .cons (DatW.keepT a k t.1) (DatWs.keepT r k t.2)
end
theorem tup_key (x : Key) : tupD (datK x) = true := by cases x <;> rfl
theorem okP_stamp {x : Key} (h1 : isStampD (datK x) = true) (h2 : okD (datK x) = true) : okP x = true := by
 cases x with
 | inl i => exact h1
 | inr z => exact h2
theorem okT3 {x y z : Key} (hx : okP x = true) (hy : okP y = true) (hz : okP z = true) (h : isTxt x = true) : okT [x, y, z] = true := by
 show (true && isTxt x && (okP x && (okP y && (okP z && true)))) = true
 rw [h, hx, hy, hz]; rfl
theorem okT5 {x y z u v : Key} (hx : okP x = true) (hy : okP y = true) (hz : okP z = true) (hu : okP u = true) (hv : okP v = true) (h : isTxt x = true) : okT [x, y, z, u, v] = true := by
 show (true && isTxt x && (okP x && (okP y && (okP z && (okP u && (okP v && true)))))) = true
 rw [h, hx, hy, hz, hu, hv]; rfl
theorem fork_ok : okP (.inr "fork") = true ∧ okP (.inr "leaf") = true ∧ okP (.inr "bare") = true := by decide +kernel
theorem fork_sz : szK (.inr "fork") = 66 ∧ szK (.inr "leaf") = 66 ∧ szK (.inr "bare") = 66 := by decide +kernel
theorem intP {i : Int} (h0 : 0 ≤ i) (h1 : i < 10 ^ 60) : okP (.inl i) = true := decide_eq_true ⟨h0, h1⟩
theorem stOf_ok {k : List Key} {v : Key} (h : stOf k v) (hk : szT k ≤ 100000) : okP v = true ∧ szK v ≤ szT k + 62 := by
 cases v with
 | inl i => exact ⟨decide_eq_true h, by show 62 ≤ _; omega⟩
 | inr z => exact ⟨by show (ascS z && decide (z.length ≤ 100000)) = true; rw [h.1, decide_eq_true (Nat.le_trans h.2 hk)]; rfl, by show z.length + 62 ≤ _; have := h.2; omega⟩
theorem pk_snoc {H : Hp} {ps : List Addr} {ts : List (List Key)} {p : Addr} {t : List Key} (h : PK H ps ts) (e : H p = some (.tup (t.map kV)) ∧ okT t = true) : PK H (ps ++ [p]) (ts ++ [t]) := by
 induction h with
 | nil => exact .cons e .nil
 | cons r t ih => exact .cons r ih
theorem pk_keep {H H' : Hp} {ps : List Addr} {ts : List (List Key)} (k : ∀ b xs, H b = some (.tup xs) → H' b = some (.tup xs)) (h : PK H ps ts) : PK H' ps ts := L2.Paired.imp' (fun p x e => ⟨k _ _ e.1, e.2⟩) h
theorem pk_last {H : Hp} {ps : List Addr} {pre : List (List Key)} {cur : List Key} (h : PK H ps (pre ++ [cur])) : ∃ qs p, ps = qs ++ [p] ∧ H p = some (.tup (cur.map kV)) ∧ okT cur = true := by
 have hl := pk_len h
 obtain ⟨p, hp, h2⟩ := pk_get h (i := pre.length) (t := cur) (by simp)
 have hn : ps ≠ [] := by intro z; subst z; simp at hl
 refine ⟨ps.dropLast, p, ?_, h2⟩
 have : ps.getLast? = some p := by
  rw [List.getLast?_eq_getElem?]
  have : ps.length - 1 = pre.length := by simp at hl; omega
  rw [this]; exact hp
 obtain ⟨ys, hy⟩ := List.getLast?_eq_some_iff.mp this
 rw [hy]; simp
theorem ixLastL {K : PySem.W.Frag} {H : Hp} {Q : VK} {L : Addr} {qs : List Addr} {p : Addr} (hL : H L = some (.lst ((qs ++ [p]).map V.ref))) (q : Q (.ref p) H) : rIxA K (.ref L) (.int (-1)) H Q := by
 refine .inl (.inl ⟨L, _, -1, .ref p, rfl, rfl, SqL.of hL, ?_, q⟩)
 rw [List.map_append]
 exact atI_last _ _
variable {K : PySem.W.Frag} {mg : Str → Option Value} {A : Adr} {H : Hp} {f : Addr} {b k : Int} {st : List (Int × Key)} {e : List Key} {g : List Key → Option Key} {n : Nat} {L : Addr}
end Rs
namespace Rs
open PySem PySem.Spec PyProof.Rows L2
theorem pow60 {d : Int} (h : d ≤ 60) : (2 : Int) ^ d.toNat ≤ 2 ^ 60 := by
 have : (2 : Nat) ^ d.toNat ≤ 2 ^ 60 := Nat.pow_le_pow_right (by decide) (by omega)
 exact_mod_cast this
theorem part_tup (p : Part) : tupD (partD p) = true := by
 induction p with
 | cut m => show (true && (tupD (datK m) && true)) = true; rw [tup_key]; rfl
 | bare => rfl
 | leaf k z => rfl
 | fork d b l r hl hr => show (true && (true && (true && (tupD (partD l) && (tupD (partD r) && true))))) = true; rw [hl, hr]; rfl
theorem at_cut {H : Hp} {v : V} {m : Key} (h : DatW H v (partD (.cut m))) : ∃ a, v = .ref a ∧ H a = some (.tup [.str "cut", kV m]) := kV_at (e := [.inr "cut", m]) h
theorem at_bare {H : Hp} {v : V} (h : DatW H v (partD .bare)) : ∃ a, v = .ref a ∧ H a = some (.tup [.str "bare"]) := kV_at (e := [.inr "bare"]) h
theorem at_leaf {H : Hp} {v : V} {k : Int} {z : Str} (h : DatW H v (partD (.leaf k z))) : ∃ a, v = .ref a ∧ H a = some (.tup [.str "leaf", .int k, .str z]) := kV_at (e := [.inr "leaf", .inl k, .inr z]) h
theorem at_fork {H : Hp} {v : V} {d b : Int} {l r : Part} (h : DatW H v (partD (.fork d b l r))) : ∃ a x y, v = .ref a ∧ H a = some (.tup [.str "fork", .int d, .int b, x, y]) ∧ DatW H x (partD l) ∧ DatW H y (partD r) := by
  cases h with
  | @tup a xs _ ea w =>
    cases w with
    | cons w0 w =>
    cases w with
    | cons w1 w =>
    cases w with
    | cons w2 w =>
    cases w with
    | cons w3 w =>
    cases w with
    | cons w4 w =>
    cases w
    cases w0
    cases w1
    cases w2
    exact ⟨a, _, _, rfl, ea, w3, w4⟩
theorem okS_cut : okD (.str "cut") = true := by decide +kernel
theorem okPart_d {b lo hi d g : Int} {p : Part} (h : okPart b lo hi d g p) (hd : d ≤ b) : okD (partD p) = true := by
  induction p generalizing d g with
  | cut m => show (okD (.str "cut") && (okD (datK m) && true)) = true; rw [okS_cut, h.2.2.1]; rfl
  | bare => decide +kernel
  | leaf k z =>
    show (okD (.str "leaf") && (true && (okD (.str z) && true))) = true
    rw [okS_leaf, okS_z h.2.2.2.2.1 (by have := h.2.2.2.1; omega)]; rfl
  | fork e x l r hl hr =>
    show (okD (.str "fork") && (true && (true && (okD (partD l) && (okD (partD r) && true))))) = true
    obtain ⟨_, _, he, _, _, _, h1, h2⟩ := h
    rw [okS_fork, hl h1 (by omega), hr h2 (by omega)]; rfl
theorem part_deep (p : Part) : (toPy (partD p)).depth ≤ tall p + 1 := by
  induction p with
  | cut m =>
    show max 0 (max (toPy (datK m)).depth 0) + 1 ≤ 0 + 1
    rw [dp_datK]; decide
  | bare => decide
  | leaf k z => show max 0 (max 0 (max 0 0)) + 1 ≤ 0 + 1; decide
  | fork d b l r hl hr =>
    show max 0 (max 0 (max 0 (max (toPy (partD l)).depth (max (toPy (partD r)).depth 0)))) + 1 ≤ max (tall l) (tall r) + 1 + 1
    omega
theorem part_end {b lo hi d g : Int} {p : Part} (h : okPart b lo hi d g p) (hd : d ≤ b) (ht : tall p ≤ 60) : endOk (partD p) := .inl ⟨okPart_d h hd, by have := part_deep p; omega⟩
theorem fork_next {e x : Int} (e0 : 0 ≤ e) (x0 : 0 ≤ x) (x1 : x < 2 ^ e.toNat) : 0 ≤ 2 * x ∧ 2 * x < 2 ^ (e + 1).toNat ∧ 2 * x + 1 < 2 ^ (e + 1).toNat := by
 have : (e + 1).toNat = e.toNat + 1 := by omega
 rw [this, Int.pow_succ]
 omega
theorem PartW.left {H : Hp} {v : V} {b lo hi d g e x : Int} {l r : Part} {y : V} (h : PartW H v b lo hi d g (.fork e x l r)) (w : DatW H y (partD l)) : PartW H y b lo hi (e + 1) (2 * x) l := by
 obtain ⟨_, h1, he, x0, x1, _, hl, _⟩ := h.ok
 have d0 := h.d0
 obtain ⟨a, b', _⟩ := fork_next (by omega) x0 x1
 exact ⟨w, hl, by omega, by omega, a, b'⟩
theorem PartW.right {H : Hp} {v : V} {b lo hi d g e x : Int} {l r : Part} {y : V} (h : PartW H v b lo hi d g (.fork e x l r)) (w : DatW H y (partD r)) : PartW H y b lo hi (e + 1) (2 * x + 1) r := by
 obtain ⟨_, h1, he, x0, x1, _, _, hr⟩ := h.ok
 have d0 := h.d0
 obtain ⟨a, _, b'⟩ := fork_next (by omega) x0 x1
 exact ⟨w, hr, by omega, by omega, by omega, b'⟩
variable {K : PySem.W.Frag} {mg : Str → Option Value} {A : Adr}
theorem len_43 (K : PySem.W.Frag) (A : Adr) : ∀ vs H Q E, sp_43 K A vs H Q E → vs.length = 3 := by rintro vs H Q E ⟨_, _, _, rfl, _⟩; rfl
theorem rd_43 (T : Txt K mg A) (vs : List V) (H : Hp) (Q : VK) (E : XK) (h : sp_43 K A vs H Q E) : T_43 K A { nx := fun _ H' => Q .non H', rt := Q } (L2.start ["bits", "depth", "begin", "rest"] vs) H := by
 obtain ⟨b, d, g, rfl, d0, d1, b60, g0, g1, q⟩ := h
 have := pow60 (d := d) (by omega)
 exact ⟨⟨by omega, by omega, by omega⟩, ⟨by omega, by omega, by omega⟩, by show 2 ≤ sizeLine; decide, fun p hp => q p hp⟩
theorem len_39 (K : PySem.W.Frag) (A : Adr) : ∀ vs H Q E, sp_39 K A vs H Q E → vs.length = 5 := by rintro vs H Q E ⟨_, _, _, _, _, rfl, _⟩; rfl
theorem rd_39 (T : Txt K mg A) (vs : List V) (H : Hp) (Q : VK) (E : XK) (h : sp_39 K A vs H Q E) : T_39 K A { nx := fun _ H' => Q .non H', rt := Q } (L2.start ["bits", "low", "high", "depth", "begin", "ends"] vs) H := by
 obtain ⟨b, lo, hi, d, g, rfl, d0, d1, b60, g0, g1, q⟩ := h
 refine ⟨b, d, g, rfl, d0, d1, b60, g0, g1, fun p hp => ?_⟩
 refine ixT (j := 0) upd_same rfl rfl ?_
 have q := q _ (Same.upd (o := .tup [.int (g * 2 ^ (b - d).toNat), .int ((g + 1) * 2 ^ (b - d).toNat - 1)]) hp)
 unfold meetsI at q
 refine Sel.mk (fun e => ixT (j := 1) upd_same rfl rfl ?_) (fun e => ?_)
 · rw [e, Bool.true_and] at q; exact q
 · rw [e, Bool.false_and] at q; exact q
theorem len_28 (K : PySem.W.Frag) (A : Adr) : ∀ vs H Q E, sp_28 K A vs H Q E → vs.length = 3 := by rintro vs H Q E ⟨_, _, _, rfl, _⟩; rfl
theorem rd_28 (T : Txt K mg A) (vs : List V) (H : Hp) (Q : VK) (E : XK) (h : sp_28 K A vs H Q E) : T_28 K A { nx := fun _ H' => Q .non H', rt := Q } (L2.start ["bits", "low", "high"] vs) H := by
 obtain ⟨b, lo, hi, rfl, e, q⟩ := h
 have k1 : isKeyD b (.int lo) = true := decide_eq_true ⟨e.lo0, Int.lt_of_le_of_lt e.le e.hi1⟩
 have k2 : isKeyD b (.int hi) = true := decide_eq_true ⟨Int.le_trans e.lo0 e.le, e.hi1⟩
 have b1 := e.b1
 have b60 := e.b60
 refine ⟨b, .int lo, .int lo, rfl, by omega, b60, .int lo, Sel.no (by rw [k1]; rfl) ⟨b, .int hi, .int hi, rfl, by omega, b60, .int hi, Sel.no (by rw [k2]; rfl) ?_⟩⟩
 exact Sel.no (decide_eq_false (by have := e.le; omega)) q
theorem len_30 (K : PySem.W.Frag) (A : Adr) : ∀ vs H Q E, sp_30 K A vs H Q E → vs.length = 1 := by rintro vs H Q E ⟨_, _, rfl, _⟩; rfl
theorem rd_30 (T : Txt K mg A) (vs : List V) (H : Hp) (Q : VK) (E : XK) (h : sp_30 K A vs H Q E) : T_30 K A { nx := fun _ H' => Q .non H', rt := Q } (L2.start ["thing"] vs) H := by
 obtain ⟨v, m, rfl, w, hm, q⟩ := h
 have ty := w.ty
 obtain ⟨a, rfl, ha⟩ := at_cut w
 refine ⟨by decide, _, ty, Sel.yes rfl (.inl (.inr (.inl ⟨_, SqT.of ha, Sel.yes rfl ?_⟩)))⟩
 refine ixT (j := 0) ha rfl rfl (Sel.yes (decide_eq_true rfl) (ixT (j := 1) ha rfl rfl ⟨kV m, datK m, rfl, dat_kV H m, ?_⟩))
 rw [hm.1]; exact q
theorem bare_no {p : Part} (h : ∀ (_ : p = .bare), False) : isBareD (partD p) = false := by
 cases p with
 | bare => exact (h rfl).elim
 | _ => rfl
theorem len_34 (K : PySem.W.Frag) (A : Adr) : ∀ vs H Q E, sp_34 K A vs H Q E → vs.length = 6 := by rintro vs H Q E ⟨_, _, _, _, _, _, _, rfl, _⟩; rfl
theorem rd_34 (T : Txt K mg A) (vs : List V) (H : Hp) (Q : VK) (E : XK) (h : sp_34 K A vs H Q E) : T_34 K A { nx := fun _ H' => Q .non H', rt := Q } (L2.start ["bits", "low", "high", "depth", "begin", "thing"] vs) H := by
  obtain ⟨b, lo, hi, d, g, v, p, rfl, e, w, ht, q⟩ := h
  have b1 := e.b1
  have b60 := e.b60
  refine ⟨b, lo, hi, d, g, rfl, w.d0, w.d1, b60, w.g0, w.g1, fun H2 s2 => ?_⟩
  have eo := part_end w.ok w.d1 ht
  have rest : ∀ (hm : meetsI b lo hi d g = true) (hb : ¬ p = .bare) (r1 : isLeafD b d g (partD p) = true ∨ (isLeafD b d g (partD p) = false ∧ isForkD b d g (partD p) = true)), R_34_1 K A { nx := fun _ H' => Q .non H', rt := Q } [some (.int b), some (.int lo), some (.int hi), some (.int d), some (.int g), some v] H2 := by
    intro hm hb r1
    refine ⟨by show 1 ≤ sizeLine; decide, fun t hT => ?_⟩
    have s3 := s2.trans (Same.upd (o := .tup [.str "bare"]) hT)
    refine eq_bare (w.w.mono s3) eo upd_same ?_
    refine Sel.no (bare_no hb) ?_
    refine ⟨b, d, g, v, partD p, rfl, by omega, b60, w.d1, w.w.mono s3, eo, ?_⟩
    rcases r1 with h | ⟨h1, h2⟩
    · exact Sel.yes h (q _ s3)
    · refine Sel.no h1 ⟨b, d, g, v, partD p, rfl, w.d0, b60, w.d1, w.w.mono s3, eo, ?_⟩
      rw [h2]; exact q _ s3
  have hok := w.ok
  cases p with
  | cut m =>
    refine Sel.yes (by rw [hok.1]; rfl) ⟨v, m, rfl, w.w.mono s2, hok.2, q _ s2⟩
  | bare =>
    refine Sel.no (by rw [hok.1]; rfl) ⟨by show 1 ≤ sizeLine; decide, fun t hT => ?_⟩
    have s3 := s2.trans (Same.upd (o := .tup [.str "bare"]) hT)
    refine eq_bare (w.w.mono s3) eo upd_same (Sel.yes (by decide +kernel) ?_)
    show Q (.bl (decide (d = 0))) _
    rw [decide_eq_true hok.2]; exact q _ s3
  | leaf k z =>
    refine Sel.no (by rw [hok.1]; rfl) (rest hok.1 (by intro z; cases z) (.inl ?_))
    obtain ⟨_, k0, k1, hz, _, hs⟩ := hok
    show (isStrD "leaf" (.str "leaf") && decide (0 ≤ k ∧ k < 2 ^ b.toNat) && isValueD (.str z) && decide (startI b k d = g)) = true
    rw [decide_eq_true ⟨k0, k1⟩, decide_eq_true hs]
    show (decide (("leaf" : Str) = "leaf") && true && decide (z.length ≤ 60) && true) = true
    rw [decide_eq_true hz, decide_eq_true rfl]; rfl
  | fork e x l r =>
    refine Sel.no (by rw [hok.1]; rfl) (rest hok.1 (by intro z; cases z) (.inr ⟨rfl, ?_⟩))
    obtain ⟨_, h1, h2, x0, x1, hx, _⟩ := hok
    show (isStrD "fork" (.str "fork") && decide (d ≤ e ∧ e < b) && decide (0 ≤ x ∧ x < 2 ^ e.toNat) && decide (x / 2 ^ (e - d).toNat = g)) = true
    rw [decide_eq_true ⟨h1, h2⟩, decide_eq_true ⟨x0, x1⟩, decide_eq_true hx]
    show (decide (("fork" : Str) = "fork") && true && true && true) = true
    rw [decide_eq_true rfl]; rfl
theorem len_27 (K : PySem.W.Frag) (A : Adr) (n : Nat) : ∀ vs H Q E, sp_27 K A n vs H Q E → vs.length = 6 := by rintro vs H Q E ⟨_, _, _, _, _, _, _, rfl, _⟩; rfl
theorem no_27 (K : PySem.W.Frag) (A : Adr) : ∀ vs H Q E, ¬ sp_27 K A 0 vs H Q E := by
 rintro vs H Q E ⟨_, _, _, _, _, _, _, _, _, _, _, h, _⟩
 omega
theorem ne_fork1 : decide (("cut" : Str) = "fork") = false ∧ decide (("bare" : Str) = "fork") = false ∧ decide (("leaf" : Str) = "fork") = false := by decide +kernel
theorem rd_27 (T : Txt K mg A) (n : Nat) (vs : List V) (H : Hp) (Q : VK) (E : XK) (h : sp_27 K A (n + 1) vs H Q E) : T_27 K A n { nx := fun _ H' => Q .non H', rt := Q } (L2.start ["bits", "low", "high", "depth", "begin", "part"] vs) H := by
  obtain ⟨b, lo, hi, d, g, v, p, rfl, e, w, ht, hn, q⟩ := h
  refine ⟨b, lo, hi, d, g, v, p, rfl, e, w, ht, fun H2 s2 => Sel.no rfl ?_⟩
  have w2 := w.w.mono s2
  cases p with
  | cut m =>
    obtain ⟨a, rfl, ha⟩ := at_cut w2
    exact ixT (j := 0) ha rfl rfl (Sel.no ne_fork1.1 (q _ s2))
  | bare =>
    obtain ⟨a, rfl, ha⟩ := at_bare w2
    exact ixT (j := 0) ha rfl rfl (Sel.no ne_fork1.2.1 (q _ s2))
  | leaf k z =>
    obtain ⟨a, rfl, ha⟩ := at_leaf w2
    exact ixT (j := 0) ha rfl rfl (Sel.no ne_fork1.2.2 (q _ s2))
  | fork e2 x l r =>
    obtain ⟨a, vl, vr, rfl, ha, wl, wr⟩ := at_fork w2
    have ht' : max (tall l) (tall r) + 1 ≤ 60 := ht
    have hn' : max (tall l) (tall r) + 1 < n + 1 := hn
    obtain ⟨_, h1, h2, x0, x1, _⟩ := w.ok
    have b60 := e.b60
    have := pow60 (d := e2) (by omega)
    have W : PartW H2 (.ref a) b lo hi d g (.fork e2 x l r) := ⟨w2, w.ok, w.d0, w.d1, w.g0, w.g1⟩
    refine ixT (j := 0) ha rfl rfl (Sel.yes (decide_eq_true rfl) ?_)
    refine ixT (j := 1) ha rfl rfl (ixT (j := 2) ha rfl rfl ⟨mulL (by decide) (by decide), ixT (j := 3) ha rfl rfl ?_⟩)
    refine ⟨b, lo, hi, e2 + 1, 2 * x, vl, l, rfl, e, W.left wl, by omega, by omega, fun H3 s3 => ?_⟩
    have ha3 := s3 _ _ ha
    refine ixT (j := 1) ha3 rfl rfl (ixT (j := 2) ha3 rfl rfl ⟨mulL (by decide) (by decide), ixT (j := 4) ha3 rfl rfl ?_⟩)
    have W3 : PartW H3 (.ref a) b lo hi d g (.fork e2 x l r) := ⟨w2.mono s3, w.ok, w.d0, w.d1, w.g0, w.g1⟩
    exact ⟨b, lo, hi, e2 + 1, 2 * x + 1, vr, r, rfl, e, W3.right (wr.mono s3), by omega, by omega, fun H4 s4 => q _ ((s2.trans s3).trans s4)⟩
theorem len_26 (K : PySem.W.Frag) (A : Adr) : ∀ vs H Q E, sp_26 K A vs H Q E → vs.length = 4 := by rintro vs H Q E ⟨_, _, _, _, _, rfl, _⟩; rfl
theorem rd_26 (T : Txt K mg A) (vs : List V) (H : Hp) (Q : VK) (E : XK) (h : sp_26 K A vs H Q E) : T_26 K A { nx := fun _ H' => Q .non H', rt := Q } (L2.start ["bits", "low", "high", "paper"] vs) H := by
 obtain ⟨b, lo, hi, v, p, rfl, w, q⟩ := h
 have t := w.t
 exact ⟨b, lo, hi, rfl, w.e, b, lo, hi, 0, 0, v, p, rfl, w.e, w.w, t, by omega, fun H2 s2 => q _ s2⟩
end Rs
namespace Rs
open PySem PySem.Spec PyProof.Rows L2
theorem terms_last (h : List Key → Key) {p : Part} (hp : isCutP p = false) : ∃ pre, termsP h p = pre ++ [ownP h p] := by
 cases p with
 | cut m => cases hp
 | bare => exact ⟨[], rfl⟩
 | leaf k z => exact ⟨[], rfl⟩
 | fork d b l r => exact ⟨termsP h l ++ termsP h r, rfl⟩
theorem mark_own (h : List Key → Key) {p : Part} (hp : isCutP p = false) : markP h p = h (ownP h p) := by
 cases p with
 | cut m => cases hp
 | _ => rfl
theorem many_le (p : Part) : many p ≤ 2 * forks p + 1 := by
 induction p with
 | fork d b l r hl hr => show many l + many r + 1 ≤ 2 * (forks l + forks r + 1) + 1; omega
 | cut m => show 0 ≤ _; omega
 | _ => exact Nat.le_refl _
theorem terms_len (h : List Key → Key) (p : Part) : (termsP h p).length = many p := by
  induction p with
  | fork d b l r hl hr =>
    show (termsP h l ++ termsP h r ++ [_]).length = many l + many r + 1
    rw [List.length_append, List.length_append, hl, hr]; rfl
  | _ => rfl
theorem szP_le (p : Part) : szP p ≤ 1376 * forks p + 1062 := by
 induction p with
 | fork d b l r hl hr => show 252 + szP l + szP r ≤ 1376 * (forks l + forks r + 1) + 1062; omega
 | cut m => show 1062 ≤ _; omega
 | bare => show 128 ≤ _; omega
 | leaf k z => show 312 ≤ _; omega
theorem p10 {b : Int} (h : b ≤ 60) : (2 : Int) ^ b.toNat < 10 ^ 60 := Int.lt_of_le_of_lt (pow60 h) (by decide +kernel)
theorem okT_bare : okT [.inr "bare"] = true ∧ szT [.inr "bare"] = 66 := by decide +kernel
theorem okT_leaf {k : Int} {z : Str} (k0 : 0 ≤ k) (k1 : k < 10 ^ 60) (hz : z.length ≤ 60) (ha : ascS z = true) : okT [.inr "leaf", .inl k, .inr z] = true ∧ szT [.inr "leaf", .inl k, .inr z] ≤ 250 := by
 refine ⟨okT3 fork_ok.2.1 (intP k0 k1) ?_ rfl, ?_⟩
 · show (ascS z && decide (z.length ≤ 100000)) = true
   rw [ha, decide_eq_true (by omega)]; rfl
 · show szK (.inr "leaf") + (62 + ((z.length + 62) + 0)) ≤ 250
   rw [fork_sz.2.1]; omega
theorem okT_forkP {d x : Int} {m s : Key} (d0 : 0 ≤ d) (d1 : d < 10 ^ 60) (x0 : 0 ≤ x) (x1 : x < 10 ^ 60) (hm : okP m = true) (hs : okP s = true) : okT [.inr "fork", .inl d, .inl x, m, s] = true ∧ szT [.inr "fork", .inl d, .inl x, m, s] = 190 + szK m + szK s := by
 refine ⟨okT5 fork_ok.1 (intP d0 d1) (intP x0 x1) hm hs rfl, ?_⟩
 show szK (.inr "fork") + (62 + (62 + (szK m + (szK s + 0)))) = _
 rw [fork_sz.1]; omega
def isForkP : Part → Bool
 | .fork _ _ _ _ => true
 | _ => false
def isLeafP : Part → Bool
 | .leaf _ _ => true
 | _ => false
theorem words3 : (decide (("cut" : Str) = "cut") = true ∧ decide (("bare" : Str) = "cut") = false ∧ decide (("leaf" : Str) = "cut") = false ∧ decide (("fork" : Str) = "cut") = false) ∧
 (decide (("cut" : Str) = "fork") = false ∧ decide (("bare" : Str) = "fork") = false ∧ decide (("leaf" : Str) = "fork") = false ∧ decide (("fork" : Str) = "fork") = true) ∧
 (decide (("cut" : Str) = "leaf") = false ∧ decide (("bare" : Str) = "leaf") = false ∧ decide (("leaf" : Str) = "leaf") = true ∧ decide (("fork" : Str) = "leaf") = false) := by decide +kernel
theorem at_head {H : Hp} {v : V} {p : Part} (h : DatW H v (partD p)) : ∃ (a : Addr) (xs : List V) (w : Str), v = .ref a ∧ H a = some (.tup xs) ∧ xs[0]? = some (.str w) ∧ decide (w = "cut") = isCutP p ∧ decide (w = "fork") = isForkP p ∧ decide (w = "leaf") = isLeafP p := by
 obtain ⟨⟨c1, c2, c3, c4⟩, ⟨f1, f2, f3, f4⟩, l1, l2, l3, l4⟩ := words3
 cases p with
 | cut m => obtain ⟨a, rfl, ha⟩ := at_cut h; exact ⟨a, _, _, rfl, ha, rfl, c1, f1, l1⟩
 | bare => obtain ⟨a, rfl, ha⟩ := at_bare h; exact ⟨a, _, _, rfl, ha, rfl, c2, f2, l2⟩
 | leaf k z => obtain ⟨a, rfl, ha⟩ := at_leaf h; exact ⟨a, _, _, rfl, ha, rfl, c3, f3, l3⟩
 | fork d b l r => obtain ⟨a, x, y, rfl, ha, _⟩ := at_fork h; exact ⟨a, _, _, rfl, ha, rfl, c4, f4, l4⟩
theorem PartS.keep {H H' : Hp} {v : V} {p : Part} (h : PartS H v p) (k : ∀ b xs, H b = some (.tup xs) → H' b = some (.tup xs)) : PartS H' v p := ⟨h.w.keepT k (part_tup p), h.ok, h.f⟩
theorem PartS.left {H : Hp} {v y : V} {e x : Int} {l r : Part} (h : PartS H v (.fork e x l r)) (w : DatW H y (partD l)) : PartS H y l := by
 obtain ⟨b, lo, hi, d, g, en, d0, d1, _, h1, h2, _, _, _, hl, _⟩ := h.ok
 have : forks l + forks r + 1 ≤ 70 := h.f
 exact ⟨w, ⟨b, lo, hi, e + 1, 2 * x, en, by omega, by omega, hl⟩, by omega⟩
theorem PartS.right {H : Hp} {v y : V} {e x : Int} {l r : Part} (h : PartS H v (.fork e x l r)) (w : DatW H y (partD r)) : PartS H y r := by
 obtain ⟨b, lo, hi, d, g, en, d0, d1, _, h1, h2, _, _, _, _, hr⟩ := h.ok
 have : forks l + forks r + 1 ≤ 70 := h.f
 exact ⟨w, ⟨b, lo, hi, e + 1, 2 * x + 1, en, by omega, by omega, hr⟩, by omega⟩
theorem PartS.nums {H : Hp} {v : V} {e x : Int} {l r : Part} (h : PartS H v (.fork e x l r)) : 0 ≤ e ∧ e < 10 ^ 60 ∧ 0 ≤ x ∧ x < 10 ^ 60 := by
 obtain ⟨b, lo, hi, d, g, en, d0, d1, _, h1, h2, x0, x1, _⟩ := h.ok
 have := en.b60
 have := p10 (b := e) (by omega)
 have c : (60 : Int) < 10 ^ 60 := by decide +kernel
 exact ⟨by omega, by omega, x0, by omega⟩
variable {K : PySem.W.Frag} {mg : Str → Option Value} {A : Adr}
theorem len_40 (K : PySem.W.Frag) (A : Adr) : ∀ vs H Q E, sp_40 K A vs H Q E → vs.length = 3 := by rintro vs H Q E ⟨_, _, _, _, _, _, _, _, rfl, _⟩; rfl
theorem rd_40 (T : Txt K mg A) (vs : List V) (H : Hp) (Q : VK) (E : XK) (h : sp_40 K A vs H Q E) : T_40 K A { nx := fun _ H' => Q .non H', rt := Q } (L2.start ["stamper", "part", "terms"] vs) H := by
  obtain ⟨f, L, v, p, ps, ts, g, n, rfl, w, sp, hn, hL, pk, ht, lo, q⟩ := h
  cases hc : isCutP p with
  | true =>
    cases p with
    | cut m =>
      obtain ⟨a, rfl, ha⟩ := at_cut w.w
      obtain ⟨_, _, _, _, _, _, _, _, _, hm⟩ := w.ok
      have o1 := okP_stamp hm.1 hm.2.1
      have o2 := hm.2.2
      exact ixT (j := 0) ha rfl rfl (Sel.yes words3.1.1 (ixT (j := 1) ha rfl rfl (q m g H KeepT.rfl' (sp.same (by omega) (.refl H)) Sub.rfl' (fun _ _ => rfl) o1 o2)))
    | _ => cases hc
  | false =>
    obtain ⟨a, xs, wd, rfl, ha, hx, e1, _, _⟩ := at_head w.w
    refine ixT (j := 0) ha rfl hx (Sel.no (e1.trans hc) ?_)
    obtain ⟨pre, e⟩ := terms_last (extT g) hc
    have ets := ht _ (extT_ok g)
    rw [e] at ets
    subst ets
    obtain ⟨qs, pc, rfl, hpc, okc⟩ := pk_last pk
    have lk := lo (ownP (extT g) p) (by simp)
    have sz := szP_le p
    have hf := w.f
    refine ⟨f, rfl, sp.clo, ixLastL hL (call_ok sp (by omega) hpc okc fun x H2 g2 kt sp2 sub gv so => ?_)⟩
    obtain ⟨o1, o2⟩ := stOf_ok so (by omega)
    refine q x g2 H2 kt sp2 sub (fun h he => ?_) o1 (by omega)
    obtain ⟨pre', e'⟩ := terms_last h hc
    have e2 := (ht h (he.of sub)).trans e'
    have e3 := (List.append_inj' e2 rfl).2
    have e4 : ownP (extT g) p = ownP h p := List.cons.inj e3 |>.1
    rw [mark_own h hc, ← e4]
    exact (he _ _ gv).symm
theorem len_41 (K : PySem.W.Frag) (A : Adr) (n : Nat) : ∀ vs H Q E, sp_41 K A n vs H Q E → vs.length = 2 := by rintro vs H Q E ⟨_, _, _, _, _, rfl, _⟩; rfl
theorem no_41 (K : PySem.W.Frag) (A : Adr) : ∀ vs H Q E, ¬ sp_41 K A 0 vs H Q E := by
 rintro vs H Q E ⟨_, _, _, _, _, _, _, h, _⟩
 omega
theorem pk_app {H : Hp} {ps qs : List Addr} {ts us : List (List Key)} (h : PK H ps ts) (h2 : PK H qs us) : PK H (ps ++ qs) (ts ++ us) := by
 induction h with
 | nil => exact h2
 | cons r t ih => exact .cons r ih
theorem newL_keep {H H' : Hp} {L : Addr} (k : KeepT H H') (h : H' L = none) : NewL H L := fun M xs e z => by
 have := k M _ e fun _ z => nomatch z
 rw [z, h] at this; cases this
theorem rd_41 (T : Txt K mg A) (n : Nat) (vs : List V) (H : Hp) (Q : VK) (E : XK) (h : sp_41 K A (n + 1) vs H Q E) : T_41 K A n { nx := fun _ H' => Q .non H', rt := Q } (L2.start ["stamper", "part", "left", "right", "marks"] vs) H := by
  obtain ⟨f, v, p, g, m, rfl, w, ht, sp, hm, q⟩ := h
  obtain ⟨⟨c1, c2, c3, c4⟩, ⟨f1, f2, f3, f4⟩, _⟩ := words3
  have hf := w.f
  have one : ∀ (a : Addr) (t : List Key), forks p = 0 → H a = some (.tup (t.map kV)) → okT t = true → (∀ h, termsP h p = [t]) → szT t + 62 ≤ szP p → (tRet (tLst (tCons (mVar 1) (tNil)))) { nx := fun _ H' => Q .non H', rt := Q } [some (.ref f), some (.ref a), none, none, none] H := fun a t h0 ha ok ht hs => by
    refine ⟨by show 1 ≤ sizeLine; decide, fun L hL => ?_⟩
    have S := Same.upd (o := .lst [V.ref a]) hL
    refine q L [a] [t] g _ (KeepT.same S) (sp.same (by omega) S) Sub.rfl' (newL_keep KeepT.rfl' hL) upd_same (.cons ⟨S _ _ ha, ok⟩ .nil) (fun h _ => (ht h).symm) fun t' e => ?_
    have : t = t' := by simpa using e
    rw [← this]; exact hs
  cases p with
  | cut c =>
    obtain ⟨a, rfl, ha⟩ := at_cut w.w
    refine ixT (j := 0) ha rfl rfl (Sel.yes c1 ⟨by show 0 ≤ sizeLine; decide, fun L hL => ?_⟩)
    have S := Same.upd (o := .lst []) hL
    exact q L [] [] g _ (KeepT.same S) (sp.same (by omega) S) Sub.rfl' (newL_keep KeepT.rfl' hL) upd_same .nil (fun h _ => rfl) fun t e => by cases e
  | bare =>
    obtain ⟨a, rfl, ha⟩ := at_bare w.w
    refine ixT (j := 0) ha rfl rfl (Sel.no c2 (ixT (j := 0) ha rfl rfl (Sel.yes (by rw [f2]; rfl) ?_)))
    exact one a [.inr "bare"] rfl ha okT_bare.1 (fun _ => rfl) (by rw [okT_bare.2]; exact Nat.le_refl _)
  | leaf k z =>
    obtain ⟨a, rfl, ha⟩ := at_leaf w.w
    refine ixT (j := 0) ha rfl rfl (Sel.no c3 (ixT (j := 0) ha rfl rfl (Sel.yes (by rw [f3]; rfl) ?_)))
    obtain ⟨b, lo, hi, d, g', en, d0, d1, _, k0, k1, hz, has, _⟩ := w.ok
    have := p10 en.b60
    obtain ⟨o1, o2⟩ := okT_leaf (k := k) (z := z) k0 (by omega) hz has
    exact one a [.inr "leaf", .inl k, .inr z] rfl ha o1 (fun _ => rfl) (by show _ ≤ 312; omega)
  | fork d x l r =>
    obtain ⟨a, vl, vr, rfl, ha, wl, wr⟩ := at_fork w.w
    have ht' : max (tall l) (tall r) + 1 < n + 1 := ht
    have hm' : m + 2 * (forks l + forks r + 1) ≤ 42000 := hm
    obtain ⟨d0, d1, x0, x1⟩ := w.nums
    refine ixT (j := 0) ha rfl rfl (Sel.no c4 (ixT (j := 0) ha rfl rfl (Sel.no (by rw [f4]; rfl) ?_)))
    refine ixT (j := 3) ha rfl rfl ⟨f, vl, l, g, m, rfl, w.left wl, by omega, sp, by omega, fun L1 ps1 ts1 g1 H1 kt1 sp1 sub1 nl1 hL1 pk1 e1 lo1 => ?_⟩
    have ha1 := kt1.tup _ _ ha
    refine ixT (j := 4) ha1 rfl rfl ⟨f, vr, r, g1, m + 2 * forks l, rfl, (w.right wr).keep kt1.tup, by omega, sp1, by omega, fun L2 ps2 ts2 g2 H2 kt2 sp2 sub2 nl2 hL2 pk2 e2 lo2 => ?_⟩
    have ha2 := kt2.tup _ _ ha1
    have hL1b := kt2 _ _ hL1 fun _ z => nomatch z
    refine ixT (j := 3) ha2 rfl rfl ⟨f, L1, vl, l, ps1, ts1, g2, m + 2 * forks l + 2 * forks r, rfl, ((w.left wl).keep kt1.tup).keep kt2.tup, sp2, by omega, hL1b, pk_keep kt2.tup pk1, fun h he => e1 h (he.of sub2), lo1, fun y1 g3 H3 kt3 sp3 sub3 ey1 oy1 sy1 => ?_⟩
    have ha3 := kt3.tup _ _ ha2
    have hL2c := kt3 _ _ hL2 fun _ z => nomatch z
    refine ixT (j := 4) ha3 rfl rfl ⟨f, L2, vr, r, ps2, ts2, g3, m + 2 * forks l + 2 * forks r + 1, rfl, (((w.right wr).keep kt1.tup).keep kt2.tup).keep kt3.tup, sp3, by omega, hL2c, pk_keep kt3.tup pk2, fun h he => e2 h (he.of sub3), lo2, fun y2 g4 H4 kt4 sp4 sub4 ey2 oy2 sy2 => ?_⟩
    have ha4 := kt4.tup _ _ ha3
    have hL1d := kt4 _ _ (kt3 _ _ hL1b fun _ z => nomatch z) fun _ z => nomatch z
    have hL2d := kt4 _ _ hL2c fun _ z => nomatch z
    refine ⟨by show 2 ≤ sizeLine; decide, fun M hM => ?_⟩
    have S5 := Same.upd (o := .tup [kV y1, kV y2]) hM
    have p1 : ps1.length = many l := by rw [pk_len pk1, e1 _ (extT_ok g1), terms_len]
    have p2 : ps2.length = many r := by rw [pk_len pk2, e2 _ (extT_ok g2), terms_len]
    have q1 := many_le l
    have q2 := many_le r
    have hf' : forks l + forks r + 1 ≤ 70 := hf
    refine .inl ⟨L1, L2, _, _, rfl, rfl, S5 _ _ hL1d, S5 _ _ hL2d, line_ge (by simp; omega), fun C hC => ?_⟩
    have S6 := S5.trans (Same.upd (o := .lst (ps1.map V.ref ++ ps2.map V.ref)) hC)
    have hM6 := Same.upd (o := .lst (ps1.map V.ref ++ ps2.map V.ref)) hC M _ (upd_same (o := .tup [kV y1, kV y2]))
    refine ixT (j := 1) (S6 _ _ ha4) rfl rfl (ixT (j := 2) (S6 _ _ ha4) rfl rfl (ixT (j := 0) hM6 rfl rfl (ixT (j := 1) hM6 rfl rfl ⟨by show 5 ≤ sizeLine; decide, fun t hT => ⟨by show 1 ≤ sizeLine; decide, fun D hD => ?_⟩⟩)))
    have hC7 := (Same.upd (o := .tup [V.str "fork", .int d, .int x, kV y1, kV y2]) hT).trans (Same.upd (o := .lst [V.ref t]) hD) C _ (upd_same (o := .lst (ps1.map V.ref ++ ps2.map V.ref)))
    refine .inl ⟨C, D, _, _, rfl, rfl, hC7, upd_same, line_ge (by simp; omega), fun L hL => ?_⟩
    have S8 : Same H4 _ := ((S6.trans (Same.upd (o := .tup [V.str "fork", .int d, .int x, kV y1, kV y2]) hT)).trans (Same.upd (o := .lst [V.ref t]) hD)).trans (Same.upd (o := .lst (ps1.map V.ref ++ ps2.map V.ref ++ [V.ref t])) hL)
    have ht8 := (Same.upd (o := .lst [V.ref t]) hD).trans (Same.upd (o := .lst (ps1.map V.ref ++ ps2.map V.ref ++ [V.ref t])) hL) t _ (upd_same (o := .tup [V.str "fork", .int d, .int x, kV y1, kV y2]))
    have kt8 := (((kt1.trans kt2).trans kt3).trans kt4).trans (KeepT.same S8)
    obtain ⟨ok, sz⟩ := okT_forkP (d := d) (x := x) d0 d1 x0 x1 oy1 oy2
    have kk := ((kt3.trans kt4).trans (KeepT.same S8)).tup
    have ml : ps1.map V.ref ++ ps2.map V.ref ++ [V.ref t] = (ps1 ++ ps2 ++ [t]).map V.ref := by simp
    have nl : NewL H L := newL_keep ((((kt1.trans kt2).trans kt3).trans kt4).trans (KeepT.same ((S6.trans (Same.upd (o := .tup [V.str "fork", .int d, .int x, kV y1, kV y2]) hT)).trans (Same.upd (o := .lst [V.ref t]) hD)))) hL
    refine q L (ps1 ++ ps2 ++ [t]) (ts1 ++ ts2 ++ [[.inr "fork", .inl d, .inl x, y1, y2]]) g4 _ kt8 (sp4.same (by show _ ≤ m + 2 * (forks l + forks r + 1); omega) S8) (((sub1.trans sub2).trans sub3).trans sub4) nl (by rw [upd_same, ml]) (pk_snoc (pk_app (pk_keep kk (pk_keep kt2.tup pk1)) (pk_keep kk pk2)) ⟨ht8, ok⟩) (fun h he => ?_) fun t' e => ?_
    · have h3 := he.of sub4
      have h2 := h3.of sub3
      rw [e1 h (h2.of sub2), e2 h h2, ey1 h h3, ey2 h he]; rfl
    · have : ([Sum.inr "fork", Sum.inl d, Sum.inl x, y1, y2] : List Key) = t' := by simpa using e
      rw [← this, sz]
      show 190 + szK y1 + szK y2 + 62 ≤ 252 + szP l + szP r
      omega
end Rs
namespace Rs
open PySem PySem.Spec PyProof.Rows L2
theorem PaperW.s {H : Hp} {v : V} {b lo hi : Int} {p : Part} (w : PaperW H v b lo hi p) : PartS H v p := ⟨w.w.w, ⟨b, lo, hi, 0, 0, w.e, by decide, by have := w.e.b1; omega, w.w.ok⟩, w.f⟩
theorem PaperW.mono {H H' : Hp} {v : V} {b lo hi : Int} {p : Part} (w : PaperW H v b lo hi p) (k : ∀ b xs, H b = some (.tup xs) → H' b = some (.tup xs)) : PaperW H' v b lo hi p := ⟨w.e, ⟨w.w.w.keepT k (part_tup p), w.w.ok, w.w.d0, w.w.d1, w.w.g0, w.w.g1⟩, w.f, w.t⟩
theorem meets_top {b lo hi : Int} (e : Ends3 b lo hi) : meetsI b lo hi 0 0 = true := by
 unfold meetsI
 have h1 := e.hi1
 have h2 := e.lo0
 have h3 := e.le
 rw [Int.sub_zero, decide_eq_true (by omega), decide_eq_true (by omega)]; rfl
theorem PaperW.nc {H : Hp} {v : V} {b lo hi : Int} {p : Part} (w : PaperW H v b lo hi p) : isCutP p = false := by
 have h := w.w.ok
 have m := meets_top w.e
 cases p with
 | cut c => have := h.1; rw [m] at this; cases this
 | _ => rfl
variable {K : PySem.W.Frag} {mg : Str → Option Value} {A : Adr}
theorem len_47 (K : PySem.W.Frag) (A : Adr) : ∀ vs H Q E, sp_47 K A vs H Q E → vs.length = 5 := by rintro vs H Q E ⟨_, _, _, _, _, _, _, _, rfl, _⟩; rfl
theorem rd_47 (T : Txt K mg A) (vs : List V) (H : Hp) (Q : VK) (E : XK) (h : sp_47 K A vs H Q E) : T_47 K A { nx := fun _ H' => Q .non H', rt := Q } (L2.start ["stamper", "bits", "low", "high", "paper"] vs) H := by
 obtain ⟨f, b, lo, hi, v, p, g, n, rfl, w, sp, hn, q⟩ := h
 have hf := w.f
 have ht := w.t
 refine ⟨b, lo, hi, v, p, rfl, w, fun H2 s2 => ?_⟩
 refine ⟨f, v, p, g, n, rfl, w.s.keep (fun c xs e => s2 c _ e), by omega, sp.same (Nat.le_refl _) s2, by omega, fun L ps ts g' H' kt sp' sub nl hL pk e lo' => ?_⟩
 exact q L ps ts g' H' ((KeepT.same s2).trans kt) (sp'.same (by omega) (.refl _)) sub (fun M xs e => nl M xs (s2 _ _ e)) hL pk e
theorem len_46 (K : PySem.W.Frag) (A : Adr) : ∀ vs H Q E, sp_46 K A vs H Q E → vs.length = 5 := by rintro vs H Q E ⟨_, _, _, _, _, _, _, _, rfl, _⟩; rfl
theorem last_call {H : Hp} {f L : Addr} {p : Part} {ps : List Addr} {ts : List (List Key)} {g : SG} {n : Nat} {R : VK} (sp : Stp A H f g n) (hn : n ≤ 45000) (hc : isCutP p = false) (hL : H L = some (.lst (ps.map V.ref))) (pk : PK H ps ts) (ht : ∀ h, Ext g h → ts = termsP h p)
  (q : ∀ (x : Key) (g' : SG) (H' : Hp), KeepT H H' → Stp A H' f g' (n + 1) → Sub g g' → (∀ h, Ext g' h → x = markP h p) → R (kV x) H') : rIxA K (.ref L) (.int (-1)) H (fun y H1 => HCall (Knd1 K A) f [y] H1 R E0) := by
 obtain ⟨pre, e⟩ := terms_last (extT g) hc
 have ets := ht _ (extT_ok g)
 rw [e] at ets
 subst ets
 obtain ⟨qs, pc, rfl, hpc, okc⟩ := pk_last pk
 refine ixLastL hL (call_ok sp hn hpc okc fun x H2 g2 kt sp2 sub gv so => ?_)
 refine q x g2 H2 kt sp2 sub (fun h he => ?_)
 obtain ⟨pre', e'⟩ := terms_last h hc
 have e2 := (ht h (he.of sub)).trans e'
 have e3 := (List.append_inj' e2 rfl).2
 have e4 : ownP (extT g) p = ownP h p := List.cons.inj e3 |>.1
 rw [mark_own h hc, ← e4]
 exact (he _ _ gv).symm
theorem rd_46 (T : Txt K mg A) (vs : List V) (H : Hp) (Q : VK) (E : XK) (h : sp_46 K A vs H Q E) : T_46 K A { nx := fun _ H' => Q .non H', rt := Q } (L2.start ["stamper", "bits", "low", "high", "paper"] vs) H := by
 obtain ⟨f, b, lo, hi, v, p, g, n, rfl, w, sp, hn, q⟩ := h
 refine ⟨f, rfl, sp.clo, f, b, lo, hi, v, p, g, n, rfl, w, sp, hn, fun L ps ts g1 H1 kt sp1 sub nl hL pk e => ?_⟩
 exact last_call sp1 (by omega) w.nc hL pk e fun x g2 H2 kt2 sp2 sub2 ex => q x g2 H2 (kt.trans kt2) sp2 (sub.trans sub2) ex
def rowOf : List Key → Option (Int × Str)
 | [.inr w, .inl k, .inr z] => if w = "leaf" then some (k, z) else none
 | _ => none
theorem row_leaf (k : Int) (z : Str) : rowOf [.inr "leaf", .inl k, .inr z] = some (k, z) := by
 show (if ("leaf" : Str) = "leaf" then some (k, z) else none) = some (k, z)
 rw [if_pos rfl]
theorem rows_terms (h : List Key → Key) (p : Part) : (termsP h p).filterMap rowOf = leavesP p := by
  induction p with
  | cut m => rfl
  | bare => rfl
  | leaf k z => show [_].filterMap rowOf = _; rw [List.filterMap_cons, row_leaf]; rfl
  | fork d b l r hl hr =>
    show (termsP h l ++ termsP h r ++ [_]).filterMap rowOf = leavesP l ++ leavesP r
    rw [List.filterMap_append, List.filterMap_append, hl, hr]
    show leavesP l ++ leavesP r ++ [] = _
    rw [List.append_nil]
theorem term_shape {h : List Key → Key} {p : Part} {t : List Key} (ht : t ∈ termsP h p) : t = [.inr "bare"] ∨ (∃ k z, t = [.inr "leaf", .inl k, .inr z]) ∨ ∃ d b x y, t = [.inr "fork", .inl d, .inl b, x, y] := by
  induction p with
  | cut m => cases ht
  | bare => exact .inl (List.mem_singleton.mp ht)
  | leaf k z => exact .inr (.inl ⟨k, z, List.mem_singleton.mp ht⟩)
  | fork d b l r hl hr =>
    have ht : t ∈ termsP h l ++ termsP h r ++ [_] := ht
    rcases List.mem_append.mp ht with ht | ht
    · rcases List.mem_append.mp ht with ht | ht
      · exact hl ht
      · exact hr ht
    · exact .inr (.inr ⟨_, _, _, _, List.mem_singleton.mp ht⟩)
theorem pr_snoc {H : Hp} {ps : List Addr} {ts : List (Int × Str)} {p : Addr} {t : Int × Str} (h : PR H ps ts) (e : H p = some (.tup ((rowT t).map kV))) : PR H (ps ++ [p]) (ts ++ [t]) := by
 induction h with
 | nil => exact .cons e .nil
 | cons r t ih => exact .cons r ih
theorem pr_app {H : Hp} {ps qs : List Addr} {ts us : List (Int × Str)} (h : PR H ps ts) (h2 : PR H qs us) : PR H (ps ++ qs) (ts ++ us) := by
 induction h with
 | nil => exact h2
 | cons r t ih => exact .cons r ih
theorem pr_keep {H H' : Hp} {ps : List Addr} {ts : List (Int × Str)} (k : ∀ b xs, H b = some (.tup xs) → H' b = some (.tup xs)) (h : PR H ps ts) : PR H' ps ts := L2.Paired.imp' (fun p x e => k _ _ e) h
theorem pr_len {H : Hp} {ps : List Addr} {ts : List (Int × Str)} (h : PR H ps ts) : ps.length = ts.length := Paired.length h
theorem pr_get {H : Hp} {ps : List Addr} {ts : List (Int × Str)} (h : PR H ps ts) : ∀ {i : Nat} {t : Int × Str}, ts[i]? = some t → ∃ p, ps[i]? = some p ∧ H p = some (.tup ((rowT t).map kV)) := by
  induction h with
  | nil => intro i t e; cases e
  | cons a _ ih =>
    intro i t e
    cases i with
    | zero => cases e; exact ⟨_, rfl, a⟩
    | succ i => exact ih e
theorem getD_ref {ps : List Addr} {i : Nat} {p : Addr} (h : ps[i]? = some p) : (ps.map V.ref).getD i .non = .ref p := by
 rw [List.getD_eq_getElem?_getD, List.getElem?_map, h]; rfl
theorem take_snoc {α : Type} {l : List α} {i : Nat} {x : α} (h : l[i]? = some x) : l.take (i + 1) = l.take i ++ [x] := by rw [List.take_add_one, h]; rfl
theorem len_42 (K : PySem.W.Frag) (A : Adr) : ∀ vs H Q E, sp_42 K A vs H Q E → vs.length = 3 := by rintro vs H Q E ⟨_, _, _, _, _, _, rfl, _⟩; rfl
theorem rd_42 (T : Txt K mg A) (vs : List V) (H : Hp) (Q : VK) (E : XK) (h : sp_42 K A vs H Q E) : T_42 K A { nx := fun _ H' => Q .non H', rt := Q } (L2.start ["low", "high", "terms"] vs) H := by
 obtain ⟨L, lo, hi, ps, hh, p, rfl, hL, pk, hl, q⟩ := h
 obtain ⟨_, _, l1, l2, l3, l4⟩ := words3
 have pl := pk_len pk
 refine ⟨L, rfl, .inl ⟨⟨_, SqL.of hL⟩, fun D hD => ?_⟩⟩
 have hLD : L ≠ D := ne_of_none hL hD
 refine comp_by (Items.list (xs := ps.map V.ref) .non) (fun i ys H2 => ∃ rs : List Addr, ys = rs.map V.ref ∧ H2 D = some (.lst ys) ∧ Same H H2 ∧ rs.length ≤ i ∧ PR H2 rs ((((termsP hh p).take i).filterMap rowOf).filter (inI lo hi)))
   (fun i ys H2 _ ⟨_, _, _, s2, _⟩ => SqL.of (s2 _ _ hL)) ⟨[], rfl, upd_same, Same.upd hD, Nat.le_refl _, .nil⟩ ?_ ?_
 · rintro i ys H2 hi' ⟨rs, rfl, hd, s2, hrl, pr⟩
   rw [List.length_map] at hi'
   obtain ⟨t, ht⟩ : ∃ t, (termsP hh p)[i]? = some t := ⟨_, List.getElem?_eq_getElem (by omega)⟩
   obtain ⟨a, ha, hat, _⟩ := pk_get pk ht
   have e0 := getD_ref ha
   have hi2 : i < (ps.map V.ref).length := by rw [List.length_map]; exact hi'
   have ha2 := s2 _ _ hat
   show (tOp (rIxA K) (mVar 0) (tC (.int 0))) [some ((ps.map V.ref).getD i .non), some (.int lo), some (.int hi)] H2 _
   have skip : rowOf t = none → CWd (ps.map V.ref).length (fun i ys H2 => ∃ rs : List Addr, ys = rs.map V.ref ∧ H2 D = some (.lst ys) ∧ Same H H2 ∧ rs.length ≤ i ∧ PR H2 rs ((((termsP hh p).take i).filterMap rowOf).filter (inI lo hi))) (i + 1) ((ps.map V.ref).length - (i + 1)) (rs.map V.ref) H2 := fun hr => by
     refine ⟨hi2, rfl, rs, rfl, hd, s2, by omega, ?_⟩
     rw [take_snoc ht, List.filterMap_append]
     have : [t].filterMap rowOf = [] := by rw [List.filterMap_cons, hr]; rfl
     rw [this, List.append_nil]; exact pr
   have go : ∀ B, (rIxA K (.ref a) (.int 0) H2 B) → (tOp (rIxA K) (mVar 0) (tC (.int 0))) [some ((ps.map V.ref).getD i .non), some (.int lo), some (.int hi)] H2 B := fun B hB => by
     show rIxA K ((ps.map V.ref).getD i .non) (.int 0) H2 B
     rw [e0]; exact hB
   refine go _ ?_
   rcases term_shape (List.mem_of_getElem? ht) with rfl | ⟨k, z, rfl⟩ | ⟨d, b, x, y, rfl⟩
   · exact ixT (j := 0) ha2 rfl rfl (Sel.no l2 (iteF ⟨_, by omega, skip rfl⟩))
   · refine ixT (j := 0) ha2 rfl rfl (Sel.yes l3 ?_)
     show rIxA K ((ps.map V.ref).getD i .non) (.int 1) H2 _
     rw [e0]
     refine ixT (j := 1) ha2 rfl rfl ?_
     have step : ∀ b : Bool, inI lo hi (k, z) = b → ((((termsP hh p).take (i + 1)).filterMap rowOf).filter (inI lo hi)) = ((((termsP hh p).take i).filterMap rowOf).filter (inI lo hi)) ++ (if b = true then [(k, z)] else []) := fun b hb => by
       rw [take_snoc ht, List.filterMap_append]
       have : [([Sum.inr "leaf", Sum.inl k, Sum.inr z] : List Key)].filterMap rowOf = [(k, z)] := by rw [List.filterMap_cons, row_leaf]; rfl
       rw [this, List.filter_append]
       cases b with
       | true => rw [List.filter_cons_of_pos hb]; rfl
       | false => rw [List.filter_cons_of_neg (by rw [hb]; decide)]; rfl
     have out : inI lo hi (k, z) = false → ∃ m', m' < (ps.map V.ref).length - i ∧ CWd (ps.map V.ref).length (fun i ys H2 => ∃ rs : List Addr, ys = rs.map V.ref ∧ H2 D = some (.lst ys) ∧ Same H H2 ∧ rs.length ≤ i ∧ PR H2 rs ((((termsP hh p).take i).filterMap rowOf).filter (inI lo hi))) (i + 1) m' (rs.map V.ref) H2 := fun hb => by
       refine CWd.next hi2 ⟨rs, rfl, hd, s2, by omega, ?_⟩
       rw [step false hb]
       show PR H2 rs (_ ++ [])
       rw [List.append_nil]; exact pr
     refine Sel.dec (fun h1 => ?_) (fun h1 => iteF (out (by unfold inI; rw [decide_eq_false h1]; rfl)))
     show (if decide (k ≤ hi) = true then _ else _)
     by_cases h2 : k ≤ hi
     · rw [if_pos (decide_eq_true h2)]
       refine ixT (j := 1) ha2 rfl rfl ?_
       refine ixT (j := 2) ha2 rfl rfl ⟨by show 2 ≤ sizeLine; decide, fun t hT => ?_⟩
       have s3 := Same.upd (o := .tup [V.int k, V.str z]) hT
       have ne : D ≠ t := ne_of_none hd hT
       have ne2 : t ≠ D := fun z => ne z.symm
       refine ⟨s3 _ _ hd, by rw [List.length_map]; exact Nat.lt_of_le_of_lt (m := 1000) (by omega) (by decide), CWd.next hi2 ⟨rs ++ [t], by rw [List.map_append]; rfl, upd_same, (s2.trans s3).put hD, by rw [List.length_append]; show _ + 1 ≤ _; omega, ?_⟩⟩
       rw [step true (by unfold inI; rw [decide_eq_true h1, decide_eq_true h2]; rfl)]
       refine pr_snoc (pr_keep (fun c xs e => ?_) pr) ?_
       · have hc : c ≠ D := fun z => by rw [z, hd] at e; cases e
         rw [upd_ne hc]; exact s3 _ _ e
       · rw [upd_ne ne2]; exact upd_same
     · rw [if_neg (by rw [decide_eq_false h2]; decide)]
       exact out (by unfold inI; rw [decide_eq_false h2, Bool.and_false])
   · exact ixT (j := 0) ha2 rfl rfl (Sel.no l4 (iteF ⟨_, by omega, skip rfl⟩))
 · rintro ys H2 ⟨rs, rfl, hd, s2, hrl, pr⟩
   rw [List.length_map, pl, List.take_length, rows_terms] at pr
   exact q D rs H2 s2 hD hd pr
theorem len_45 (K : PySem.W.Frag) (A : Adr) : ∀ vs H Q E, sp_45 K A vs H Q E → vs.length = 6 := by rintro vs H Q E ⟨_, _, _, _, _, _, _, _, _, rfl, _⟩; rfl
theorem rd_45 (T : Txt K mg A) (vs : List V) (H : Hp) (Q : VK) (E : XK) (h : sp_45 K A vs H Q E) : T_45 K A { nx := fun _ H' => Q .non H', rt := Q } (L2.start ["stamper", "bits", "mark", "low", "high", "paper", "terms", "came"] vs) H := by
 obtain ⟨f, b, lo, hi, v, p, g, n, x, rfl, w, sp, hn, hx, q⟩ := h
 refine ⟨f, b, lo, hi, v, p, g, n, rfl, w, sp, hn, fun L ps ts g1 H1 kt sp1 sub nl hL pk e => ?_⟩
 refine ⟨f, rfl, sp1.clo, last_call sp1 (by omega) w.nc hL pk e fun y g2 H2 kt2 sp2 sub2 ey => ?_⟩
 have e1 := hx _ ((extT_ok g2).of (sub.trans sub2))
 have e2 := ey _ (extT_ok g2)
 rw [← e2] at e1
 subst e1
 refine neB_keys (Sel.no rfl ?_)
 have ets := e _ (extT_ok g1)
 subst ets
 have hm := many_le p
 have hf := w.f
 refine ⟨L, lo, hi, ps, extT g1, p, rfl, kt2 _ _ hL (fun _ z => nomatch z), pk_keep kt2.tup pk, by rw [terms_len]; omega, fun M rs H3 s3 hM hM3 pr => ?_⟩
 exact q M rs g2 H3 ((kt.trans kt2).trans (KeepT.same s3)) (sp2.same (Nat.le_refl _) s3) (sub.trans sub2) (newL_keep (kt.trans kt2) hM) hM3 pr
end Rs
namespace Rs
open PySem PySem.Spec PyProof.Rows L2
theorem leaves_len (p : Part) : (leavesP p).length ≤ forks p + 1 := by
 induction p with
 | fork d b l r hl hr => show (leavesP l ++ leavesP r).length ≤ forks l + forks r + 1 + 1; rw [List.length_append]; omega
 | leaf k z => exact Nat.le_refl 1
 | cut m => exact Nat.zero_le _
 | bare => exact Nat.zero_le _
variable {K : PySem.W.Frag} {mg : Str → Option Value} {A : Adr}
theorem len_5 (K : PySem.W.Frag) (A : Adr) (n : Nat) : ∀ vs H Q E, sp_5 K A n vs H Q E → vs.length = 1 := by rintro vs H Q E ⟨_, _, rfl, _⟩; rfl
theorem no_5 (K : PySem.W.Frag) (A : Adr) : ∀ vs H Q E, ¬ sp_5 K A 0 vs H Q E := by
 rintro vs H Q E ⟨_, _, _, _, h, _⟩
 omega
theorem none_back {H H' : Hp} {L : Addr} (s : Same H H') (h : H' L = none) : H L = none := by
 cases e : H L with
 | none => rfl
 | some o => rw [s _ _ e] at h; cases h
theorem rd_5 (T : Txt K mg A) (n : Nat) (vs : List V) (H : Hp) (Q : VK) (E : XK) (h : sp_5 K A (n + 1) vs H Q E) : T_5 K A n { nx := fun _ H' => Q .non H', rt := Q } (L2.start ["_law_part_here"] vs) H := by
  obtain ⟨v, p, rfl, w, ht, hf, q⟩ := h
  obtain ⟨_, ⟨f1, f2, f3, f4⟩, l1, l2, l3, l4⟩ := words3
  have non : leavesP p = [] → (tRet (tLst tNil)) { nx := fun _ H' => Q .non H', rt := Q } [some v] H := fun e => by
    refine ⟨by show 0 ≤ sizeLine; decide, fun M hM => q M [] _ (Same.upd hM) hM upd_same ?_⟩
    rw [e]; exact .nil
  cases p with
  | cut m =>
    obtain ⟨a, rfl, ha⟩ := at_cut w
    exact ixT (j := 0) ha rfl rfl (Sel.no l1 (ixT (j := 0) ha rfl rfl (Sel.no f1 (non rfl))))
  | bare =>
    obtain ⟨a, rfl, ha⟩ := at_bare w
    exact ixT (j := 0) ha rfl rfl (Sel.no l2 (ixT (j := 0) ha rfl rfl (Sel.no f2 (non rfl))))
  | leaf k z =>
    obtain ⟨a, rfl, ha⟩ := at_leaf w
    refine ixT (j := 0) ha rfl rfl (Sel.yes l3 (ixT (j := 1) ha rfl rfl (ixT (j := 2) ha rfl rfl ⟨by show 2 ≤ sizeLine; decide, fun t hT => ⟨by show 1 ≤ sizeLine; decide, fun M hM => ?_⟩⟩)))
    have s1 := Same.upd (o := .tup [V.int k, V.str z]) hT
    have s2 := Same.upd (o := .lst [V.ref t]) hM
    exact q M [t] _ (s1.trans s2) (none_back s1 hM) upd_same (.cons (s2 _ _ upd_same) .nil)
  | fork d b l r =>
    obtain ⟨a, vl, vr, rfl, ha, wl, wr⟩ := at_fork w
    have ht' : max (tall l) (tall r) + 1 < n + 1 := ht
    have hf' : forks l + forks r + 1 ≤ 70 := hf
    refine ixT (j := 0) ha rfl rfl (Sel.no l4 (ixT (j := 0) ha rfl rfl (Sel.yes f4 ?_)))
    refine ixT (j := 3) ha rfl rfl ⟨vl, l, rfl, wl, by omega, by omega, fun L1 r1 H1 s1 n1 h1 p1 => ?_⟩
    refine ixT (j := 4) (s1 _ _ ha) rfl rfl ⟨vr, r, rfl, wr.mono s1, by omega, by omega, fun L2 r2 H2 s2 n2 h2 p2 => ?_⟩
    have e1 := pr_len p1
    have e2 := pr_len p2
    have m1 := leaves_len l
    have m2 := leaves_len r
    refine .inl ⟨L1, L2, _, _, rfl, rfl, s2 _ _ h1, h2, line_ge (by simp; omega), fun M hM => ?_⟩
    have s3 := Same.upd (o := .lst (r1.map V.ref ++ r2.map V.ref)) hM
    have ml : r1.map V.ref ++ r2.map V.ref = (r1 ++ r2).map V.ref := by simp
    exact q M (r1 ++ r2) _ ((s1.trans s2).trans s3) (none_back (s1.trans s2) hM) (by rw [upd_same, ml]) (pr_app (pr_keep (fun c xs e => s3 _ _ (s2 _ _ e)) p1) (pr_keep (fun c xs e => s3 _ _ e) p2))
theorem len_3 (K : PySem.W.Frag) (A : Adr) : ∀ vs H Q E, sp_3 K A vs H Q E → vs.length = 3 := by rintro vs H Q E ⟨_, _, _, _, rfl, _⟩; rfl
theorem rd_3 (T : Txt K mg A) (vs : List V) (H : Hp) (Q : VK) (E : XK) (h : sp_3 K A vs H Q E) : T_3 K A { nx := fun _ H' => Q .non H', rt := Q } (L2.start ["_law_part_here", "_law_low", "_law_high"] vs) H := by
 obtain ⟨v, p, lo, hi, rfl, w, ht, hf, q⟩ := h
 refine ⟨v, p, rfl, w, by omega, hf, fun L ps H1 s1 n1 hL pr => ?_⟩
 have pl := pr_len pr
 have ml := leaves_len p
 refine ⟨L, rfl, .inl ⟨⟨_, SqL.of hL⟩, fun D hD => ?_⟩⟩
 refine comp_by (Items.list (xs := ps.map V.ref) .non) (fun i ys H2 => ∃ rs : List Addr, ys = rs.map V.ref ∧ H2 D = some (.lst ys) ∧ Same H1 H2 ∧ rs.length ≤ i ∧ PR H2 rs (((leavesP p).take i).filter (inI lo hi)))
   (fun i ys H2 _ ⟨_, _, _, s2, _⟩ => SqL.of (s2 _ _ hL)) ⟨[], rfl, upd_same, Same.upd hD, Nat.le_refl _, .nil⟩ ?_ ?_
 · rintro i ys H2 hi' ⟨rs, rfl, hd, s2, hrl, pr2⟩
   rw [List.length_map] at hi'
   obtain ⟨t, ht⟩ : ∃ t, (leavesP p)[i]? = some t := ⟨_, List.getElem?_eq_getElem (by omega)⟩
   obtain ⟨a, ha, hat⟩ := pr_get pr ht
   have e0 := getD_ref ha
   have hi2 : i < (ps.map V.ref).length := by rw [List.length_map]; exact hi'
   have ha2 := s2 _ _ hat
   have step : ∀ b : Bool, inI lo hi t = b → (((leavesP p).take (i + 1)).filter (inI lo hi)) = (((leavesP p).take i).filter (inI lo hi)) ++ (if b = true then [t] else []) := fun b hb => by
     rw [take_snoc ht, List.filter_append]
     cases b with
     | true => rw [List.filter_cons_of_pos hb]; rfl
     | false => rw [List.filter_cons_of_neg (by rw [hb]; decide)]; rfl
   have out : inI lo hi t = false → ∃ m', m' < (ps.map V.ref).length - i ∧ CWd (ps.map V.ref).length (fun i ys H2 => ∃ rs : List Addr, ys = rs.map V.ref ∧ H2 D = some (.lst ys) ∧ Same H1 H2 ∧ rs.length ≤ i ∧ PR H2 rs (((leavesP p).take i).filter (inI lo hi))) (i + 1) m' (rs.map V.ref) H2 := fun hb => by
     refine CWd.next hi2 ⟨rs, rfl, hd, s2, by omega, ?_⟩
     rw [step false hb]
     show PR H2 rs (_ ++ [])
     rw [List.append_nil]; exact pr2
   show rIxA K ((ps.map V.ref).getD i .non) (.int 0) H2 _
   rw [e0]
   refine ixT (j := 0) ha2 rfl rfl ?_
   refine Sel.dec (fun h1 => ?_) (fun h1 => iteF (out (by unfold inI; rw [decide_eq_false h1]; rfl)))
   show (if decide (t.1 ≤ hi) = true then _ else _)
   by_cases h2 : t.1 ≤ hi
   · rw [if_pos (decide_eq_true h2)]
     refine ⟨hd, by rw [List.length_map]; exact Nat.lt_of_le_of_lt (m := 1000) (by omega) (by decide), CWd.next hi2 ⟨rs ++ [a], by rw [List.map_append]; rfl, upd_same, s2.put hD, by rw [List.length_append]; show _ + 1 ≤ _; omega, ?_⟩⟩
     rw [step true (by unfold inI; rw [decide_eq_true h1, decide_eq_true h2]; rfl)]
     have kp : ∀ (c : Addr) (xs : List V), H2 c = some (.tup xs) → (upd H2 D (.lst (rs.map V.ref ++ [V.ref a]))) c = some (.tup xs) := fun c xs e => by
      have hc : c ≠ D := fun z => by rw [z, hd] at e; cases e
      rw [upd_ne hc]; exact e
     exact pr_snoc (pr_keep kp pr2) (kp _ _ ha2)
   · rw [if_neg (by rw [decide_eq_false h2]; decide)]
     exact out (by unfold inI; rw [decide_eq_false h2, Bool.and_false])
 · rintro ys H2 ⟨rs, rfl, hd, s2, hrl, pr2⟩
   rw [List.length_map, pl, List.take_length] at pr2
   exact q D rs H2 (s1.trans s2) (none_back s1 hD) hd pr2
theorem arg_var {i : Nat} {σ : L2.St} {H : Hp} {Q : List V → Hp → Prop} {v : V} (h : σ[i]? = some (some v)) (q : Q [v] H) : tCons (mVar i) tNil σ H Q := by
 show (match σ[i]? with | some (some v) => tNil σ H fun xs H2 => Q (v :: xs) H2 | _ => False)
 rw [h]; exact q
theorem len_10 (K : PySem.W.Frag) (A : Adr) (n : Nat) : ∀ vs H Q E, sp_10 K A n vs H Q E → vs.length = 2 := by rintro vs H Q E ⟨_, _, _, _, _, rfl, _⟩; rfl
theorem no_10 (K : PySem.W.Frag) (A : Adr) : ∀ vs H Q E, ¬ sp_10 K A 0 vs H Q E := by
 rintro vs H Q E ⟨_, _, _, _, _, _, _, h, _⟩
 omega
theorem rd_10 (T : Txt K mg A) (n : Nat) (vs : List V) (H : Hp) (Q : VK) (E : XK) (h : sp_10 K A (n + 1) vs H Q E) : T_10 K A n { nx := fun _ H' => Q .non H', rt := Q } (L2.start ["_law_stamper", "_law_part_here", "_law_left", "_law_right", "_law_own"] vs) H := by
  obtain ⟨f, v, p, g, m, rfl, w, ht, sp, hm, q⟩ := h
  obtain ⟨⟨c1, c2, c3, c4⟩, ⟨f1, f2, f3, f4⟩, _⟩ := words3
  have hf := w.f
  have one : ∀ (a : Addr) (t : List Key), many p = 1 → H a = some (.tup (t.map kV)) → okT t = true → (∀ h, termsP h p = [t] ∧ markP h p = h t) → szT t + 62 ≤ szP p → szT t ≤ 1000 → (tRet (tTup (tCons (tHeld (Knd1 K A) (fun _ => E0) (mVar 0) (tCons (mVar 1) (tNil))) (tCons (tLst (tCons (mVar 1) (tNil))) (tNil))))) { nx := fun _ H' => Q .non H', rt := Q } [some (.ref f), some (.ref a), none, none, none] H := fun a t h0 ha ok ht hs hs2 => by
    refine ⟨f, rfl, sp.clo, ?_⟩
    refine arg_var (v := .ref a) rfl ?_
    refine call_ok sp (by omega) ha ok fun x H2 g2 kt sp2 sub gv so => ?_
    refine ⟨by show 1 ≤ sizeLine; decide, fun L hL => ⟨by show 2 ≤ sizeLine; decide, fun t2 hT => ?_⟩⟩
    have S := Same.upd (o := .lst [V.ref a]) hL
    have S2 := Same.upd (o := .tup [kV x, V.ref L]) hT
    obtain ⟨o1, o2⟩ := stOf_ok so (by omega)
    refine q t2 L x [a] [t] g2 _ (kt.trans (KeepT.same (S.trans S2))) (sp2.same (by omega) (S.trans S2)) sub (newL_keep kt hL) upd_same (S2 _ _ upd_same) (.cons ⟨S2 _ _ (S _ _ (kt.tup _ _ ha)), ok⟩ .nil) (fun h he => ⟨(ht h).1.symm, ?_⟩) o1 (by omega)
    rw [(ht h).2]; exact (he _ _ gv).symm
  cases p with
  | cut c =>
    obtain ⟨a, rfl, ha⟩ := at_cut w.w
    obtain ⟨_, _, _, _, _, _, _, _, _, hst⟩ := w.ok
    have o1 := okP_stamp hst.1 hst.2.1
    have o2 := hst.2.2
    refine ixT (j := 0) ha rfl rfl (Sel.yes c1 (ixT (j := 1) ha rfl rfl ⟨by show 0 ≤ sizeLine; decide, fun L hL => ⟨by show 2 ≤ sizeLine; decide, fun t hT => ?_⟩⟩))
    have S := Same.upd (o := .lst []) hL
    have S2 := Same.upd (o := .tup [kV c, V.ref L]) hT
    exact q t L c [] [] g _ (KeepT.same (S.trans S2)) (sp.same (by omega) (S.trans S2)) Sub.rfl' (newL_keep KeepT.rfl' hL) upd_same (S2 _ _ upd_same) .nil (fun h _ => ⟨rfl, rfl⟩) o1 o2
  | bare =>
    obtain ⟨a, rfl, ha⟩ := at_bare w.w
    refine ixT (j := 0) ha rfl rfl (Sel.no c2 (ixT (j := 0) ha rfl rfl (Sel.yes (by rw [f2]; rfl) ?_)))
    exact one a [.inr "bare"] rfl ha okT_bare.1 (fun _ => ⟨rfl, rfl⟩) (by rw [okT_bare.2]; exact Nat.le_refl _) (by rw [okT_bare.2]; decide)
  | leaf k z =>
    obtain ⟨a, rfl, ha⟩ := at_leaf w.w
    refine ixT (j := 0) ha rfl rfl (Sel.no c3 (ixT (j := 0) ha rfl rfl (Sel.yes (by rw [f3]; rfl) ?_)))
    obtain ⟨b, lo, hi, d, g', en, d0, d1, _, k0, k1, hz, has, _⟩ := w.ok
    have := p10 en.b60
    obtain ⟨o1, o2⟩ := okT_leaf (k := k) (z := z) k0 (by omega) hz has
    exact one a [.inr "leaf", .inl k, .inr z] rfl ha o1 (fun _ => ⟨rfl, rfl⟩) (by show _ ≤ 312; omega) (by omega)
  | fork d x l r =>
    obtain ⟨a, vl, vr, rfl, ha, wl, wr⟩ := at_fork w.w
    have ht' : max (tall l) (tall r) + 1 < n + 1 := ht
    have hm' : m + (many l + many r + 1) ≤ 42000 := hm
    obtain ⟨d0, d1, x0, x1⟩ := w.nums
    refine ixT (j := 0) ha rfl rfl (Sel.no c4 (ixT (j := 0) ha rfl rfl (Sel.no (by rw [f4]; rfl) ?_)))
    refine ixT (j := 3) ha rfl rfl ⟨f, vl, l, g, m, rfl, w.left wl, by omega, sp, by omega, fun t1 L1 y1 ps1 ts1 g1 H1 kt1 sp1 sub1 nl1 ht1 hL1 pk1 e1 oy1 sy1 => ?_⟩
    have ha1 := kt1.tup _ _ ha
    refine ixT (j := 4) ha1 rfl rfl ⟨f, vr, r, g1, m + many l, rfl, (w.right wr).keep kt1.tup, by omega, sp1, by omega, fun t2 L2 y2 ps2 ts2 g2 H2 kt2 sp2 sub2 nl2 ht2 hL2 pk2 e2 oy2 sy2 => ?_⟩
    have ha2 := kt2.tup _ _ ha1
    have ht1b := kt2.tup _ _ ht1
    have hL1b := kt2 _ _ hL1 (fun _ z => nomatch z)
    refine ixT (j := 1) ha2 rfl rfl (ixT (j := 2) ha2 rfl rfl (ixT (j := 0) ht1b rfl rfl (ixT (j := 0) ht2 rfl rfl ⟨by show 5 ≤ sizeLine; decide, fun t hT => ?_⟩)))
    have S3 := Same.upd (o := .tup [V.str "fork", .int d, .int x, kV y1, kV y2]) hT
    obtain ⟨ok, sz⟩ := okT_forkP (d := d) (x := x) d0 d1 x0 x1 oy1 oy2
    have szp := szP_le (.fork d x l r)
    have szp : 252 + szP l + szP r ≤ 1376 * (forks l + forks r + 1) + 1062 := szp
    have hf' : forks l + forks r + 1 ≤ 70 := hf
    refine ⟨f, rfl, (sp2.same (Nat.le_refl _) S3).clo, ?_⟩
    refine arg_var (v := .ref t) rfl ?_
    refine call_ok (sp2.same (Nat.le_refl _) S3) (by omega) (k := [.inr "fork", .inl d, .inl x, y1, y2]) upd_same ok fun y H4 g4 kt4 sp4 sub4 gv so => ?_
    obtain ⟨o1, o2⟩ := stOf_ok so (by omega)
    have kt34 := (KeepT.same S3).trans kt4
    have ht1d := kt34.tup _ _ ht1b
    have ht2d := kt34.tup _ _ ht2
    have hL1d := kt34 _ _ hL1b (fun _ z => nomatch z)
    have hL2d := kt34 _ _ hL2 (fun _ z => nomatch z)
    have htd := kt4.tup _ _ (upd_same (H := H2) (a := t) (o := .tup [V.str "fork", .int d, .int x, kV y1, kV y2]))
    have p1 : ps1.length = many l := by rw [pk_len pk1, (e1 _ (extT_ok g1)).1, terms_len]
    have p2 : ps2.length = many r := by rw [pk_len pk2, (e2 _ (extT_ok g2)).1, terms_len]
    have q1 := many_le l
    have q2 := many_le r
    refine ixT (j := 1) ht1d rfl rfl (ixT (j := 1) ht2d rfl rfl (.inl ⟨L1, L2, _, _, rfl, rfl, hL1d, hL2d, line_ge (by simp; omega), fun C hC => ⟨by show 1 ≤ sizeLine; decide, fun D hD => ?_⟩⟩))
    have S5 := Same.upd (o := .lst (ps1.map V.ref ++ ps2.map V.ref)) hC
    have S6 := Same.upd (o := .lst [V.ref t]) hD
    refine .inl ⟨C, D, _, _, rfl, rfl, S6 _ _ upd_same, upd_same, line_ge (by simp; omega), fun L hL => ⟨by show 2 ≤ sizeLine; decide, fun t5 h5 => ?_⟩⟩
    have S7 := Same.upd (o := .lst (ps1.map V.ref ++ ps2.map V.ref ++ [V.ref t])) hL
    have S8 := Same.upd (o := .tup [kV y, V.ref L]) h5
    have SS := ((S5.trans S6).trans S7).trans S8
    have ml : ps1.map V.ref ++ ps2.map V.ref ++ [V.ref t] = (ps1 ++ ps2 ++ [t]).map V.ref := by simp
    have kk := (kt34.trans (KeepT.same SS)).tup
    have hLx := S8 _ _ (upd_same (o := .lst (ps1.map V.ref ++ ps2.map V.ref ++ [V.ref t])))
    rw [ml] at hLx
    refine q t5 L y (ps1 ++ ps2 ++ [t]) (ts1 ++ ts2 ++ [[.inr "fork", .inl d, .inl x, y1, y2]]) g4 _ (((kt1.trans kt2).trans kt34).trans (KeepT.same SS)) (sp4.same (by show _ ≤ m + (many l + many r + 1); omega) SS) ((sub1.trans sub2).trans sub4) (newL_keep (((kt1.trans kt2).trans kt34).trans (KeepT.same (S5.trans S6))) hL) (by rw [upd_same]) (by rw [← ml] at hLx ⊢; exact hLx) (pk_snoc (pk_app (pk_keep kk (pk_keep kt2.tup pk1)) (pk_keep kk pk2)) ⟨SS _ _ htd, ok⟩) (fun h he => ?_) o1 (by show _ ≤ 252 + szP l + szP r; omega)
    have h2 := he.of sub4
    have h1 := h2.of sub2
    have ge := he _ _ gv
    refine ⟨?_, ?_⟩
    · rw [(e1 h h1).1, (e2 h h2).1, (e1 h h1).2, (e2 h h2).2]; rfl
    · rw [← ge, (e1 h h1).2, (e2 h h2).2]; rfl
end Rs
namespace Rs
open PySem PySem.Spec PyProof.Rows L2
variable {K : PySem.W.Frag} {mg : Str → Option Value} {A : Adr}
theorem len_9 (K : PySem.W.Frag) (A : Adr) : ∀ vs H Q E, sp_9 K A vs H Q E → vs.length = 3 := by rintro vs H Q E ⟨_, _, _, rfl, _⟩; rfl
theorem rd_9 (T : Txt K mg A) (vs : List V) (H : Hp) (Q : VK) (E : XK) (h : sp_9 K A vs H Q E) : T_9 K A { nx := fun _ H' => Q .non H', rt := Q } (L2.start ["_law_cell", "_law_depth", "_law_begin_here"] vs) H := by
 obtain ⟨c, d, g, rfl, q⟩ := h
 exact ⟨mulR (by decide) (by decide), mulR (by decide) (by decide), mulR (by decide) (by decide), by decide, mulR (by decide) (by decide), by decide, q _ (by omega) (by omega)⟩
theorem len_8 (K : PySem.W.Frag) (A : Adr) : ∀ vs H Q E, sp_8 K A vs H Q E → vs.length = 5 := by rintro vs H Q E ⟨_, _, _, _, _, rfl, _⟩; rfl
theorem rd_8 (T : Txt K mg A) (vs : List V) (H : Hp) (Q : VK) (E : XK) (h : sp_8 K A vs H Q E) : T_8 K A { nx := fun _ H' => Q .non H', rt := Q } (L2.start ["_law_bits_here", "_law_low", "_law_high", "_law_depth", "_law_begin_here", "_law_wide"] vs) H := by
 obtain ⟨b, lo, hi, d, g, rfl, e, d0, d1, g0, g1, q⟩ := h
 have b60 := e.b60
 have := pow60 (d := d) (by omega)
 refine ⟨⟨by omega, by omega, by decide⟩, mulL g0 (by omega), ?_⟩
 show Sel (decide (g * (1 * 2 ^ (b - d).toNat) ≤ hi)) _ _
 rw [Int.one_mul]
 unfold meetsI at q
 refine Sel.mk (fun h1 => ⟨mulL (by omega) (by omega), ?_⟩) (fun h1 => ?_)
 · rw [h1, Bool.true_and] at q
   show Q (.bl (decide (lo < (g + 1) * 2 ^ (b - d).toNat))) H
   have e : decide (lo ≤ (g + 1) * 2 ^ (b - d).toNat - 1) = decide (lo < (g + 1) * 2 ^ (b - d).toNat) := decide_eq_decide.mpr (by omega)
   rw [← e]; exact q
 · rw [h1, Bool.false_and] at q
   exact q
theorem beg_ok {x g m f b : Int} (g0 : 0 ≤ g) (m0 : 0 ≤ m) (hf : f ≤ b) (g1 : g < 2 ^ (b - f).toNat) (h : x / 2 ^ m.toNat = g) : 0 ≤ x ∧ x < 2 ^ (b - f + m).toNat := by
 have W := pow2_pos m.toNat
 have e : (b - f + m).toNat = (b - f).toNat + m.toNat := by omega
 rw [e, Int.pow_add]
 refine ⟨?_, ?_⟩
 · refine Int.not_lt.mp fun hx => ?_
   have : x / 2 ^ m.toNat < 0 := Int.ediv_neg_of_neg_of_pos hx W
   omega
 · have h1 : x < (x / 2 ^ m.toNat + 1) * 2 ^ m.toNat := Int.lt_ediv_add_one_mul_self x W
   rw [h] at h1
   have h2 : (g + 1) * 2 ^ m.toNat ≤ 2 ^ (b - f).toNat * 2 ^ m.toNat := Int.mul_le_mul_of_nonneg_right (by omega) (Int.le_of_lt W)
   omega
theorem mul_add_div' {g r W : Int} (hW : 0 < W) (r0 : 0 ≤ r) (r1 : r < W) : (g * W + r) / W = g := by
 rw [Int.add_comm, Int.add_mul_ediv_right _ _ (by omega), Int.ediv_eq_zero_of_lt r0 r1, Int.zero_add]
theorem len_1 (K : PySem.W.Frag) (A : Adr) : ∀ vs H Q E, sp_1 K A vs H Q E → vs.length = 6 := by rintro vs H Q E ⟨_, _, _, _, _, _, _, rfl, _⟩; rfl
theorem rd_1 (T : Txt K mg A) (vs : List V) (H : Hp) (Q : VK) (E : XK) (h : sp_1 K A vs H Q E) : T_1 K A { nx := fun _ H' => Q .non H', rt := Q } (L2.start ["_law_number_here", "_law_begin_here", "_law_more", "_law_low", "_law_high", "_law_free", "_law_own"] vs) H := by
 obtain ⟨b, n, g, m, lo, hi, f, rfl, e, n0, n1, g0, m0, mf, fb, g1, q⟩ := h
 have b60 := e.b60
 have hle := e.le
 have gg : g < 2 ^ 60 := Int.lt_of_lt_of_le g1 (pow60 (by omega))
 have W := pow2_pos m.toNat
 have fin : ∀ x : Int, x / 2 ^ m.toNat = g → Q (.int x) H := fun x hx => let ⟨a, c⟩ := beg_ok g0 m0 fb g1 hx; q x a c hx
 refine ⟨by decide, Sel.dec (fun _ => ?_) (fun _ => ?_)⟩
 · refine ⟨⟨m0, by omega, by omega⟩, mulR (by decide) (by decide), ⟨m0, by omega, by decide⟩, by show (0 : Int) < 1 * 2 ^ m.toNat; rw [Int.one_mul]; exact W, fin _ ?_⟩
   rw [Int.one_mul]
   exact mul_add_div' W (Int.emod_nonneg _ (by omega)) (Int.emod_lt_of_pos _ W)
 · refine ⟨by show (0 : Int) < hi - lo + 1; omega, by show (0 : Int) ≤ f - m; omega, m0, ?_⟩
   refine Sel.ndec (fun h1 => ⟨⟨m0, by omega, by omega⟩, fin _ ?_⟩) (fun h1 => fin _ h1)
   have := mul_add_div' (g := g) (r := 0) W (by decide) W
   rw [Int.add_zero] at this; exact this
theorem len_20 (K : PySem.W.Frag) (A : Adr) : ∀ vs H Q E, sp_20 K A vs H Q E → vs.length = 3 := by rintro vs H Q E ⟨_, _, _, rfl, _⟩; rfl
theorem rd_20 (T : Txt K mg A) (vs : List V) (H : Hp) (Q : VK) (E : XK) (h : sp_20 K A vs H Q E) : T_20 K A { nx := fun _ H' => Q .non H', rt := Q } (L2.start ["_law_bits_here", "_law_one", "_law_other", "_law_low", "_law_high"] vs) H := by
 obtain ⟨b, c, e, rfl, b1, b60, q⟩ := h
 have W := pow2_pos b.toNat
 have W2 := pow60 b60
 have last : ∀ (lo hi : Int) (H2 : Hp), Same H H2 → 0 ≤ lo → lo < 2 ^ b.toNat → 0 ≤ hi → hi < 2 ^ b.toNat → R_20_4 K A { nx := fun _ H' => Q .non H', rt := Q } [some (.int b), some (.int c), some (.int e), some (.int lo), some (.int hi)] H2 := fun lo hi H2 s2 l0 l1 h0 h1 => by
   refine ⟨by decide, Sel.dec (fun _ => ?_) (fun _ => ?_)⟩
   · refine ⟨⟨by omega, by omega, by decide⟩, by show 2 ≤ sizeLine; decide, fun t hT => q t 0 (1 * 2 ^ b.toNat - 1) _ (s2.trans (Same.upd hT)) upd_same ⟨b1, b60, by decide, by rw [Int.one_mul]; omega, by rw [Int.one_mul]; omega⟩⟩
   · refine ⟨by show 2 ≤ sizeLine; decide, fun t hT => q t (if hi < lo then hi else lo) (if hi > lo then hi else lo) _ (s2.trans (Same.upd hT)) upd_same ⟨b1, b60, ?_, ?_, ?_⟩⟩
     · split <;> omega
     · split <;> split <;> omega
     · split <;> omega
 have mid : ∀ (lo hi : Int) (H2 : Hp), Same H H2 → 0 ≤ lo → lo < 2 ^ b.toNat → 0 ≤ hi → hi < 2 ^ b.toNat → R_20_3 K A { nx := fun _ H' => Q .non H', rt := Q } [some (.int b), some (.int c), some (.int e), some (.int lo), some (.int hi)] H2 := fun lo hi H2 s2 l0 l1 h0 h1 =>
   ⟨by decide, Sel.dec (fun _ => last lo lo H2 s2 l0 l1 l0 l1) (fun _ => last lo hi H2 s2 l0 l1 h0 h1)⟩
 refine ⟨by show 0 ≤ sizeLine; decide, fun p hp => ⟨b, c, p, [], rfl, b1, b60, upd_same, by decide, (fun k hk => by cases hk), fun lo H1 s1 l0 l1 => ?_⟩⟩
 refine ⟨by show 1 ≤ sizeLine; decide, fun p2 hp2 => ⟨b, e, p2, [lo], rfl, b1, b60, upd_same, Nat.le_refl 1, (fun k hk => by rw [List.mem_singleton.mp hk]; exact ⟨l0, l1⟩), fun hi H2 s2 h0 h1 => ?_⟩⟩
 have S := ((Same.upd hp).trans s1).trans ((Same.upd hp2).trans s2)
 refine ⟨by decide, Sel.dec (fun _ => ?_) (fun _ => mid lo hi H2 S l0 l1 h0 h1)⟩
 refine ⟨⟨by decide, by decide⟩, by decide, ⟨by omega, by omega, by decide⟩, ?_⟩
 refine mid lo (if 1 * 2 ^ b.toNat - 1 < lo + e / 7 % 40 then 1 * 2 ^ b.toNat - 1 else lo + e / 7 % 40) H2 S l0 l1 ?_ ?_
 · rw [Int.one_mul]; split <;> omega
 · rw [Int.one_mul]; split <;> omega
end Rs
namespace Rs
open PySem PySem.Spec PyProof.Rows L2
variable {K : PySem.W.Frag} {mg : Str → Option Value} {A : Adr}
theorem no_meet {b lo hi d g : Int} {p : Part} (h : okPart b lo hi d g p) (hm : meetsI b lo hi d g = false) : forks p = 0 := by
 cases p with
 | fork e x l r => have := h.1; rw [hm] at this; cases this
 | _ => rfl
theorem not_both {b lo e x : Int} (h1 : meetsI b lo lo e (2 * x) = true) (h2 : meetsI b lo lo e (2 * x + 1) = true) : False := by
 unfold meetsI at h1 h2
 rw [Bool.and_eq_true] at h1 h2
 have a := of_decide_eq_true h1.2
 have c := of_decide_eq_true h2.1
 generalize (2 * x + 1) * 2 ^ (b - e).toNat = P at a c
 omega
theorem two_pow {y : Int} (h : 1 ≤ y) : (2 : Nat) ^ y.toNat = 2 * 2 ^ (y - 1).toNat := by
 have : y.toNat = (y - 1).toNat + 1 := by omega
 rw [this, Nat.pow_succ]; omega
theorem forks_le {b lo hi d e x y : Int} {l r : Part} (y1 : 1 ≤ y) (hl : okPart b lo hi e (2 * x) l) (hr : okPart b lo hi e (2 * x + 1) r) (fl : forks l ≤ 2 ^ (y - 1).toNat - 1) (fr : forks r ≤ 2 ^ (y - 1).toNat - 1) (gl : lo = hi → (forks l : Int) ≤ b - e) (gr : lo = hi → (forks r : Int) ≤ b - e) (hd : d < e) :
    forks l + forks r + 1 ≤ 2 ^ y.toNat - 1 ∧ (lo = hi → ((forks l + forks r + 1 : Nat) : Int) ≤ b - d) := by
  have e2 := two_pow y1
  have p1 : 1 ≤ 2 ^ (y - 1).toNat := Nat.one_le_two_pow
  refine ⟨by omega, fun h => ?_⟩
  have gl := gl h
  have gr := gr h
  subst h
  cases h1 : meetsI b lo lo e (2 * x) with
  | false => have := no_meet hl h1; omega
  | true =>
    cases h2 : meetsI b lo lo e (2 * x + 1) with
    | false => have := no_meet hr h2; omega
    | true => exact (not_both h1 h2).elim
theorem len_13 (K : PySem.W.Frag) (A : Adr) (n : Nat) : ∀ vs H Q E, sp_13 K A n vs H Q E → vs.length = 7 := by rintro vs H Q E ⟨_, _, _, _, _, _, _, rfl, _⟩; rfl
theorem no_13 (K : PySem.W.Frag) (A : Adr) : ∀ vs H Q E, ¬ sp_13 K A 0 vs H Q E := by
 rintro vs H Q E ⟨_, _, _, _, _, _, _, _, _, _, _, _, _, _, _, h, _⟩
 omega
theorem rd_13 (T : Txt K mg A) (n : Nat) (vs : List V) (H : Hp) (Q : VK) (E : XK) (h : sp_13 K A (n + 1) vs H Q E) : T_13 K A n { nx := fun _ H' => Q .non H', rt := Q } (L2.start ["_law_cell", "_law_bits_here", "_law_low", "_law_high", "_law_depth", "_law_begin_here", "_law_deep", "_law_number_here", "_law_free", "_law_key_here", "_law_more", "_law_own", "_law_left", "_law_right"] vs) H := by
  obtain ⟨c, b, lo, hi, d, g, y, rfl, e, d0, d1, g0, g1, y0, y1, hn, q⟩ := h
  have b60 := e.b60
  have e1 := e.b1
  have lo0 := e.lo0
  have le := e.le
  have hi1 := e.hi1
  have gg : g < 2 ^ 60 := Int.lt_of_lt_of_le g1 (pow60 (by omega))
  have W := pow2_pos (b - d).toNat
  have WW : (2 : Int) ^ b.toNat = 2 ^ d.toNat * 2 ^ (b - d).toNat := pow_split d0 d1
  refine ⟨c, d, g, rfl, fun N n0 n1 => ?_⟩
  refine ⟨b, lo, hi, d, g, rfl, e, d0, d1, g0, g1, ?_⟩
  cases hm : meetsI b lo hi d g with
  | false =>
    refine Sel.yes rfl ⟨N, rfl, fun m hst => ⟨by show 2 ≤ sizeLine; decide, fun t hT => ?_⟩⟩
    exact q (.ref t) (.cut m) _ (Same.upd hT) ⟨.tup upd_same (.cons (.str _) (.cons (dat_kV _ m) .nil)), ⟨hm, hst⟩, d0, d1, g0, g1⟩ (Nat.zero_le _) (fun _ => by show (0 : Int) ≤ _; omega) (by show (0 : Int) ≤ _; omega)
  | true =>
    refine Sel.no rfl ?_
    have leaf : ∀ (k : Int) (H2 : Hp), Same H H2 → 0 ≤ k → k < 2 ^ b.toNat → startI b k d = g → ∀ (a8 : Option V), (tRet (tTup (tCons (tC (.str "leaf")) (tCons (mVar 9) (tCons (tCallX (sp_24 K A) (fun _ => E0) (tCons (tOp (mFdivB) (mVar 7) (tC (.int 3))) (tNil))) (tNil)))))) { nx := fun _ H' => Q .non H', rt := Q } [some (.int c), some (.int b), some (.int lo), some (.int hi), some (.int d), some (.int g), some (.int y), some (.int N), a8, some (.int k), none, none, none, none] H2 := fun k H2 s2 k0 k1 hs a8 => by
      refine ⟨⟨by decide, by decide⟩, N / 3, rfl, fun z H3 s3 hz ha => ⟨by show 3 ≤ sizeLine; decide, fun t hT => ?_⟩⟩
      exact q (.ref t) (.leaf k z) _ ((s2.trans s3).trans (Same.upd hT)) ⟨.tup upd_same (.cons (.str _) (.cons (.int _) (.cons (.str _) .nil))), ⟨hm, k0, k1, hz, ha, hs⟩, d0, d1, g0, g1⟩ (Nat.zero_le _) (fun _ => by show (0 : Int) ≤ _; omega) (by show (0 : Int) ≤ _; omega)
    have fork : 1 ≤ y → d < b → R_13_5 K A n { nx := fun _ H' => Q .non H', rt := Q } [some (.int c), some (.int b), some (.int lo), some (.int hi), some (.int d), some (.int g), some (.int y), some (.int N), some (.int (b - d)), none, none, none, none, none] H := fun y1' db => by
      refine ⟨⟨by decide, by decide⟩, by show (0 : Int) < b - d; omega, ⟨by decide, by decide⟩, by show (0 : Int) < (if 3 < b - d then 3 else b - d); split <;> omega, by show 4 ≤ sizeLine; decide, fun p hp => ⟨by decide, ?_⟩⟩
      have S := Same.upd (o := .lst [V.int 0, .int (N / 7 % (b - d)), .int 0, .int (N / 7 % (if 3 < b - d then 3 else b - d))]) hp
      have go : ∀ (m : Int), 0 ≤ m → m < b - d → R_13_6 K A n { nx := fun _ H' => Q .non H', rt := Q } [some (.int c), some (.int b), some (.int lo), some (.int hi), some (.int d), some (.int g), some (.int y), some (.int N), some (.int (b - d)), none, some (.int m), none, none, none] (upd H p (.lst [V.int 0, .int (N / 7 % (b - d)), .int 0, .int (N / 7 % (if 3 < b - d then 3 else b - d))])) := fun m m0 mf => by
        have eb : b - (b - d) = d := by omega
        refine ⟨b, N, g, m, lo, hi, b - d, rfl, e, n0, n1, g0, m0, mf, by omega, by rw [eb]; exact g1, fun x x0 x1 hx => ?_⟩
        rw [eb] at x1
        obtain ⟨fn1, fn2, fn3⟩ := fork_next (e := d + m) (x := x) (by omega) x0 x1
        refine ⟨mulL (by decide) (by decide), c, b, lo, hi, d + m + 1, 2 * x, y - 1, rfl, e, by omega, by omega, fn1, fn2, by omega, by omega, by omega, fun vl pl H3 s3 wl fl1 fl2 tl => ?_⟩
        refine ⟨mulL (by decide) (by decide), c, b, lo, hi, d + m + 1, 2 * x + 1, y - 1, rfl, e, by omega, by omega, by omega, fn3, by omega, by omega, by omega, fun vr pr H4 s4 wr fr1 fr2 tr => ?_⟩
        refine ⟨by show 5 ≤ sizeLine; decide, fun t hT => ?_⟩
        have S5 := Same.upd (o := .tup [V.str "fork", .int (d + m), .int x, vl, vr]) hT
        obtain ⟨F1, F2⟩ := forks_le (d := d) y1' wl.ok wr.ok fl1 fr1 fl2 fr2 (by omega)
        have em : d + m - d = m := by omega
        refine q (.ref t) (.fork (d + m) x pl pr) _ (((S.trans s3).trans s4).trans S5) ⟨.tup upd_same (.cons (.str _) (.cons (.int _) (.cons (.int _) (.cons ((wl.w.mono s4).mono S5) (.cons (wr.w.mono S5) .nil))))), ⟨hm, by omega, by omega, x0, x1, by rw [em]; exact hx, wl.ok, wr.ok⟩, d0, d1, g0, g1⟩ F1 F2 ?_
        show ((max (tall pl) (tall pr) + 1 : Nat) : Int) ≤ b - d
        omega
      have hc : N % 4 = 0 ∨ N % 4 = 1 ∨ N % 4 = 2 ∨ N % 4 = 3 := by omega
      have r1 : 0 ≤ N / 7 % (b - d) ∧ N / 7 % (b - d) < b - d := ⟨Int.emod_nonneg _ (by omega), Int.emod_lt_of_pos _ (by omega)⟩
      have r2 : 0 ≤ N / 7 % (if 3 < b - d then 3 else b - d) ∧ N / 7 % (if 3 < b - d then 3 else b - d) < b - d := by
        split
        · exact ⟨by omega, by omega⟩
        · exact r1
      rcases hc with hk | hk | hk | hk
      · exact ixL (j := 0) upd_same hk rfl (go 0 (by decide) (by omega))
      · exact ixL (j := 1) upd_same hk rfl (go _ r1.1 r1.2)
      · exact ixL (j := 2) upd_same hk rfl (go 0 (by decide) (by omega))
      · exact ixL (j := 3) upd_same hk rfl (go _ r2.1 r2.2)
    have rest : R_13_3 K A n { nx := fun _ H' => Q .non H', rt := Q } [some (.int c), some (.int b), some (.int lo), some (.int hi), some (.int d), some (.int g), some (.int y), some (.int N), none, none, none, none, none, none] H := by
      have body : (tSeq (tAsg (tOp (mAddG K) (tOp (mMulB) (mVar 5) (tOp (mShl) (tC (.int 1)) (mVar 8))) (tOp (mMod) (tOp (mMulB) (tOp (mFdivB) (mVar 7) (tC (.int 7))) (tC (.int 982451653))) (tOp (mShl) (tC (.int 1)) (mVar 8)))) (gName 9)) (tSeq (mIfS (mAnd (mTest (tOp (mEqC K) (tOp (mMod) (mVar 7) (tC (.int 3))) (tC (.int 0)))) (mTest (tOp (mEqC K) (tOp (mShr) (mVar 2) (mVar 8)) (mVar 5)))) (tAsg (mVar 2) (gName 9)) (tNext)) (tRet (tTup (tCons (tC (.str "leaf")) (tCons (mVar 9) (tCons (tCallX (sp_24 K A) (fun _ => E0) (tCons (tOp (mFdivB) (mVar 7) (tC (.int 3))) (tNil))) (tNil)))))))) { nx := R_13_5 K A n { nx := fun _ H' => Q .non H', rt := Q }, rt := Q } [some (.int c), some (.int b), some (.int lo), some (.int hi), some (.int d), some (.int g), some (.int y), some (.int N), some (.int (b - d)), none, none, none, none, none] H := by
        refine ⟨⟨by omega, by omega, by decide⟩, mulL g0 (by omega), ⟨by decide, by decide⟩, mulR (by decide) (by decide), ⟨by omega, by omega, by decide⟩, by show (0 : Int) < 1 * 2 ^ (b - d).toNat; rw [Int.one_mul]; exact W, ?_⟩
        have r0 : 0 ≤ N / 7 * 982451653 % (1 * 2 ^ (b - d).toNat) := Int.emod_nonneg _ (by rw [Int.one_mul]; omega)
        have r1 : N / 7 * 982451653 % (1 * 2 ^ (b - d).toNat) < 2 ^ (b - d).toNat := by
          have := Int.emod_lt_of_pos (N / 7 * 982451653) (b := 1 * 2 ^ (b - d).toNat) (by rw [Int.one_mul]; exact W)
          rw [Int.one_mul] at this ⊢; exact this
        have k0 : 0 ≤ g * (1 * 2 ^ (b - d).toNat) + N / 7 * 982451653 % (1 * 2 ^ (b - d).toNat) := by
          have := Int.mul_nonneg g0 (Int.le_of_lt W)
          rw [Int.one_mul]
          rw [Int.one_mul] at r0
          omega
        have k1 : g * (1 * 2 ^ (b - d).toNat) + N / 7 * 982451653 % (1 * 2 ^ (b - d).toNat) < 2 ^ b.toNat := by
          have h2 : (g + 1) * 2 ^ (b - d).toNat ≤ 2 ^ d.toNat * 2 ^ (b - d).toNat := Int.mul_le_mul_of_nonneg_right (by omega) (Int.le_of_lt W)
          rw [Int.add_mul, Int.one_mul] at h2
          rw [WW, Int.one_mul]
          rw [Int.one_mul] at r1
          omega
        have ks : startI b (g * (1 * 2 ^ (b - d).toNat) + N / 7 * 982451653 % (1 * 2 ^ (b - d).toNat)) d = g := by
          unfold startI
          rw [Int.one_mul] at r0 r1 ⊢
          exact mul_add_div' W r0 r1
        refine ⟨by decide, Sel.dec (fun _ => ⟨by show (0 : Int) ≤ b - d; omega, Sel.dec (fun hl => ?_) (fun _ => ?_)⟩) (fun _ => Sel.f ?_)⟩
        · exact leaf lo H (.refl H) lo0 (by omega) hl _
        · exact leaf _ H (.refl H) k0 k1 ks _
        · exact leaf _ H (.refl H) k0 k1 ks _
      refine Sel.dec (fun _ => Sel.t body) (fun hy => Sel.dec (fun _ => Sel.t body) (fun hf => ?_))
      have hf : ¬ b - d = 0 := hf
      have fk := fork (by omega) (by omega)
      exact ⟨by decide, Sel.dec (fun _ => Sel.dec (fun _ => body) (fun _ => fk)) (fun _ => Sel.f fk)⟩
    refine Sel.dec (fun hd => ⟨by decide, Sel.dec (fun _ => ⟨by show 1 ≤ sizeLine; decide, fun t hT => ?_⟩) (fun _ => rest)⟩) (fun _ => Sel.f rest)
    exact q (.ref t) .bare _ (Same.upd hT) ⟨.tup upd_same (.cons (.str _) .nil), ⟨hm, hd⟩, d0, d1, g0, g1⟩ (Nat.zero_le _) (fun _ => by show (0 : Int) ≤ _; omega) (by show (0 : Int) ≤ _; omega)
theorem len_12 (K : PySem.W.Frag) (A : Adr) : ∀ vs H Q E, sp_12 K A vs H Q E → vs.length = 4 := by rintro vs H Q E ⟨_, _, _, _, rfl, _⟩; rfl
theorem rd_12 (T : Txt K mg A) (vs : List V) (H : Hp) (Q : VK) (E : XK) (h : sp_12 K A vs H Q E) : T_12 K A { nx := fun _ H' => Q .non H', rt := Q } (L2.start ["_law_cell", "_law_bits_here", "_law_low", "_law_high", "_law_deep"] vs) H := by
 obtain ⟨c, b, lo, hi, rfl, e, q⟩ := h
 have b60 := e.b60
 have b1 := e.b1
 have fin : ∀ (y : Int) (H2 : Hp), Same H H2 → 0 ≤ y → y ≤ 60 → (lo = hi ∨ y ≤ 5) → R_12_2 K A { nx := fun _ H' => Q .non H', rt := Q } [some (.int c), some (.int b), some (.int lo), some (.int hi), some (.int y)] H2 := fun y H2 s2 y0 y1 hy => by
   refine ⟨c, b, lo, hi, 0, 0, y, rfl, e, by decide, by omega, by decide, by decide, y0, y1, by omega, fun v p H3 s3 w f1 f2 t => ?_⟩
   have f60 : forks p ≤ 60 := by
    rcases hy with h | h
    · have := f2 h; omega
    · have : 2 ^ y.toNat ≤ 2 ^ 5 := Nat.pow_le_pow_right (by decide) (by omega)
      omega
   exact q v p H3 (s2.trans s3) ⟨e, w, by omega, by omega⟩ f60
 refine ⟨⟨by decide, by decide⟩, by decide, Sel.dec (fun h => ?_) (fun h => fin _ H (.refl H) (by omega) (by omega) (.inr (by omega)))⟩
 refine ⟨by show 3 ≤ sizeLine; decide, fun p hp => ⟨by decide, ?_⟩⟩
 have S := Same.upd (o := .lst [V.int 60, .int 20, .int (1 + c / 7 % 5)]) hp
 have hc : c % 3 = 0 ∨ c % 3 = 1 ∨ c % 3 = 2 := by omega
 rcases hc with hk | hk | hk
 · exact ixL (j := 0) upd_same hk rfl (fin 60 _ S (by decide) (by decide) (.inl h))
 · exact ixL (j := 1) upd_same hk rfl (fin 20 _ S (by decide) (by decide) (.inl h))
 · exact ixL (j := 2) upd_same hk rfl (fin _ _ S (by omega) (by omega) (.inl h))
end Rs
namespace Rs
open PySem PySem.Spec PyProof.Rows L2
theorem first_ix {α : Type} {ks : List α} {a : α} : ∀ (j : Nat), ks[j]? = some a → ∃ j0, j0 ≤ j ∧ ks[j0]? = some a ∧ ∀ j', j' < j0 → ks[j']? ≠ some a := by
  intro j
  induction j using Nat.strongRecOn with
  | ind j ih =>
    intro h
    by_cases e : ∃ j', j' < j ∧ ks[j']? = some a
    · obtain ⟨j', h1, h2⟩ := e
      obtain ⟨j0, h3, h4, h5⟩ := ih j' h1 h2
      exact ⟨j0, by omega, h4, h5⟩
    · exact ⟨j, Nat.le_refl _, h, fun j' h1 h2 => e ⟨j', h1, h2⟩⟩
theorem asc_str {k : List Key} (h : okT k = true) : k.all keyStr = true := by
 rw [List.all_eq_true]
 intro x hx
 have := okT_mem h hx
 cases x with
 | inl i => rfl
 | inr z => exact asc_ok (Bool.and_eq_true_iff.mp this).1
theorem pk_at {H : Hp} {ps : List Addr} {ts : List (List Key)} (h : PK H ps ts) : ∀ {i : Nat} {p : Addr}, ps[i]? = some p → ∃ t, ts[i]? = some t ∧ H p = some (.tup (t.map kV)) ∧ okT t = true := by
  induction h with
  | nil => intro i t e; cases e
  | cons r _ ih =>
    intro i t e
    cases i with
    | zero => cases e; exact ⟨_, rfl, r⟩
    | succ i => exact ih e
variable {K : PySem.W.Frag} {mg : Str → Option Value} {A : Adr}
theorem len_29 (K : PySem.W.Frag) (A : Adr) : ∀ vs H Q E, sp_29 K A vs H Q E → vs.length = 2 := by rintro vs H Q E ⟨f, dd, L, ps, ks, g, n, rfl, _⟩; rfl
theorem rd_29 (T : Txt K mg A) (vs : List V) (H : Hp) (Q : VK) (E : XK) (h : sp_29 K A vs H Q E) : T_29 K A { nx := fun _ H' => Q .non H', rt := Q } (L2.start ["stamper", "terms", "firsts", "term", "ahead"] vs) H := by
  obtain ⟨f, dd, L, ps, ks, g, n, rfl, s, hL, pk, hk9, hn, q⟩ := h
  have sdd := s.dict
  have pl := pk_len pk
  refine .inl fun d hd => ?_
  have S0 := Same.upd (o := .dK []) hd
  refine ⟨L, rfl, .inl ⟨⟨_, SqL.of (S0 _ _ hL)⟩, ?_⟩⟩
  have noc : ∀ (i : Nat) (H' : Hp) (g' : List Key → Option Key) (kvs : List (Key × V)), (∀ j a, j < i → ks[j]? = some a → ∃ v p, eff dd g' a = some v ∧ valV kvs v = some (.ref p) ∧ H' p = some (.tup (a.map kV))) → ∀ (h : List Key → Key), Ext0 (eff dd g') h → ∀ (j k : Nat) a b, j < k → k < i → ks[j]? = some a → ks[k]? = some b → h a = h b → a = b := by
    intro i H' g' kvs I1 h hh j k a b h1 h2 h3 h4 h5
    obtain ⟨v, p, e1, e2, e3⟩ := I1 j a (by omega) h3
    obtain ⟨v', p', e1', e2', e3'⟩ := I1 k b h2 h4
    have : v = v' := by rw [hh _ _ e1, hh _ _ e1'] at h5; exact h5
    subst this
    rw [e2] at e2'; cases e2'
    rw [e3] at e3'
    injection e3' with e; injection e with e
    exact kVs_inj e
  refine for_list (xs := ps.map V.ref) (fun i σ H' => ∃ x3 x4 g' kvs, σ = [some (.ref f), some (.ref L), some (.ref d), x3, x4] ∧ KeepB dd.a.b H H' ∧ Stq A H' f dd g' (n + i) ∧ Sub0 g g' ∧ H' d = some (.dK kvs) ∧ kvs.length ≤ i ∧
      (∀ j a, j < i → ks[j]? = some a → ∃ v p, eff dd g' a = some v ∧ valV kvs v = some (.ref p) ∧ H' p = some (.tup (a.map kV))) ∧
      ∀ v x, valV kvs v = some x → ∃ j a p, j < i ∧ ks[j]? = some a ∧ x = .ref p ∧ H' p = some (.tup (a.map kV)) ∧ okT a = true ∧ eff dd g' a = some v)
    ⟨none, none, g, [], rfl, KeepB.same S0, s.same (Nat.le_refl _) S0, fun _ _ e => e, upd_same, Nat.le_refl _, fun j a hj => by omega, fun v x e => by cases e⟩ ?_ ?_ ?_
  · rintro i σ H' _ ⟨x3, x4, g', kvs, rfl, kp, _⟩; exact SqL.of (kp.obj sdd hL (fun _ z => nomatch z))
  · rintro i x σ H' hx ⟨x3, x4, g', kvs, rfl, kp, s', sub, hd', hl, I1, I2⟩
    obtain ⟨p, hp, rfl⟩ := map_get hx
    obtain ⟨k, hk, hpk, ok⟩ := pk_at pk hp
    have hi : i < ks.length := (List.getElem?_eq_some_iff.mp hk).1
    refine ⟨.inr (.inr (.inl ⟨rfl, .inl ⟨_, hd'⟩⟩)), f, rfl, s'.clo, tc1 rfl (call_ok0 s' (by omega) (kp.obj sdd hpk (fun _ z => nomatch z)) ok fun v H3 g3 k3 s3 sub3 gv _ => tc1 rfl ?_)⟩
    have hp3 : H3 p = some (.tup (k.map kV)) := k3.obj s'.dict (kp.obj sdd hpk (fun _ z => nomatch z)) (fun _ z => nomatch z)
    have hd3 := k3.obj s'.dict hd' (fun _ z => nomatch z)
    have J1 : ∀ j a, j < i → ks[j]? = some a → ∃ v p, eff dd g3 a = some v ∧ valV kvs v = some (.ref p) ∧ H3 p = some (.tup (a.map kV)) := fun j a hj e => by
      obtain ⟨v, p, e1, e2, e3⟩ := I1 j a hj e
      exact ⟨v, p, eff_sub sub3 _ _ e1, e2, k3.obj s'.dict e3 (fun _ z => nomatch z)⟩
    have J2 : ∀ v x, valV kvs v = some x → ∃ j a p, j < i ∧ ks[j]? = some a ∧ x = .ref p ∧ H3 p = some (.tup (a.map kV)) ∧ okT a = true ∧ eff dd g3 a = some v := fun v x e => by
      obtain ⟨j, a, p, e1, e2, e3, e4, e5, e6⟩ := I2 v x e
      exact ⟨j, a, p, e1, e2, e3, k3.obj s'.dict e4 (fun _ z => nomatch z), e5, eff_sub sub3 _ _ e6⟩
    have kp3 := kp.trans k3
    have sub' : Sub0 g g3 := fun a b e => sub3 a b (sub a b e)
    have gd := DGet.k (k := v) hd3
    cases ev : valV kvs v with
    | some x =>
      rw [ev] at gd
      obtain ⟨j0, a0, p0, hj0, ha0, rfl, hp0, ok0, g0⟩ := J2 v x ev
      refine ⟨d, kV v, .ref p, .ref p0, H3, rfl, rfl, .inl ⟨gd, rfl⟩, ?_⟩
      refine ⟨_, _, datV_tup hp0, datV_tup hp3, canLay_keys (asc_str ok0), canLay_keys (asc_str ok), depT _, Sel.mk (fun t => ?_) (fun t => ?_)⟩
      · have ne := neqv_t t
        refine ⟨line_ge (n := 2) (by decide), fun r hr => ?_⟩
        have S := Same.upd (o := .tup [V.ref p0, V.ref p]) hr
        refine q _ _ g3 (some (a0, k)) (kp3.trans (KeepB.same S)) (s3.same (by omega) S) sub' ⟨r, p0, p, rfl, upd_same, S _ _ hp0, S _ _ hp3, ok0, ok⟩ (fun h hh => ?_)
        obtain ⟨j1, hj1, hb1, hmin⟩ := first_ix j0 ha0
        refine ⟨j1, i, by omega, hb1, hk, ne, by rw [hh _ _ g0, hh _ _ gv], noc i H3 g3 kvs J1 h hh, fun j' a hj' ha he => ?_⟩
        obtain ⟨v1, p1, e1, e2, e3⟩ := J1 j' a (by omega) ha
        have : v1 = v := by rw [hh _ _ e1, hh _ _ gv] at he; exact he
        subst this
        rw [ev] at e2; cases e2
        rw [hp0] at e3
        injection e3 with e; injection e with e
        have := kVs_inj e
        subst this
        exact (hmin j' hj' ha).elim
      · have e := neqv_f t
        subst e
        refine ⟨_, _, g3, kvs, rfl, kp3, s3, sub', hd3, by omega, fun j a hj ha => ?_, fun w x e => ?_⟩
        · by_cases e : j = i
          · subst e; rw [hk] at ha; cases ha
            exact ⟨v, p0, gv, ev, hp0⟩
          · exact J1 j a (by omega) ha
        · obtain ⟨j, a, r, e1, e2⟩ := J2 w x e
          exact ⟨j, a, r, by omega, e2⟩
    | none =>
      rw [ev] at gd
      refine ⟨d, kV v, .ref p, .ref p, upd H3 d (.dK (putK kvs v (.ref p))), rfl, rfl, .inr ⟨gd, DPut.k hd3 (Nat.lt_of_le_of_lt hl (line_ge (n := i + 1) (by omega))), rfl⟩, ?_⟩
      have dn : ∀ b o, H3 b = some o → (∀ kvs, o ≠ .dK kvs) → upd H3 d (.dK (putK kvs v (.ref p))) b = some o := fun b o e nd => by rw [upd_ne (fun z => by subst z; rw [hd3] at e; cases e; exact nd _ rfl)]; exact e
      have hp4 := dn _ _ hp3 (fun _ z => nomatch z)
      refine ⟨_, _, datV_tup hp4, datV_tup hp4, canLay_keys (asc_str ok), canLay_keys (asc_str ok), depT _, Sel.mk (fun t => (neqv_t t rfl).elim) (fun t => ?_)⟩
      refine ⟨_, _, g3, putK kvs v (.ref p), rfl, ?_, s3.keep (Nat.le_refl _) (fun b o e _ nd _ => dn b o e nd), sub', upd_same, Nat.le_trans (length_putK _ _ _) (by omega), fun j a hj ha => ?_, fun w x e => ?_⟩
      · intro b o nb e
        rw [upd_ne (ne_of_none e hd)]
        exact kp3 _ _ nb e
      · by_cases e : j = i
        · subst e; rw [hk] at ha; cases ha
          exact ⟨v, p, gv, by rw [valV_put, if_pos rfl], hp4⟩
        · obtain ⟨w, r, e1, e2, e3⟩ := J1 j a (by omega) ha
          exact ⟨w, r, e1, by rw [valV_put, if_neg (fun z => by subst z; rw [ev] at e2; cases e2)]; exact e2, dn _ _ e3 (fun _ z => nomatch z)⟩
      · rw [valV_put] at e
        by_cases ew : w = v
        · subst ew
          rw [if_pos rfl] at e; cases e
          exact ⟨i, k, p, by omega, hk, rfl, hp4, ok, gv⟩
        · rw [if_neg ew] at e
          obtain ⟨j, a, r, e1, e2, e3, e4, e5⟩ := J2 w x e
          exact ⟨j, a, r, by omega, e2, e3, dn _ _ e4 (fun _ z => nomatch z), e5⟩
  · rintro σ H' ⟨x3, x4, g', kvs, rfl, kp, s', sub, hd', hl, I1, I2⟩
    have el : (ps.map V.ref).length = ks.length := by rw [List.length_map, pl]
    rw [el] at s' I1
    refine q _ _ g' none kp s' sub rfl fun h hh => ?_
    exact fun j k a b h1 h2 h3 h4 => noc ks.length H' g' kvs I1 h hh j k a b h1 (List.getElem?_eq_some_iff.mp h3).1 h2 h3 h4
end Rs
namespace Rs
open PySem PySem.Spec PyProof.Rows L2
def encL : List Key → List Nat
 | [] => []
 | .inl i :: r => 0 :: (if 0 ≤ i then 0 else 1) :: i.natAbs :: encL r
 | .inr z :: r => 1 :: z.cps.toList.length :: (z.cps.toList ++ encL r)
theorem encL_inj : ∀ {k l : List Key}, encL k = encL l → k = l
  | [], [], _ => rfl
  | [], .inl _ :: _, h => by cases h
  | [], .inr _ :: _, h => by cases h
  | .inl _ :: _, [], h => by cases h
  | .inr _ :: _, [], h => by cases h
  | .inl i :: r, .inl j :: s, h => by
    unfold encL at h
    injection h with _ h
    injection h with h1 h
    injection h with h2 h
    have : i = j := by
      by_cases hi : 0 ≤ i <;> by_cases hj : 0 ≤ j
      · omega
      · rw [if_pos hi, if_neg hj] at h1; cases h1
      · rw [if_neg hi, if_pos hj] at h1; cases h1
      · omega
    rw [this, encL_inj h]
  | .inl i :: r, .inr z :: s, h => by unfold encL at h; injection h with h _; cases h
  | .inr z :: r, .inl i :: s, h => by unfold encL at h; injection h with h _; cases h
  | .inr z :: r, .inr y :: s, h => by
    unfold encL at h
    injection h with _ h
    injection h with h1 h
    obtain ⟨h2, h3⟩ := List.append_inj h h1
    have : z = y := by cases z; cases y; congr 1; exact Array.toList_inj.mp h2
    rw [this, encL_inj h3]
def hsF (kvs : List (List Key × Key)) (k : List Key) : Key := (tabG kvs k).getD (.inr ⟨(encL k).toArray⟩)
theorem hsF_ext (kvs : List (List Key × Key)) : Ext0 (tabG kvs) (hsF kvs) := fun k v e => by unfold hsF; rw [e]; rfl
theorem hsF_inj {j : Int} {kvs : List (List Key × Key)} (s : SureT j kvs) {k l : List Key} (h : hsF kvs k = hsF kvs l) : k = l := by
  have num : ∀ {k : List Key} {v : Key}, tabG kvs k = some v → ∃ i, v = .inl i := fun h => by
    obtain ⟨i, hi⟩ := tabG_at h
    exact ⟨_, s _ _ hi⟩
  unfold hsF at h
  cases e : tabG kvs k with
  | some v =>
    obtain ⟨i, rfl⟩ := num e
    cases e2 : tabG kvs l with
    | some w =>
      rw [e, e2] at h
      have h : (Sum.inl i : Key) = w := h
      subst h
      exact sure_inj s e e2
    | none =>
      rw [e, e2] at h
      have h : (Sum.inl i : Key) = Sum.inr _ := h
      cases h
  | none =>
    cases e2 : tabG kvs l with
    | some w =>
      obtain ⟨i, rfl⟩ := num e2
      rw [e, e2] at h
      have h : (Sum.inr _ : Key) = Sum.inl i := h
      cases h
    | none =>
      rw [e, e2] at h
      have h : (Sum.inr (⟨(encL k).toArray⟩ : Str) : Key) = Sum.inr ⟨(encL l).toArray⟩ := h
      injection h with h
      injection h with h
      exact encL_inj (by simpa using h)
def hpF (h : List Key → Key) (k1 k2 : List Key) (k : List Key) : Key := h (if k = k2 then k1 else k)
theorem hpF_ext {kvs : List (List Key × Key)} {d : Kd} {k1 k2 : List Key} (ep : d.pl = some (k1, k2)) : Ext0 (eff d (tabG kvs)) (hpF (hsF kvs) k1 k2) := fun k v e => by
 unfold eff at e
 rw [ep] at e
 exact hsF_ext kvs _ _ e
def rank : List Key → Int
 | [.inr w, .inl d, _, _, _] => if w = "fork" then d else 100
 | _ => 100
theorem rank5 (d : Int) (x y z : Key) : rank [.inr "fork", .inl d, x, y, z] = d := by
 show (if ("fork" : Str) = "fork" then d else 100) = d
 rw [if_pos rfl]
theorem rank1 (x : Key) : rank [x] = 100 := by cases x <;> rfl
end Rs
namespace Rs
open PySem PySem.Spec PyProof.Rows L2
theorem toPy_key (x : Key) : toPy (datK x) = dKey x := by cases x <;> rfl
theorem eqv_keys (x y : List Key) : (PyData.tuple (x.map dKey)).eqv (.tuple (y.map dKey)) = decide (x = y) := eqvAll_keys x y
theorem mem_eqv (ts : List (List Key)) (z : List Key) : ((ts.map fun t => PyData.tuple (t.map dKey)).any fun x => x.eqv (.tuple (z.map dKey))) = true ↔ z ∈ ts := by
 rw [List.any_eq_true]
 constructor
 · rintro ⟨x, hx, h⟩
   obtain ⟨t, ht, rfl⟩ := List.mem_map.mp hx
   rw [eqv_keys, decide_eq_true_eq] at h
   rw [← h]; exact ht
 · intro h
   exact ⟨_, List.mem_map_of_mem h, by rw [eqv_keys]; exact decide_eq_true rfl⟩
theorem datVs_terms {K : PySem.W.Frag} {H : Hp} {ps : List Addr} {ks : List (List Key)} (h : PK H ps ks) : DatVs K H (ps.map V.ref) (ks.map fun k => .tuple (k.map dKey)) := by
 induction h with
 | nil => exact .nil
 | cons r t ih => exact .cons (datV_tup r.1) ih
theorem canLay_terms {H : Hp} {ps : List Addr} {ks : List (List Key)} (h : PK H ps ks) : PyData.canLayAll0 (ks.map fun k => .tuple (k.map dKey)) = true := by
  induction h with
  | nil => rfl
  | @cons p k ps ks r t ih =>
    show (PyData.canLayAll0 (k.map dKey) && PyData.canLayAll0 (ks.map fun k => .tuple (k.map dKey))) = true
    rw [canLay_keys (asc_str r.2), ih]; rfl
theorem Tab1.keepP {P P' : Addr} {l c : Nat} {t : CloT} {H H' : Hp} (h : Tab1 P l c t H) (ne : P ≠ P') (hP : ∃ ps, H P' = some (.tbl ps)) (k : KeepP P' H H') : Tab1 P l c t H' := by
 obtain ⟨ps, h1, h2⟩ := h
 obtain ⟨ps', hP⟩ := hP
 exact ⟨ps, k _ _ h1 ne, h2.imp id fun ⟨a, e, ha⟩ => ⟨a, e, k _ _ ha fun z => by subst z; rw [hP] at ha; cases ha⟩⟩
theorem Tab1.tbl {P : Addr} {l c : Nat} {t : CloT} {H : Hp} (h : Tab1 P l c t H) : ∃ ps, H P = some (.tbl ps) := let ⟨ps, h1, _⟩ := h; ⟨ps, h1⟩
section
variable {b k l : Int} {fi st su : List (Int × Key)} {e o : List Key} {kvs kvs' : List (List Key × Key)} {pre1 pre2 : List (List Key)} {k1 k2 : List Key} {j : Int}
end
end Rs
namespace Rs
open PySem PySem.Spec PyProof.Rows L2
theorem tall_le {b lo hi : Int} : ∀ {p : Part} {d g : Int}, okPart b lo hi d g p → d ≤ b → (tall p : Int) ≤ b - d := by
  intro p
  induction p with
  | fork e x l r hl hr =>
    intro d g ok hd
    obtain ⟨_, h1, he, _, _, _, okl, okr⟩ := ok
    have := hl okl (by omega)
    have := hr okr (by omega)
    show ((max (tall l) (tall r) + 1 : Nat) : Int) ≤ b - d
    omega
  | _ => intro d g ok hd; show ((0 : Nat) : Int) ≤ b - d; omega
theorem rank_low {h : List Key → Key} {b lo hi : Int} (b60 : b ≤ 60) : ∀ {p : Part} {d g : Int}, okPart b lo hi d g p → d ≤ b → ∀ t ∈ termsP h p, d ≤ rank t := by
  intro p
  induction p with
  | fork e x l r hl hr =>
    intro d g ok hd t ht
    obtain ⟨_, h1, he, _, _, _, okl, okr⟩ := ok
    rcases List.mem_append.mp ht with ht | ht
    · rcases List.mem_append.mp ht with ht | ht
      · have := hl okl (by omega) t ht; omega
      · have := hr okr (by omega) t ht; omega
    · rw [List.mem_singleton.mp ht, rank5]; exact h1
  | cut m => intro d g ok hd t ht; cases ht
  | bare => intro d g ok hd t ht; rw [List.mem_singleton.mp ht, rank1]; omega
  | leaf k z => intro d g ok hd t ht; rw [List.mem_singleton.mp ht]; show d ≤ 100; omega
theorem own_last {h : List Key → Key} {b lo hi : Int} (b60 : b ≤ 60) {p : Part} {d g : Int} (ok : okPart b lo hi d g p) {t : List Key} (ht : t ∈ termsP h p) : t = ownP h p ∨ rank (ownP h p) < rank t := by
  cases p with
  | fork e x l r =>
    obtain ⟨_, h1, he, _, _, _, okl, okr⟩ := ok
    have e5 : rank (ownP h (.fork e x l r)) = e := rank5 _ _ _ _
    rcases List.mem_append.mp ht with ht | ht
    · right
      rcases List.mem_append.mp ht with ht | ht
      · have := rank_low b60 okl (by omega) t ht; omega
      · have := rank_low b60 okr (by omega) t ht; omega
    · exact .inl (List.mem_singleton.mp ht)
  | cut m => cases ht
  | bare => exact .inl (List.mem_singleton.mp ht)
  | leaf k z => exact .inl (List.mem_singleton.mp ht)
theorem own_mem (h : List Key → Key) {p : Part} (hp : isCutP p = false) : ownP h p ∈ termsP h p := by
 obtain ⟨pre, e⟩ := terms_last h hp
 rw [e]; exact List.mem_append_right _ List.mem_cons_self
theorem cut_meets {b lo hi d g : Int} {p : Part} (ok : okPart b lo hi d g p) : isCutP p = !meetsI b lo hi d g := by
 cases p with
 | cut m => rw [ok.1]; rfl
 | bare => rw [ok.1]; rfl
 | leaf k z => rw [ok.1]; rfl
 | fork e x l r => rw [ok.1]; rfl
theorem own_inj {h : List Key → Key} (inj : ∀ x y, h x = h y → x = y) {b lo hi : Int} : ∀ {p q : Part} {d g : Int}, okPart b lo hi d g p → okPart b lo hi d g q → (isCutP p = false → ownP h p = ownP h q → p = q) ∧ (markP h p = markP h q → p = q) := by
  intro p
  have mk : ∀ {p q : Part} {d g : Int}, okPart b lo hi d g p → okPart b lo hi d g q → (isCutP p = false → ownP h p = ownP h q → p = q) → (markP h p = markP h q → p = q) := fun {p q d g} okp okq own hm => by
    have e : isCutP p = isCutP q := by rw [cut_meets okp, cut_meets okq]
    cases hp : isCutP p with
    | false =>
      rw [mark_own h hp, mark_own h (by rw [← e]; exact hp)] at hm
      exact own hp (inj _ _ hm)
    | true =>
      rw [hp] at e
      cases p with
      | cut m =>
        cases q with
        | cut m' => have hm : m = m' := hm; rw [hm]
        | _ => cases e
      | _ => cases hp
  induction p with
  | cut m => intro q d g okp okq; exact ⟨fun z => (by cases z), mk okp okq fun z => (by cases z)⟩
  | bare =>
    intro q d g okp okq
    have own : isCutP .bare = false → ownP h .bare = ownP h q → Part.bare = q := fun _ e => by
      cases q with
      | bare => rfl
      | cut m => cases e
      | leaf k z => cases e
      | fork d b l r => cases e
    exact ⟨own, mk okp okq own⟩
  | leaf k z =>
    intro q d g okp okq
    have own : isCutP (.leaf k z) = false → ownP h (.leaf k z) = ownP h q → Part.leaf k z = q := fun _ e => by
      cases q with
      | leaf k' z' => injection e with _ e; injection e with e1 e; injection e1 with e1; injection e with e2 _; injection e2 with e2; rw [e1, e2]
      | bare => cases e
      | cut m => cases e
      | fork d b l r => cases e
    exact ⟨own, mk okp okq own⟩
  | fork e x l r hl hr =>
    intro q d g okp okq
    have own : isCutP (.fork e x l r) = false → ownP h (.fork e x l r) = ownP h q → Part.fork e x l r = q := fun _ eo => by
      cases q with
      | fork e' x' l' r' =>
        injection eo with _ eo
        injection eo with e1 eo
        injection e1 with e1
        injection eo with e2 eo
        injection e2 with e2
        injection eo with e3 eo
        injection eo with e4 _
        subst e1 e2
        obtain ⟨_, _, _, _, _, _, okl, okr⟩ := okp
        obtain ⟨_, _, _, _, _, _, okl', okr'⟩ := okq
        rw [(hl okl okl').2 e3, (hr okr okr').2 e4]
      | bare => cases eo
      | cut m => cases eo
      | leaf k z => cases eo
    exact ⟨own, mk okp okq own⟩
theorem terms_same {h h' : List Key → Key} : ∀ {p : Part}, (∀ t ∈ termsP h p, h' t = h t) → termsP h' p = termsP h p ∧ ownP h' p = ownP h p ∧ markP h' p = markP h p := by
  intro p
  induction p with
  | cut m => intro _; exact ⟨rfl, rfl, rfl⟩
  | bare => intro k; exact ⟨rfl, rfl, k _ List.mem_cons_self⟩
  | leaf j z => intro k; exact ⟨rfl, rfl, k _ List.mem_cons_self⟩
  | fork e x l r hl hr =>
    intro k
    obtain ⟨l1, _, l2⟩ := hl fun t ht => k t (List.mem_append_left _ (List.mem_append_left _ ht))
    obtain ⟨r1, _, r2⟩ := hr fun t ht => k t (List.mem_append_left _ (List.mem_append_right _ ht))
    have o : ownP h' (.fork e x l r) = ownP h (.fork e x l r) := by show ([_, _, _, markP h' l, markP h' r] : List Key) = _; rw [l2, r2]; rfl
    refine ⟨?_, o, ?_⟩
    · show termsP h' l ++ termsP h' r ++ [ownP h' (.fork e x l r)] = _
      rw [l1, r1, o]; rfl
    · show h' (ownP h' (.fork e x l r)) = h (ownP h (.fork e x l r))
      rw [o]; exact k _ (own_mem h (p := .fork e x l r) rfl)
theorem terms_upto {h h' : List Key → Key} {p : Part} (hp : isCutP p = false) (k : ∀ t ∈ termsP h p, t ≠ ownP h p → h' t = h t) (hn : ∀ e x l r, p = .fork e x l r → ownP h p ∉ termsP h l ∧ ownP h p ∉ termsP h r) : termsP h' p = termsP h p ∧ ownP h' p = ownP h p := by
  cases p with
  | cut m => cases hp
  | bare => exact ⟨rfl, rfl⟩
  | leaf j z => exact ⟨rfl, rfl⟩
  | fork e x l r =>
    obtain ⟨n1, n2⟩ := hn e x l r rfl
    obtain ⟨l1, _, l2⟩ := terms_same (h := h) (h' := h') (p := l) fun t ht => k t (List.mem_append_left _ (List.mem_append_left _ ht)) fun z => n1 (z ▸ ht)
    obtain ⟨r1, _, r2⟩ := terms_same (h := h) (h' := h') (p := r) fun t ht => k t (List.mem_append_left _ (List.mem_append_right _ ht)) fun z => n2 (z ▸ ht)
    have o : ownP h' (.fork e x l r) = ownP h (.fork e x l r) := by show ([_, _, _, markP h' l, markP h' r] : List Key) = _; rw [l2, r2]; rfl
    refine ⟨?_, o⟩
    show termsP h' l ++ termsP h' r ++ [ownP h' (.fork e x l r)] = _
    rw [l1, r1, o]; rfl
def InS (b d g : Int) (t : List Key) : Prop := (∃ (k : Int) (z : Str), t = [.inr "leaf", .inl k, .inr z] ∧ startI b k d = g) ∨ (∃ (e x : Int) (m n : Key), t = [.inr "fork", .inl e, .inl x, m, n] ∧ d ≤ e ∧ x / 2 ^ (e - d).toNat = g) ∨ (t = [.inr "bare"] ∧ d = 0)
theorem InS.lift {b d D G : Int} {t : List Key} (h : InS b D G t) (d0 : 0 ≤ d) (hd : d ≤ D) (hb : D ≤ b) : InS b d (G / 2 ^ (D - d).toNat) t := by
 rcases h with ⟨k, z, rfl, e⟩ | ⟨e, x, m, n, rfl, h1, h2⟩ | ⟨rfl, h1⟩
 · exact .inl ⟨k, z, rfl, by rw [← e, startI_start hd hb]⟩
 · refine .inr (.inl ⟨e, x, m, n, rfl, by omega, ?_⟩)
   rw [← h2, div_div (pow2_pos _), ← Int.pow_add]
   congr 2
   omega
 · exact .inr (.inr ⟨rfl, by omega⟩)
theorem InS.one {b d g g' : Int} {t : List Key} (d1 : 1 ≤ d) (h : InS b d g t) (h' : InS b d g' t) : g = g' := by
 rcases h with ⟨k, z, rfl, e⟩ | ⟨e, x, m, n, rfl, h1, h2⟩ | ⟨rfl, h1⟩
 · rcases h' with ⟨k', z', e1, e'⟩ | ⟨e', x', m', n', e1, _⟩ | ⟨e1, _⟩
   · injection e1 with _ e1; injection e1 with e1 _; injection e1 with e1; rw [← e, ← e', e1]
   · cases e1
   · cases e1
 · rcases h' with ⟨k', z', e1, e'⟩ | ⟨e', x', m', n', e1, _, h3⟩ | ⟨e1, _⟩
   · cases e1
   · injection e1 with _ e1; injection e1 with e2 e1; injection e2 with e2; injection e1 with e3 _; injection e3 with e3
     rw [← h2, ← h3, e2, e3]
   · cases e1
 · omega
theorem ins_all {h : List Key → Key} {b lo hi : Int} : ∀ {p : Part} {d g : Int}, okPart b lo hi d g p → 0 ≤ d → d ≤ b → ∀ t ∈ termsP h p, InS b d g t := by
  intro p
  induction p with
  | cut m => intro d g ok _ _ t ht; cases ht
  | bare => intro d g ok _ _ t ht; rw [List.mem_singleton.mp ht]; exact .inr (.inr ⟨rfl, ok.2⟩)
  | leaf k z => intro d g ok _ _ t ht; rw [List.mem_singleton.mp ht]; exact .inl ⟨k, z, rfl, ok.2.2.2.2.2⟩
  | fork e x l r hl hr =>
    intro d g ok d0 db t ht
    obtain ⟨_, h1, he, _, _, hg, okl, okr⟩ := ok
    have up : ∀ c : Int, (c = 0 ∨ c = 1) → InS b (e + 1) (2 * x + c) t → InS b d g t := fun c hc hi => by
      have := hi.lift d0 (by omega) (by omega)
      have e1 : (2 * x + c) / 2 ^ (e + 1 - d).toNat = g := by
        have : (e + 1 - d).toNat = 1 + (e - d).toNat := by omega
        rw [this, Int.pow_add, ← div_div (by decide), ← hg]
        congr 1
        omega
      rw [e1] at this; exact this
    rcases List.mem_append.mp ht with ht | ht
    · rcases List.mem_append.mp ht with ht | ht
      · exact up 0 (.inl rfl) (by rw [Int.add_zero]; exact hl okl (by omega) (by omega) t ht)
      · exact up 1 (.inr rfl) (hr okr (by omega) (by omega) t ht)
    · rw [List.mem_singleton.mp ht]
      exact .inr (.inl ⟨e, x, _, _, rfl, h1, hg⟩)
end Rs
namespace Rs
open PySem PySem.Spec PyProof.Rows L2
structure WayOk (b lo hi D G d g : Int) (q : Part) : Prop where
 ok : okPart b lo hi d g q
 le : D ≤ d
 db : d ≤ b
 g0 : 0 ≤ g
 g1 : g < 2 ^ d.toNat
 up : g / 2 ^ (d - D).toNat = G
theorem Way.ok {b lo hi D G d g : Int} {p q : Part} {w : List Int} (h : Way p D G w q d g) (o : okPart b lo hi D G p) (D0 : 0 ≤ D) (Db : D ≤ b) (G0 : 0 ≤ G) (G1 : G < 2 ^ D.toNat) : WayOk b lo hi D G d g q := by
  have step : ∀ {e x D G d g c : Int} {q : Part}, (c = 0 ∨ c = 1) → D ≤ e → 0 ≤ D → x / 2 ^ (e - D).toNat = G → WayOk b lo hi (e + 1) (2 * x + c) d g q → WayOk b lo hi D G d g q := fun {e x D G d g c q} hc hD D0 hG k => by
    refine ⟨k.ok, by have := k.le; omega, k.db, k.g0, k.g1, ?_⟩
    have hle := k.le
    have e1 : (d - D).toNat = (d - (e + 1)).toNat + (1 + (e - D).toNat) := by omega
    rw [e1, Int.pow_add, ← div_div (pow2_pos _), k.up, Int.pow_add, ← div_div (by decide), ← hG]
    congr 1
    omega
  induction h with
  | nil p d g => exact ⟨o, by omega, Db, G0, G1, by rw [Int.sub_self]; show g / 2 ^ 0 = g; simp⟩
  | @left e x D G d g l r q w h ih =>
    obtain ⟨_, h1, he, x0, x1, hG, okl, okr⟩ := o
    obtain ⟨f1, f2, f3⟩ := fork_next (e := e) (by omega) x0 x1
    exact step (c := 0) (.inl rfl) h1 D0 hG (by rw [Int.add_zero]; exact ih okl (by omega) (by omega) f1 f2)
  | @right e x D G d g l r q w h ih =>
    obtain ⟨_, h1, he, x0, x1, hG, okl, okr⟩ := o
    obtain ⟨f1, f2, f3⟩ := fork_next (e := e) (by omega) x0 x1
    exact step (c := 1) (.inr rfl) h1 D0 hG (ih okr (by omega) (by omega) (by omega) f3)
theorem plug0 (p q : Part) : plug p [] q = q := by cases p <;> rfl
theorem plug3 (e x : Int) (l r q : Part) (w : List Int) : plug (.fork e x l r) (3 :: w) q = .fork e x (plug l w q) r := by
 show (if (3 : Int) = 3 then _ else _) = _
 rw [if_pos rfl]
theorem plug4 (e x : Int) (l r q : Part) (w : List Int) : plug (.fork e x l r) (4 :: w) q = .fork e x l (plug r w q) := by
 show (if (4 : Int) = 3 then _ else _) = _
 rw [if_neg (by decide)]
theorem Way.part {b lo hi D G d g : Int} {p q q' : Part} {w : List Int} (h : Way p D G w q d g) (o : okPart b lo hi D G p) (o' : okPart b lo hi d g q') : okPart b lo hi D G (plug p w q') := by
  induction h with
  | nil p d g => rw [plug0]; exact o'
  | left h ih =>
    obtain ⟨h0, h1, he, x0, x1, hG, okl, okr⟩ := o
    rw [plug3]
    exact ⟨h0, h1, he, x0, x1, hG, ih okl o', okr⟩
  | right h ih =>
    obtain ⟨h0, h1, he, x0, x1, hG, okl, okr⟩ := o
    rw [plug4]
    exact ⟨h0, h1, he, x0, x1, hG, okl, ih okr o'⟩
theorem Way.forks {D G d g : Int} {p q q' : Part} {w : List Int} (h : Way p D G w q d g) : forks (plug p w q') ≤ forks p + forks q' := by
 induction h with
 | nil p d g => rw [plug0]; omega
 | @left e x D G d g l r q w h ih => rw [plug3]; show Rs.forks (plug l w q') + Rs.forks r + 1 ≤ Rs.forks l + Rs.forks r + 1 + _; omega
 | @right e x D G d g l r q w h ih => rw [plug4]; show Rs.forks l + Rs.forks (plug r w q') + 1 ≤ Rs.forks l + Rs.forks r + 1 + _; omega
theorem Way.len {D G d g : Int} {p q : Part} {w : List Int} (h : Way p D G w q d g) : w.length ≤ tall p := by
 induction h with
 | nil p d g => exact Nat.zero_le _
 | @left e x D G d g l r q w h ih => show w.length + 1 ≤ max (tall l) (tall r) + 1; omega
 | @right e x D G d g l r q w h ih => show w.length + 1 ≤ max (tall l) (tall r) + 1; omega
theorem Way.mark {h : List Key → Key} {D G d g : Int} {p q q1 q2 : Part} {w : List Int} (k : Way p D G w q d g) (e : markP h q1 = markP h q2) : markP h (plug p w q1) = markP h (plug p w q2) := by
 induction k with
 | nil p d g => rw [plug0, plug0]; exact e
 | left k ih => rw [plug3, plug3]; show h [_, _, _, _, _] = h [_, _, _, _, _]; rw [ih]
 | right k ih => rw [plug4, plug4]; show h [_, _, _, _, _] = h [_, _, _, _, _]; rw [ih]
theorem Way.own {h : List Key → Key} {D G d g : Int} {p q q' : Part} {w : List Int} (k : Way p D G w q d g) (hc : isCutP q' = false) : ownP h q' ∈ termsP h (plug p w q') := by
 induction k with
 | nil p d g => rw [plug0]; exact own_mem h hc
 | left k ih => rw [plug3]; exact List.mem_append_left _ (List.mem_append_left _ ih)
 | right k ih => rw [plug4]; exact List.mem_append_left _ (List.mem_append_right _ ih)
theorem Way.notin {h : List Key → Key} {b lo hi D G d g : Int} {p q q' : Part} {w : List Int} {t : List Key} (k : Way p D G w q d g) (o : okPart b lo hi D G p) (D0 : 0 ≤ D) (Db : D ≤ b) (G0 : 0 ≤ G) (G1 : G < 2 ^ D.toNat) (ht : InS b d g t) (n : t ∉ termsP h q') : t ∉ termsP h (plug p w q') := by
  have far : ∀ {e x d g c : Int} {q : Part}, 0 ≤ e → WayOk b lo hi (e + 1) (2 * x + c) d g q → InS b d g t → InS b (e + 1) (2 * x + c) t ∧ ∀ m n, t ≠ [.inr "fork", .inl e, .inl x, m, n] := fun {e x d g c q} e0 k hi => by
    have := hi.lift (d := e + 1) (by omega) k.le k.db
    rw [k.up] at this
    refine ⟨this, fun m n z => ?_⟩
    rcases this with ⟨_, _, e1, _⟩ | ⟨e', x', m', n', e1, h1, _⟩ | ⟨e1, _⟩
    · rw [z] at e1; cases e1
    · rw [z] at e1
      injection e1 with _ e1; injection e1 with e1 _; injection e1 with e1
      omega
    · rw [z] at e1; cases e1
  induction k with
  | nil p d g => rw [plug0]; exact n
  | @left e x D G d g l r q w k ih =>
    obtain ⟨_, h1, he, x0, x1, hG, okl, okr⟩ := o
    obtain ⟨f1, f2, f3⟩ := fork_next (e := e) (by omega) x0 x1
    have wk := k.ok okl (by omega) (by omega) f1 f2
    obtain ⟨s, nf⟩ := far (c := 0) (x := x) (e := e) (by omega) (by rw [Int.add_zero]; exact wk) ht
    rw [plug3]
    intro hm
    rcases List.mem_append.mp hm with hm | hm
    · rcases List.mem_append.mp hm with hm | hm
      · exact ih okl (by omega) (by omega) f1 f2 ht hm
      · have := s.one (by omega) (ins_all okr (by omega) (by omega) t hm); omega
    · exact nf _ _ (List.mem_singleton.mp hm)
  | @right e x D G d g l r q w k ih =>
    obtain ⟨_, h1, he, x0, x1, hG, okl, okr⟩ := o
    obtain ⟨f1, f2, f3⟩ := fork_next (e := e) (by omega) x0 x1
    have wk := k.ok okr (by omega) (by omega) (by omega) f3
    obtain ⟨s, nf⟩ := far (c := 1) (x := x) (e := e) (by omega) wk ht
    rw [plug4]
    intro hm
    rcases List.mem_append.mp hm with hm | hm
    · rcases List.mem_append.mp hm with hm | hm
      · have := s.one (by omega) (ins_all okl (by omega) (by omega) t hm); omega
      · exact ih okr (by omega) (by omega) (by omega) f3 ht hm
    · exact nf _ _ (List.mem_singleton.mp hm)
theorem hp_eq {hs : List Key → Key} {k1 k2 : List Key} : hpF hs k1 k2 k2 = hs k1 := by unfold hpF; rw [if_pos rfl]
theorem hp_ne {hs : List Key → Key} {k1 k2 t : List Key} (h : t ≠ k2) : hpF hs k1 k2 t = hs t := by unfold hpF; rw [if_neg h]
structure Pair (b lo hi d g : Int) (p q r : Part) (w : List Int) (hs : List Key → Key) : Prop where
 b60 : b ≤ 60
 b1 : 1 ≤ b
 way : ∃ q0, Way p 0 0 w q0 d g
 okp : okPart b lo hi 0 0 p
 okq : okPart b lo hi d g q
 okr : okPart b lo hi d g r
 cq : isCutP q = false
 cr : isCutP r = false
 inj : ∀ x y, hs x = hs y → x = y
 nin : q = r ∨ ownP hs r ∉ termsP hs q
section
variable {b lo hi d g : Int} {p q r : Part} {w : List Int} {hs : List Key → Key}
theorem Pair.same (k : Pair b lo hi d g p q r w hs) (e : q = r) (t : List Key) : hpF hs (ownP hs q) (ownP hs r) t = hs t := by
 subst e
 unfold hpF
 split
 · rename_i z; rw [z]
 · rfl
theorem Pair.terms (k : Pair b lo hi d g p q r w hs) : (termsP (hpF hs (ownP hs q) (ownP hs r)) q = termsP hs q ∧ ownP (hpF hs (ownP hs q) (ownP hs r)) q = ownP hs q ∧ markP (hpF hs (ownP hs q) (ownP hs r)) q = hs (ownP hs q)) ∧ termsP (hpF hs (ownP hs q) (ownP hs r)) r = termsP hs r ∧ ownP (hpF hs (ownP hs q) (ownP hs r)) r = ownP hs r ∧ markP (hpF hs (ownP hs q) (ownP hs r)) r = hs (ownP hs q) := by
 have kq : ∀ t ∈ termsP hs q, hpF hs (ownP hs q) (ownP hs r) t = hs t := fun t ht => by
  rcases k.nin with e | n
  · exact k.same e t
  · exact hp_ne fun z => n (z ▸ ht)
 obtain ⟨a1, a2, a3⟩ := terms_same kq
 have no : ∀ e x l r', r = .fork e x l r' → ownP hs r ∉ termsP hs l ∧ ownP hs r ∉ termsP hs r' := fun e x l r' er => by
  have ok := k.okr
  subst er
  obtain ⟨_, h1, he, _, _, _, okl, okr⟩ := ok
  have e5 : rank (ownP hs (.fork e x l r')) = e := rank5 _ _ _ _
  refine ⟨fun z => ?_, fun z => ?_⟩
  · have := rank_low k.b60 okl (by omega) _ z; omega
  · have := rank_low k.b60 okr (by omega) _ z; omega
 obtain ⟨c1, c2⟩ := terms_upto (h' := hpF hs (ownP hs q) (ownP hs r)) k.cr (fun t ht n => hp_ne n) no
 refine ⟨⟨a1, a2, by rw [a3, mark_own hs k.cq]⟩, c1, c2, ?_⟩
 rw [mark_own _ k.cr, c2, hp_eq]
theorem Pair.marks (k : Pair b lo hi d g p q r w hs) : markP (hpF hs (ownP hs q) (ownP hs r)) (plug p w q) = markP (hpF hs (ownP hs q) (ownP hs r)) (plug p w r) := by
 obtain ⟨q0, wy⟩ := k.way
 exact wy.mark (by rw [k.terms.1.2.2, k.terms.2.2.2])
theorem Pair.due (k : Pair b lo hi d g p q r w hs) {u : Option (List Key × List Key)} (h : IsDue (hpF hs (ownP hs q) (ownP hs r)) (termsP (hpF hs (ownP hs q) (ownP hs r)) (plug p w q) ++ termsP (hpF hs (ownP hs q) (ownP hs r)) (plug p w r)) u) : (q = r → u = none) ∧ (q ≠ r → u = some (ownP hs q, ownP hs r)) := by
  obtain ⟨⟨a1, a2, a3⟩, c1, c2, c3⟩ := k.terms
  refine ⟨fun e => ?_, fun ne => ?_⟩
  · cases u with
    | none => rfl
    | some u =>
      obtain ⟨_, _, _, _, _, h3, h4, _⟩ := h
      rw [k.same e, k.same e] at h4
      exact (h3 (k.inj _ _ h4)).elim
  · have nm := k.nin.resolve_left ne
    obtain ⟨q0, wy⟩ := k.way
    have okd := wy.ok k.okp (by decide) (by have := k.b1; omega) (by decide) (by decide)
    have is : InS b d g (ownP hs r) := ins_all k.okr okd.le okd.db _ (own_mem hs k.cr)
    have m1 : ownP hs q ∈ termsP (hpF hs (ownP hs q) (ownP hs r)) (plug p w q) := by have := wy.own (h := hpF hs (ownP hs q) (ownP hs r)) k.cq; rw [a2] at this; exact this
    have m2 : ownP hs r ∈ termsP (hpF hs (ownP hs q) (ownP hs r)) (plug p w r) := by have := wy.own (h := hpF hs (ownP hs q) (ownP hs r)) k.cr; rw [c2] at this; exact this
    have m3 : ownP hs r ∉ termsP (hpF hs (ownP hs q) (ownP hs r)) (plug p w q) := wy.notin k.okp (by decide) (by have := k.b1; omega) (by decide) (by decide) is (by rw [a1]; exact nm)
    generalize termsP (hpF hs (ownP hs q) (ownP hs r)) (plug p w q) = T1 at h m1 m3
    generalize termsP (hpF hs (ownP hs q) (ownP hs r)) (plug p w r) = T2 at h m2
    have n12 : ownP hs q ≠ ownP hs r := fun z => m3 (z ▸ m1)
    generalize ownP hs q = k1 at *
    generalize ownP hs r = k2 at *
    obtain ⟨j0, hj0⟩ := List.getElem?_of_mem m1
    obtain ⟨i0, hi0⟩ := List.getElem?_of_mem m2
    have lj : j0 < T1.length := (List.getElem?_eq_some_iff.mp hj0).1
    have gj : (T1 ++ T2)[j0]? = some k1 := by rw [List.getElem?_append_left lj]; exact hj0
    have gi : (T1 ++ T2)[T1.length + i0]? = some k2 := by rw [List.getElem?_append_right (by omega)]; simpa using hi0
    have e12 : hpF hs k1 k2 k1 = hpF hs k1 k2 k2 := by rw [hp_ne n12, hp_eq]
    cases u with
    | none => exact (n12 (h _ _ _ _ (by omega) gj gi e12)).elim
    | some u =>
      obtain ⟨j, i, ji, hj, hi, h3, h4, h5, _⟩ := h
      obtain ⟨a, c⟩ := u
      have hj : (T1 ++ T2)[j]? = some a := hj
      have hi : (T1 ++ T2)[i]? = some c := hi
      have h3 : a ≠ c := h3
      have h4 : hpF hs k1 k2 a = hpF hs k1 k2 c := h4
      by_cases hc : c = k2
      · subst hc
        rw [hp_eq, hp_ne h3] at h4
        rw [k.inj _ _ h4]
      · rw [hp_ne hc] at h4
        by_cases ha : a = k2
        · subst ha
          rw [hp_eq] at h4
          have hck := k.inj _ _ h4
          have lj2 : T1.length ≤ j := by
            rcases Nat.lt_or_ge j T1.length with z | z
            · rw [List.getElem?_append_left z] at hj
              exact (m3 (List.mem_of_getElem? hj)).elim
            · exact z
          exact (n12 (h5 j0 j _ _ (by omega) ji gj hj e12)).elim
        · rw [hp_ne ha] at h4
          exact (h3 (k.inj _ _ h4)).elim
end
end Rs
namespace Rs
open PySem PySem.Spec PyProof.Rows L2
variable {K : PySem.W.Frag} {mg : Str → Option Value} {A : Adr}
theorem SpotAt.keep {H H' : Hp} {p : Part} {d g : Int} {w : List Int} {r : Addr} (h : SpotAt H p d g w r) (S : ∀ b xs, H b = some (.tup xs) → H' b = some (.tup xs)) : SpotAt H' p d g w r := by
 obtain ⟨d', g', u, q, P, h1, h2, h3⟩ := h
 exact ⟨d', g', u, q, P, S _ _ h1, S _ _ h2, h3⟩
theorem SpotAt.left {H : Hp} {e x d g : Int} {l r : Part} {w : List Int} {a : Addr} (h : SpotAt H l (e + 1) (2 * x) (w ++ [3]) a) : SpotAt H (.fork e x l r) d g w a := by
 obtain ⟨d', g', u, q, P, h1, h2, h3⟩ := h
 refine ⟨d', g', 3 :: u, q, P, h1, ?_, .left h3⟩
 rw [h2, List.append_assoc]; rfl
theorem SpotAt.right {H : Hp} {e x d g : Int} {l r : Part} {w : List Int} {a : Addr} (h : SpotAt H r (e + 1) (2 * x + 1) (w ++ [4]) a) : SpotAt H (.fork e x l r) d g w a := by
 obtain ⟨d', g', u, q, P, h1, h2, h3⟩ := h
 refine ⟨d', g', 4 :: u, q, P, h1, ?_, .right h3⟩
 rw [h2, List.append_assoc]; rfl
theorem len_19 (K : PySem.W.Frag) (A : Adr) (n : Nat) : ∀ vs H Q E, sp_19 K A n vs H Q E → vs.length = 4 := by rintro vs H Q E ⟨_, _, _, _, _, _, rfl, _⟩; rfl
theorem no_19 (K : PySem.W.Frag) (A : Adr) : ∀ vs H Q E, sp_19 K A 0 vs H Q E → False := by rintro vs H Q E ⟨_, _, _, _, _, _, _, _, h, _⟩; omega
theorem rd_19 (T : Txt K mg A) (n : Nat) (vs : List V) (H : Hp) (Q : VK) (E : XK) (h : sp_19 K A (n + 1) vs H Q E) : T_19 K A n { nx := fun _ H' => Q .non H', rt := Q } (L2.start ["_law_part_here", "_law_depth", "_law_begin_here", "_law_path", "_law_found"] vs) H := by
  obtain ⟨v, p, d, g, P, w, rfl, wd, htl, hP, hw, hf, q⟩ := h
  refine ⟨by show 3 ≤ sizeLine; decide, fun r hr => ⟨by show 1 ≤ sizeLine; decide, fun M hM => ?_⟩⟩
  have S1 := Same.upd (o := .tup [V.int d, V.int g, V.ref P]) hr
  have S2 := S1.trans (Same.upd (o := .lst [V.ref r]) hM)
  have hMn := none_back S1 hM
  have hr2 : upd (upd H r (.tup [V.int d, V.int g, V.ref P])) M (.lst [V.ref r]) r = some (.tup [V.int d, V.int g, V.ref P]) := Same.upd (o := .lst [V.ref r]) hM _ _ upd_same
  have hM2 : upd (upd H r (.tup [V.int d, V.int g, V.ref P])) M (.lst [V.ref r]) M = some (.lst [V.ref r]) := upd_same
  generalize upd (upd H r (.tup [V.int d, V.int g, V.ref P])) M (.lst [V.ref r]) = H2 at S2 hr2 hM2 ⊢
  have wd2 := wd.mono S2
  have hP2 := S2 _ _ hP
  have self : SpotAt H2 p d g w r := ⟨d, g, [], p, P, hr2, by rw [List.append_nil]; exact hP2, .nil _ _ _⟩
  have one : isForkP p = false → Q (.ref M) H2 := fun hk => q M r [] H2 S2 hMn hM2 (by cases p <;> first | rfl | cases hk) hr2 fun r' hr' => by rw [List.mem_singleton.mp hr']; exact self
  obtain ⟨_, ⟨f1, f2, f3, f4⟩, _⟩ := words3
  cases p with
  | cut m =>
    obtain ⟨a, rfl, ha⟩ := at_cut wd2
    exact ixT (j := 0) ha rfl rfl (Sel.no f1 (one rfl))
  | bare =>
    obtain ⟨a, rfl, ha⟩ := at_bare wd2
    exact ixT (j := 0) ha rfl rfl (Sel.no f2 (one rfl))
  | leaf k z =>
    obtain ⟨a, rfl, ha⟩ := at_leaf wd2
    exact ixT (j := 0) ha rfl rfl (Sel.no f3 (one rfl))
  | fork e x pl pr =>
    obtain ⟨a, vl, vr, rfl, ha, wl, wr⟩ := at_fork wd2
    have htl' : max (tall pl) (tall pr) + 1 < n + 1 := htl
    have hw' : w.length + (max (tall pl) (tall pr) + 1) ≤ 100 := hw
    have hf' : forks pl + forks pr + 1 ≤ 70 := hf
    refine ixT (j := 0) ha rfl rfl (Sel.yes f4 ?_)
    refine ixT (j := 3) ha rfl rfl (ixT (j := 1) ha rfl rfl (ixT (j := 2) ha rfl rfl ⟨IntMulOk.of_left (by decide), ?_⟩))
    refine ⟨by show 1 ≤ sizeLine; decide, fun t3 h3 => .inr ⟨P, t3, _, _, rfl, rfl, Same.upd h3 _ _ hP2, upd_same, line_ge (by rw [List.length_map]; show w.length + 1 ≤ _; omega), fun P3 H3 S3 hP3 => ?_⟩⟩
    have S3 := (Same.upd (o := .tup [V.int 3]) h3).trans S3
    have hP3 : H3 P3 = some (.tup ((w ++ [3]).map V.int)) := by rw [hP3, List.map_append]; rfl
    refine ⟨vl, pl, e + 1, 2 * x, P3, w ++ [3], rfl, wl.mono S3, by omega, hP3, by rw [List.length_append]; show w.length + 1 + _ ≤ 100; omega, by omega, fun M1 r1 rs1 H4 S4 hM1n hM1 len1 hr1 all1 => ?_⟩
    have S24 := S3.trans S4
    refine .inl ⟨M, M1, _, _, rfl, rfl, S24 _ _ hM2, hM1, line_ge (by simp only [List.length_map, List.length_cons, List.length_nil]; omega), fun M5 h5 => ?_⟩
    have S5 := Same.upd (o := .lst ([V.ref r] ++ (r1 :: rs1).map V.ref)) h5
    have S25 := S24.trans S5
    have hM5 : upd H4 M5 (.lst ([V.ref r] ++ (r1 :: rs1).map V.ref)) M5 = some (.lst ((r :: r1 :: rs1).map V.ref)) := upd_same
    have all1' : ∀ r' ∈ r1 :: rs1, SpotAt (upd H4 M5 (.lst ([V.ref r] ++ (r1 :: rs1).map V.ref))) pl (e + 1) (2 * x) (w ++ [3]) r' := fun r' h' => (all1 r' h').keep fun _ _ z => S5 _ _ z
    generalize upd H4 M5 (.lst ([V.ref r] ++ (r1 :: rs1).map V.ref)) = H5 at S5 S25 hM5 all1' ⊢
    have ha5 := S25 _ _ ha
    refine ixT (j := 4) ha5 rfl rfl (ixT (j := 1) ha5 rfl rfl (ixT (j := 2) ha5 rfl rfl ⟨IntMulOk.of_left (by decide), ?_⟩))
    refine ⟨by show 1 ≤ sizeLine; decide, fun t6 h6 => .inr ⟨P, t6, _, _, rfl, rfl, Same.upd h6 _ _ (S25 _ _ hP2), upd_same, line_ge (by rw [List.length_map]; show w.length + 1 ≤ _; omega), fun P6 H6 S6 hP6 => ?_⟩⟩
    have S6 := (Same.upd (o := .tup [V.int 4]) h6).trans S6
    have hP6 : H6 P6 = some (.tup ((w ++ [4]).map V.int)) := by rw [hP6, List.map_append]; rfl
    refine ⟨vr, pr, e + 1, 2 * x + 1, P6, w ++ [4], rfl, wr.mono (S25.trans S6), by omega, hP6, by rw [List.length_append]; show w.length + 1 + _ ≤ 100; omega, by omega, fun M7 r7 rs7 H7 S7 hM7n hM7 len7 hr7 all7 => ?_⟩
    have S57 := S6.trans S7
    refine .inl ⟨M5, M7, _, _, rfl, rfl, S57 _ _ hM5, hM7, line_ge (by simp only [List.length_map, List.length_cons, List.length_nil]; omega), fun M8 h8 => ?_⟩
    have S8 := Same.upd (o := .lst ((r :: r1 :: rs1).map V.ref ++ (r7 :: rs7).map V.ref)) h8
    have S28 := S25.trans (S57.trans S8)
    refine q M8 r (r1 :: rs1 ++ r7 :: rs7) _ (S2.trans S28) (none_back (S2.trans (S25.trans S57)) h8) ?_ ?_ (S28 _ _ hr2) fun r' h' => ?_
    · rw [upd_same, ← List.map_append]; rfl
    · show _ = 2 * (forks pl + forks pr + 1)
      simp only [List.length_append, List.length_cons]
      omega
    · rcases List.mem_cons.mp h' with z | z
      · rw [z]; exact self.keep fun _ _ y => S28 _ _ y
      · rcases List.mem_append.mp z with z | z
        · exact ((all1' r' z).keep fun _ _ y => (S57.trans S8) _ _ y).left
        · exact ((all7 r' z).keep fun _ _ y => S8 _ _ y).right
end Rs
namespace Rs
open PySem PySem.Spec PyProof.Rows L2
variable {K : PySem.W.Frag} {mg : Str → Option Value} {A : Adr}
theorem len_15 (K : PySem.W.Frag) (A : Adr) : ∀ vs H Q E, sp_15 K A vs H Q E → vs.length = 2 := by rintro vs H Q E ⟨_, _, _, _, _, _, _, _, _, rfl, _⟩; rfl
theorem rd_15 (T : Txt K mg A) (vs : List V) (H : Hp) (Q : VK) (E : XK) (h : sp_15 K A vs H Q E) : T_15 K A { nx := fun _ H' => Q .non H', rt := Q } (L2.start ["_law_part_here", "_law_path", "_law_at_here"] vs) H := by
  obtain ⟨v, p, q, D, G, d, g, P, w, rfl, wd, hP, wy, hq⟩ := h
  refine ⟨P, rfl, .inr ⟨⟨_, SqT.of hP⟩, ?_⟩⟩
  refine for_by (Items.tuple (xs := w.map V.int) .non) (fun i σ H' => H' = H ∧ ∃ u pi D' G' x2, σ = [some u, some (.ref P), x2] ∧ DatW H u (partD pi) ∧ Way pi D' G' (w.drop i) q d g) ⟨rfl, v, p, D, G, none, rfl, wd, wy⟩ ?_ ?_ ?_
  · rintro i σ _ _ ⟨rfl, _⟩; exact SqT.of hP
  · rintro i σ _ hi ⟨rfl, u, pi, D', G', x2, rfl, wu, wyi⟩
    have hi : i < w.length := by simpa using hi
    have hd : w.drop i = w[i] :: w.drop (i + 1) := List.drop_eq_getElem_cons hi
    have gi : (w.map V.int).getD i .non = .int w[i] := by rw [List.getD_eq_getElem?_getD, List.getElem?_map, List.getElem?_eq_getElem hi]; rfl
    rw [gi]
    rw [hd] at wyi
    generalize w[i] = c at wyi ⊢
    cases wyi with
    | left k =>
      obtain ⟨a, vl, vr, rfl, ha, wl, wr⟩ := at_fork wu
      exact ixT (j := 3) ha rfl rfl ⟨rfl, vl, _, _, _, _, rfl, wl, k⟩
    | right k =>
      obtain ⟨a, vl, vr, rfl, ha, wl, wr⟩ := at_fork wu
      exact ixT (j := 4) ha rfl rfl ⟨rfl, vr, _, _, _, _, rfl, wr, k⟩
  · rintro σ _ ⟨rfl, u, pi, D', G', x2, rfl, wu, wyi⟩
    rw [List.length_map, List.drop_length] at wyi
    cases wyi
    exact hq u wu
theorem len_25 (K : PySem.W.Frag) (A : Adr) (n : Nat) : ∀ vs H Q E, sp_25 K A n vs H Q E → vs.length = 3 := by rintro vs H Q E ⟨_, _, _, _, _, _, _, _, _, _, _, rfl, _⟩; rfl
theorem no_25 (K : PySem.W.Frag) (A : Adr) : ∀ vs H Q E, sp_25 K A 0 vs H Q E → False := by rintro vs H Q E ⟨_, _, _, _, _, _, _, _, _, _, _, _, _, _, _, _, h, _⟩; omega
theorem map_inl (w : List Int) : w.map V.int = (w.map Sum.inl : List Key).map kV := by rw [List.map_map]; rfl
theorem cut_front (xs : List V) (j : Nat) (hj : j ≤ xs.length) : cutV xs none (some (j : Int)) = xs.take j := by
 unfold cutV
 rw [HT.sIx_nat, HT.sIx_none, List.drop_zero, Nat.sub_zero, Nat.min_eq_left hj]
theorem cut_back (xs : List V) (j : Nat) (hj : j ≤ xs.length) : cutV xs (some (j : Int)) none = xs.drop j := by
 unfold cutV
 rw [HT.sIx_nat, HT.sIx_none, Nat.min_eq_left hj, List.take_of_length_le (by rw [List.length_drop]; omega)]
theorem rd_25 (T : Txt K mg A) (n : Nat) (vs : List V) (H : Hp) (Q : VK) (E : XK) (h : sp_25 K A (n + 1) vs H Q E) : T_25 K A n { nx := fun _ H' => Q .non H', rt := Q } (L2.start ["_law_part_here", "_law_path", "_law_new", "_law_at_here"] vs) H := by
  obtain ⟨v, u, p, q, q', D, G, d, g, P, w, rfl, wd, hP, wy, wu, hn, hl, hq⟩ := h
  refine ⟨by show 0 ≤ sizeLine; decide, fun t0 h0 => ?_⟩
  have S0 := Same.upd (o := .tup []) h0
  have hP0 := S0 _ _ hP
  rw [map_inl] at hP0
  refine eqTC_keys (l := []) hP0 upd_same ?_
  have ht0 : upd H t0 (.tup []) t0 = some (.tup ([] : List V)) := upd_same
  generalize upd H t0 (.tup []) = H0 at S0 hP0 ht0 ⊢
  rw [← map_inl] at hP0
  have wd0 := wd.mono S0
  have wu0 := wu.mono S0
  cases wy with
  | nil =>
    exact Sel.yes rfl (hq u H0 S0 (by rw [plug0]; exact wu0))
  | @left e x _ _ _ _ l r _ w k =>
    refine Sel.no rfl (ixT (j := 0) hP0 rfl rfl ?_)
    obtain ⟨a, vl, vr, rfl, ha, wl, wr⟩ := at_fork wd0
    have hn' : w.length + 1 < n + 1 := hn
    have hl' : w.length + 1 ≤ 100 := hl
    refine ⟨3, rfl, .inl (.inr ⟨a, _, rfl, ha, fun p1 H1 S1 hp1 => ?_⟩)⟩
    refine ixT (j := 3) (S1 _ _ ha) rfl rfl ⟨1, rfl, .inl (.inr ⟨P, _, rfl, S1 _ _ hP0, fun p2 H2 S2 hp2 => ?_⟩)⟩
    have hp2 : H2 p2 = some (.tup (w.map V.int)) := by rw [hp2]; exact congrArg (fun z => some (HO.tup z)) (cut_back _ 1 (by simp))
    have S12 := S1.trans S2
    refine ⟨vl, u, l, q, q', _, _, d, g, p2, w, rfl, wl.mono S12, hp2, k, wu0.mono S12, by omega, by omega, fun y H3 S3 wy3 => ?_⟩
    have S13 := S12.trans S3
    refine ⟨by show 1 ≤ sizeLine; decide, fun t4 h4 => ?_⟩
    have S4 := Same.upd (o := .tup [y]) h4
    have hp14 : upd H3 t4 (.tup [y]) p1 = some (.tup [.str "fork", .int e, .int x]) := (S4 _ _ (S3 _ _ (S2 _ _ hp1))).trans (congrArg (fun z => some (HO.tup z)) (cut_front _ 3 (by simp)))
    refine .inr ⟨p1, t4, _, _, rfl, rfl, hp14, upd_same, line_ge (n := 4) (by decide), fun p5 H5 S5 hp5 => ?_⟩
    have S15 := (S13.trans S4).trans S5
    refine ⟨3 + 1, rfl, .inl (.inr ⟨a, _, rfl, S15 _ _ ha, fun p6 H6 S6 hp6 => ?_⟩)⟩
    have hp6 : H6 p6 = some (.tup [vr]) := hp6.trans (congrArg (fun z => some (HO.tup z)) (cut_back _ 4 (by simp)))
    refine .inr ⟨p5, p6, _, _, rfl, rfl, S6 _ _ hp5, hp6, line_ge (n := 5) (by decide), fun p7 H7 S7 hp7 => ?_⟩
    have S17 := (S15.trans S6).trans S7
    refine hq (.ref p7) H7 (S0.trans S17) ?_
    rw [plug3]
    exact .tup hp7 (.cons (.str _) (.cons (.int _) (.cons (.int _) (.cons (wy3.mono (((S4.trans S5).trans S6).trans S7)) (.cons (wr.mono S17) .nil)))))
  | @right e x _ _ _ _ l r _ w k =>
    refine Sel.no rfl (ixT (j := 0) hP0 rfl rfl ?_)
    obtain ⟨a, vl, vr, rfl, ha, wl, wr⟩ := at_fork wd0
    have hn' : w.length + 1 < n + 1 := hn
    have hl' : w.length + 1 ≤ 100 := hl
    refine ⟨4, rfl, .inl (.inr ⟨a, _, rfl, ha, fun p1 H1 S1 hp1 => ?_⟩)⟩
    refine ixT (j := 4) (S1 _ _ ha) rfl rfl ⟨1, rfl, .inl (.inr ⟨P, _, rfl, S1 _ _ hP0, fun p2 H2 S2 hp2 => ?_⟩)⟩
    have hp2 : H2 p2 = some (.tup (w.map V.int)) := by rw [hp2]; exact congrArg (fun z => some (HO.tup z)) (cut_back _ 1 (by simp))
    have S12 := S1.trans S2
    refine ⟨vr, u, r, q, q', _, _, d, g, p2, w, rfl, wr.mono S12, hp2, k, wu0.mono S12, by omega, by omega, fun y H3 S3 wy3 => ?_⟩
    have S13 := S12.trans S3
    refine ⟨by show 1 ≤ sizeLine; decide, fun t4 h4 => ?_⟩
    have S4 := Same.upd (o := .tup [y]) h4
    have hp14 : upd H3 t4 (.tup [y]) p1 = some (.tup [.str "fork", .int e, .int x, vl]) := (S4 _ _ (S3 _ _ (S2 _ _ hp1))).trans (congrArg (fun z => some (HO.tup z)) (cut_front _ 4 (by simp)))
    refine .inr ⟨p1, t4, _, _, rfl, rfl, hp14, upd_same, line_ge (n := 5) (by decide), fun p5 H5 S5 hp5 => ?_⟩
    have S15 := (S13.trans S4).trans S5
    refine ⟨4 + 1, rfl, .inl (.inr ⟨a, _, rfl, S15 _ _ ha, fun p6 H6 S6 hp6 => ?_⟩)⟩
    have hp6 : H6 p6 = some (.tup []) := hp6.trans (congrArg (fun z => some (HO.tup z)) (cut_back _ 5 (by simp)))
    refine .inr ⟨p5, p6, _, _, rfl, rfl, S6 _ _ hp5, hp6, line_ge (n := 5) (by decide), fun p7 H7 S7 hp7 => ?_⟩
    have S17 := (S15.trans S6).trans S7
    refine hq (.ref p7) H7 (S0.trans S17) ?_
    rw [plug4]
    exact .tup hp7 (.cons (.str _) (.cons (.int _) (.cons (.int _) (.cons (wl.mono S17) (.cons (wy3.mono (((S4.trans S5).trans S6).trans S7)) .nil)))))
theorem pt_row {H : Hp} {ps : List Addr} {ts : List (Int × Str)} (h : PR H ps ts) : PT H ps (ts.map rowT) := by
 induction h with
 | nil => exact .nil
 | cons r t ih => exact .cons ⟨r, by show 2 ≤ 8; decide⟩ ih
theorem len_6 (K : PySem.W.Frag) (A : Adr) : ∀ vs H Q E, sp_6 K A vs H Q E → vs.length = 5 := by rintro vs H Q E ⟨_, _, _, _, _, _, _, _, _, _, rfl, _⟩; rfl
theorem rd_6 (T : Txt K mg A) (vs : List V) (H : Hp) (Q : VK) (E : XK) (h : sp_6 K A vs H Q E) : T_6 K A { nx := fun _ H' => Q .non H', rt := Q } (L2.start ["_law_stamper", "_law_bits_here", "_law_ends", "_law_mark_here", "_law_paper_here", "_law_told"] vs) H := by
 obtain ⟨f, t, b, lo, hi, v, p, x, g, n, rfl, ht, w, sp, hn, hx, q⟩ := h
 have hf := w.f
 have htl := w.t
 refine ixT (j := 0) ht rfl rfl (ixT (j := 1) ht rfl rfl ⟨f, b, lo, hi, v, p, g, n, rfl, w, sp, by omega, fun y g1 H1 kt1 sp1 sub1 ey => ?_⟩)
 have exy : y = x := by
  obtain ⟨h, he, hh⟩ := hx g1 H1 _ sp1 sub1
  rw [ey h he, ← hh]
 subst exy
 refine ⟨y, rfl, Sel.no rfl ?_⟩
 have ht1 := kt1.tup _ _ ht
 refine ixT (j := 0) ht1 rfl rfl (ixT (j := 1) ht1 rfl rfl ⟨f, b, lo, hi, v, p, g1, n + 201, y, rfl, w.mono kt1.tup, sp1, by omega, ey, fun M rs g2 H2 kt2 sp2 sub2 nlM hM prM => ?_⟩)
 have ktB := kt1.trans kt2
 have ht2 := ktB.tup _ _ ht
 refine ixT (j := 0) ht2 rfl rfl (ixT (j := 1) ht2 rfl rfl ⟨v, p, lo, hi, rfl, (w.mono ktB.tup).w.w, htl, hf, fun M2 rs2 H3 s3 nM2 hM2 pr2 => ?_⟩)
 have ll : ((leavesP p).filter (inI lo hi)).length ≤ 1000 := Nat.le_trans (List.length_filter_le _ _) (by have := leaves_len p; omega)
 exact ⟨M, M2, rs, rs2, ((leavesP p).filter (inI lo hi)).map rowT, rfl, s3 _ _ hM, hM2, pt_row (pr_keep (fun c xs e => s3 _ _ e) prM), pt_row pr2, by rw [List.length_map]; exact ll, q g2 H3 (ktB.trans (KeepT.same s3)) (sp2.same (by omega) s3) (sub1.trans sub2)⟩
end Rs
namespace Rs
open PySem PySem.Spec PyProof.Rows L2
theorem eqv_key (a c : Key) : (toPy (datK a)).eqv (toPy (datK c)) = true ↔ a = c := by
 rw [toPy_key, toPy_key]
 have := eqvAll_keys [a] [c]
 have e : PyData.eqvAll ([a].map dKey) ([c].map dKey) = ((dKey a).eqv (dKey c) && true) := rfl
 rw [e, Bool.and_true] at this
 rw [this, decide_eq_true_eq]
 exact ⟨fun z => (List.cons.inj z).1, fun z => by rw [z]⟩
theorem eqv_part : ∀ p q : Part, (toPy (partD p)).eqv (toPy (partD q)) = true ↔ p = q := by
  have n1 : (PyData.str "cut").eqv (.str "bare") = false ∧ (PyData.str "cut").eqv (.str "leaf") = false ∧ (PyData.str "cut").eqv (.str "fork") = false ∧ (PyData.str "bare").eqv (.str "cut") = false ∧ (PyData.str "bare").eqv (.str "leaf") = false ∧ (PyData.str "bare").eqv (.str "fork") = false ∧ (PyData.str "leaf").eqv (.str "cut") = false ∧ (PyData.str "leaf").eqv (.str "bare") = false ∧ (PyData.str "leaf").eqv (.str "fork") = false ∧ (PyData.str "fork").eqv (.str "cut") = false ∧ (PyData.str "fork").eqv (.str "bare") = false ∧ (PyData.str "fork").eqv (.str "leaf") = false := by decide +kernel
  have n2 : (PyData.str "cut").eqv (.str "cut") = true ∧ (PyData.str "bare").eqv (.str "bare") = true ∧ (PyData.str "leaf").eqv (.str "leaf") = true ∧ (PyData.str "fork").eqv (.str "fork") = true := by decide +kernel
  obtain ⟨a1, a2, a3, a4, a5, a6, a7, a8, a9, a10, a11, a12⟩ := n1
  obtain ⟨c1, c2, c3, c4⟩ := n2
  have no : ∀ {x y : PyData} {xs ys : List PyData} {p q : Part}, x.eqv y = false → p ≠ q → (PyData.tuple (x :: xs)).eqv (.tuple (y :: ys)) = true → p = q := fun {x y xs ys p q} h _ k => by
    have k : (x.eqv y && PyData.eqvAll xs ys) = true := k
    rw [h, Bool.false_and] at k; cases k
  intro p
  induction p with
  | cut m =>
    intro q
    cases q with
    | cut m' =>
      show ((PyData.str "cut").eqv (.str "cut") && ((toPy (datK m)).eqv (toPy (datK m')) && true)) = true ↔ _
      rw [c1, Bool.true_and, Bool.and_true, eqv_key]
      exact ⟨fun z => by rw [z], fun z => Part.cut.inj z⟩
    | bare => exact ⟨no a1 (by intro z; cases z), fun z => by cases z⟩
    | leaf k z => exact ⟨no a2 (by intro z; cases z), fun z => by cases z⟩
    | fork d b l r => exact ⟨no a3 (by intro z; cases z), fun z => by cases z⟩
  | bare =>
    intro q
    cases q with
    | bare => exact ⟨fun _ => rfl, fun _ => by show ((PyData.str "bare").eqv (.str "bare") && true) = true; rw [c2]; rfl⟩
    | cut m => exact ⟨no a4 (by intro z; cases z), fun z => by cases z⟩
    | leaf k z => exact ⟨no a5 (by intro z; cases z), fun z => by cases z⟩
    | fork d b l r => exact ⟨no a6 (by intro z; cases z), fun z => by cases z⟩
  | leaf k z =>
    intro q
    cases q with
    | leaf k' z' =>
      show ((PyData.str "leaf").eqv (.str "leaf") && ((k == k') && ((z == z') && true))) = true ↔ _
      rw [c3, Bool.true_and, Bool.and_true, Bool.and_eq_true, beq_iff_eq, beq_iff_eq]
      exact ⟨fun h => by rw [h.1, h.2], fun h => ⟨(Part.leaf.inj h).1, (Part.leaf.inj h).2⟩⟩
    | cut m => exact ⟨no a7 (by intro z; cases z), fun z => by cases z⟩
    | bare => exact ⟨no a8 (by intro z; cases z), fun z => by cases z⟩
    | fork d b l r => exact ⟨no a9 (by intro z; cases z), fun z => by cases z⟩
  | fork d b l r hl hr =>
    intro q
    cases q with
    | fork d' b' l' r' =>
      show ((PyData.str "fork").eqv (.str "fork") && ((d == d') && ((b == b') && ((toPy (partD l)).eqv (toPy (partD l')) && ((toPy (partD r)).eqv (toPy (partD r')) && true))))) = true ↔ _
      rw [c4, Bool.true_and, Bool.and_true, Bool.and_eq_true, Bool.and_eq_true, Bool.and_eq_true, beq_iff_eq, beq_iff_eq, hl, hr]
      exact ⟨fun ⟨h1, h2, h3, h4⟩ => by rw [h1, h2, h3, h4], fun h => Part.fork.inj h⟩
    | cut m => exact ⟨no a10 (by intro z; cases z), fun z => by cases z⟩
    | bare => exact ⟨no a11 (by intro z; cases z), fun z => by cases z⟩
    | leaf k z => exact ⟨no a12 (by intro z; cases z), fun z => by cases z⟩
theorem KeepR.rfl' {H : Hp} : KeepR H H := fun _ _ e _ _ => e
theorem KeepR.trans {H H1 H2 : Hp} (a : KeepR H H1) (b : KeepR H1 H2) : KeepR H H2 := fun x o e n m => b x o (a x o e n m) n m
theorem KeepR.of {H H' : Hp} (k : KeepT H H') : KeepR H H' := fun x o e _ m => k x o e m
theorem KeepR.ofP {H H' : Hp} {P : Addr} (hP : ∃ ps, H P = some (.tbl ps)) (k : KeepP P H H') : KeepR H H' := fun x o e n _ => k x o e fun z => by
 obtain ⟨ps, hP⟩ := hP
 subst z; rw [hP] at e; cases e; exact n _ rfl
theorem KeepR.tup {H H' : Hp} (k : KeepR H H') : ∀ b xs, H b = some (.tup xs) → H' b = some (.tup xs) := fun b xs e => k b _ e (fun _ z => nomatch z) (fun _ z => nomatch z)
theorem KeepR.lst {H H' : Hp} (k : KeepR H H') : ∀ b xs, H b = some (.lst xs) → H' b = some (.lst xs) := fun b xs e => k b _ e (fun _ z => nomatch z) (fun _ z => nomatch z)
theorem Tab1.keepT {P : Addr} {l c : Nat} {t : CloT} {H H' : Hp} (h : Tab1 P l c t H) (k : KeepT H H') : Tab1 P l c t H' := by
 obtain ⟨ps, h1, h2⟩ := h
 exact ⟨ps, k _ _ h1 (fun _ z => nomatch z), h2.imp id fun ⟨a, e, ha⟩ => ⟨a, e, k _ _ ha (fun _ z => nomatch z)⟩⟩
end Rs
namespace Rs
open PySem PySem.Spec PyProof.Rows L2
variable {K : PySem.W.Frag} {mg : Str → Option Value} {A : Adr}
theorem Stp.pl {H : Hp} {f : Addr} {a : SA} {k1 k2 : List Key} {g : SG} {n : Nat} (s : Stp A H f g n) (e : g.d = ⟨a, some (k1, k2)⟩) : ∃ kvs, g = ⟨⟨a, some (k1, k2)⟩, tabG kvs⟩ ∧ PlaAt H f a k1 k2 kvs n := by
  obtain ⟨d, g⟩ := g
  have e : d = ⟨a, some (k1, k2)⟩ := e
  subst e
  cases s with
  | sur kvs h ef ep hg => cases ep
  | pla x y kvs h ep hg =>
    cases ep
    have hg : g = tabG kvs := hg
    exact ⟨kvs, by rw [hg], h⟩
theorem Stp.su {H : Hp} {f : Addr} {a : SA} {g : SG} {n : Nat} (s : Stp A H f g n) (e : g.d = ⟨a, none⟩) : ∃ kvs, g = ⟨⟨a, none⟩, tabG kvs⟩ ∧ SurAt H a kvs n := by
  obtain ⟨d, g⟩ := g
  have e : d = ⟨a, none⟩ := e
  subst e
  cases s with
  | sur kvs h ef ep hg =>
    have hg : g = tabG kvs := hg
    exact ⟨kvs, by rw [hg], h⟩
  | pla x y kvs h ep hg => cases ep
structure Two (b lo hi d g : Int) (p q r : Part) (w : List Int) (kvs : List (List Key × Key)) (ts1 ts2 : List (List Key)) (k1 k2 : List Key) : Prop where
 en : Ends3 b lo hi
 way : Way p 0 0 w q d g ∨ Way p 0 0 w r d g
 okp : okPart b lo hi 0 0 p
 okq : okPart b lo hi d g q
 okr : okPart b lo hi d g r
 cq : isCutP q = false
 cr : isCutP r = false
 f1 : ∀ h, Ext0 (tabG kvs) h → ts1 = termsP h q ∧ k1 = ownP h q
 f2 : ∀ h, Ext0 (tabG kvs) h → ts2 = termsP h r ∧ k2 = ownP h r
 nin : q = r ∨ k2 ∉ ts1
 fp : forks p ≤ 60
 fq : forks q ≤ 60
 fr : forks r ≤ 60
 fs : forks (plug p w q) ≤ 70 ∧ forks (plug p w r) ≤ 70
section
variable {b lo hi d g : Int} {p q r : Part} {w : List Int} {kvs : List (List Key × Key)} {ts1 ts2 : List (List Key)} {k1 k2 : List Key} {a : SA} {f : Addr}
theorem Two.wy (k : Two b lo hi d g p q r w kvs ts1 ts2 k1 k2) : ∃ q0, Way p 0 0 w q0 d g := k.way.elim (fun h => ⟨_, h⟩) fun h => ⟨_, h⟩
theorem Two.pair (k : Two b lo hi d g p q r w kvs ts1 ts2 k1 k2) {kvs' : List (List Key × Key)} {j : Int} (s : Sub0 (tabG kvs) (tabG kvs')) (st : SureT j kvs') : Pair b lo hi d g p q r w (hsF kvs') ∧ ownP (hsF kvs') q = k1 ∧ ownP (hsF kvs') r = k2 := by
 have e1 := k.f1 _ ((hsF_ext kvs').of s)
 have e2 := k.f2 _ ((hsF_ext kvs').of s)
 exact ⟨⟨k.en.b60, k.en.b1, k.wy, k.okp, k.okq, k.okr, k.cq, k.cr, fun x y z => hsF_inj st z, k.nin.imp id fun n => by rw [← e2.2, ← e1.1]; exact n⟩, e1.2.symm, e2.2.symm⟩
theorem Two.mark (k : Two b lo hi d g p q r w kvs ts1 ts2 k1 k2) {G1 : Hp} {g0 : SG} {x : Key} (s0 : Sub0 (tabG kvs) g0.g) (e0 : g0.d = ⟨a, some (k1, k2)⟩) (hx : ∀ h, Ext g0 h → x = markP h (plug p w q)) :
  ∀ (g1 : SG) (H1 : Hp) (n1 : Nat), Stp A H1 f g1 n1 → Sub g0 g1 → (∃ h, Ext g1 h ∧ x = markP h (plug p w q)) ∧ ∃ h, Ext g1 h ∧ x = markP h (plug p w r) := by
 intro g1 H1 n1 sp sub
 obtain ⟨kvs1, rfl, pla⟩ := sp.pl (by rw [← sub.1]; exact e0)
 have hp : Ext ⟨⟨a, some (k1, k2)⟩, tabG kvs1⟩ (hpF (hsF kvs1) k1 k2) := hpF_ext (kvs := kvs1) (d := ⟨a, some (k1, k2)⟩) rfl
 have hm := hx _ (hp.of sub)
 obtain ⟨pr, o1, o2⟩ := k.pair (s0.trans sub.2) pla.su.st
 have := pr.marks
 rw [o1, o2] at this
 exact ⟨⟨_, hp, hm⟩, _, hp, by rw [hm, this]⟩
theorem Two.due (k : Two b lo hi d g p q r w kvs ts1 ts2 k1 k2) {kvs' : List (List Key × Key)} {j : Int} {u : Option (List Key × List Key)} (s : Sub0 (tabG kvs) (tabG kvs')) (st : SureT j kvs')
  (h : IsDue (hpF (hsF kvs') k1 k2) (termsP (hpF (hsF kvs') k1 k2) (plug p w q) ++ termsP (hpF (hsF kvs') k1 k2) (plug p w r)) u) : (q = r → u = none) ∧ (q ≠ r → u = some (k1, k2)) := by
 obtain ⟨pr, o1, o2⟩ := k.pair s st
 have := pr.due (u := u)
 rw [o1, o2] at this
 exact this h
theorem Two.paper (k : Two b lo hi d g p q r w kvs ts1 ts2 k1 k2) {H : Hp} {v : V} : (DatW H v (partD (plug p w q)) → PaperW H v b lo hi (plug p w q)) ∧ (DatW H v (partD (plug p w r)) → PaperW H v b lo hi (plug p w r)) := by
 have b1 := k.en.b1
 have b60 := k.en.b60
 obtain ⟨q0, wy⟩ := k.wy
 have mk : ∀ {s : Part}, okPart b lo hi 0 0 s → forks s ≤ 70 → DatW H v (partD s) → PaperW H v b lo hi s := fun {s} ok hf w => by
  have := tall_le ok (by omega)
  exact ⟨k.en, ⟨w, ok, by decide, by omega, by decide, by decide⟩, hf, by omega⟩
 exact ⟨mk (wy.part k.okp k.okq) k.fs.1, mk (wy.part k.okp k.okr) k.fs.2⟩
variable {Q : VK} {t P L1 L2 pc1 pc2 : Addr} {m : Int} {v y z u1 u2 : V} {qs1 qs2 : List Addr} {x : Key}
theorem pair11 {H : Hp} {vf : V} {u : Option (List Key × List Key)} {x14 : Option V} (k : Two b lo hi d g p q r w kvs ts1 ts2 k1 k2) (wy : DatW H y (partD q)) (wz : DatW H z (partD r)) (hL1 : H L1 = some (.lst ((qs1 ++ [pc1]).map V.ref))) (hL2 : H L2 = some (.lst ((qs2 ++ [pc2]).map V.ref))) (h1 : H pc1 = some (.tup (k1.map kV))) (h2 : H pc2 = some (.tup (k2.map kV)))
   (ret : RetDue H u vf) (due : (q = r → u = none) ∧ (q ≠ r → u = some (k1, k2))) (hQ : Q (.bl true) H) :
   R_11_11 K A { nx := fun _ H' => Q .non H', rt := Q } [some (.int b), some (.ref t), some v, some (.ref P), some y, some z, some (.int m), some (.ref a.f), some (.ref L1), some (.ref L2), some (.ref f), some u1, some u2, some (kV x), x14, some vf] H := by
 obtain ⟨q0, wy0⟩ := k.wy
 have okd := wy0.ok k.okp (by decide) (by have := k.en.b1; omega) (by decide) (by decide)
 have ok1 := okPart_d k.okq okd.db
 have ok2 := okPart_d k.okr okd.db
 have dp : (toPy (partD q)).depth ≤ 150 := by
   have h1 := part_deep q
   have h2 := tall_le k.okq okd.db
   have h3 := okd.le
   have h4 := k.en.b60
   omega
 obtain ⟨a1, _, _, rfl, _⟩ := at_head wy
 obtain ⟨a2, _, _, rfl, _⟩ := at_head wz
 refine .inr (.inl ⟨_, _, wy.toV ok1, wz.toV ok2, lay_toPy ok1, lay_toPy ok2, dp, ?_⟩)
 refine Sel.mk (fun eq => ?_) (fun ne => ?_)
 · have hr := due.1 ((eqv_part q r).mp eq)
   subst hr
   have hv : vf = .non := ret
   subst hv
   exact hQ
 · have hr := due.2 (fun z => by rw [(eqv_part q r).mpr z] at ne; cases ne)
   subst hr
   obtain ⟨pr, pa, pb, rfl, hpr, hpa, hpb, oka, okb⟩ := ret
   have ty : tyN H (.ref pr) = some "tuple" := by unfold tyN; dsimp only; rw [hpr]
   refine ⟨by decide, "tuple", ty, Sel.no rfl (.inl (.inr (.inl ⟨_, SqT.of hpr, Sel.no rfl ?_⟩)))⟩
   refine ixT (j := 0) hpr rfl rfl (ixLastL hL1 ⟨pa, pc1, k1, rfl, hpa, h1, (okT_len oka).2, Sel.t ?_⟩)
   exact ixT (j := 1) hpr rfl rfl (ixLastL hL2 ⟨pb, pc2, k2, rfl, hpb, h2, (okT_len okb).2, hQ⟩)
theorem pair9 {H3 H : Hp} {g0 : SG} {n : Nat} (k : Two b lo hi d g p q r w kvs ts1 ts2 k1 k2) (sp : Stp A H f g0 n) (e0 : g0.d = ⟨a, some (k1, k2)⟩) (s0 : Sub0 (tabG kvs) g0.g) (hn : n ≤ 5000) (ht : H t = some (.tup [.int lo, .int hi])) (wy : DatW H y (partD q)) (wz : DatW H z (partD r)) (w1 : DatW H u1 (partD (plug p w q))) (w2 : DatW H u2 (partD (plug p w r)))
  (hL1 : H L1 = some (.lst ((qs1 ++ [pc1]).map V.ref))) (hL2 : H L2 = some (.lst ((qs2 ++ [pc2]).map V.ref))) (h1 : H pc1 = some (.tup (k1.map kV))) (h2 : H pc2 = some (.tup (k2.map kV))) (kt : KeepT H3 H) (hQ : ∀ H', KeepT H3 H' → Q (.bl true) H') :
  R_11_9 K A { nx := fun _ H' => Q .non H', rt := Q } [some (.int b), some (.ref t), some v, some (.ref P), some y, some z, some (.int m), some (.ref a.f), some (.ref L1), some (.ref L2), some (.ref f), some u1, some u2, some (kV x), none, none] H := by
 have m1 := many_le (plug p w q)
 have m2 := many_le (plug p w r)
 obtain ⟨fs1, fs2⟩ := k.fs
 refine ixT (j := 0) ht rfl rfl (ixT (j := 1) ht rfl rfl ⟨f, b, lo, hi, u1, plug p w q, g0, n, rfl, k.paper.1 w1, sp, by omega, fun La psa tsa ga Ha kta spa suba nla hLa pka ea => ?_⟩)
 have hta := kta.tup _ _ ht
 have w2a := w2.keepT kta.tup (part_tup _)
 refine ixT (j := 0) hta rfl rfl (ixT (j := 1) hta rfl rfl ⟨f, b, lo, hi, u2, plug p w r, ga, n + 200, rfl, k.paper.2 w2a, spa, by omega, fun Lb psb tsb gb Hb ktb spb subb nlb hLb pkb eb => ?_⟩)
 have hLa' := ktb _ _ hLa fun _ z => nomatch z
 have pka' := pk_keep ktb.tup pka
 have la := pk_len pka
 have lb := pk_len pkb
 have ta : tsa.length ≤ 141 := by rw [ea _ (extT_ok _), terms_len]; omega
 have tb : tsb.length ≤ 141 := by rw [eb _ (extT_ok _), terms_len]; omega
 refine .inl ⟨La, Lb, _, _, rfl, rfl, hLa', hLb, line_ge (by simp; omega), fun rr hr => ?_⟩
 have S := Same.upd (o := .lst (psa.map V.ref ++ psb.map V.ref)) hr
 have spS : Stp A (upd Hb rr (.lst (psa.map V.ref ++ psb.map V.ref))) f gb (n + 200 + 200) := spb.same (Nat.le_refl _) S
 refine ⟨f, gb.d, rr, psa ++ psb, tsa ++ tsb, gb.g, _, rfl, spS, by rw [upd_same, List.map_append], pk_keep (fun _ _ z => S _ _ z) (pk_app pka' pkb), by simp; omega, by omega, fun vf H' g' uu kb sp' sub' ret due => ?_⟩
 have sub3 : Sub g0 gb := suba.trans subb
 obtain ⟨kvs', e', pla'⟩ := Stp.pl (A := A) (g := ⟨gb.d, g'⟩) sp' (by rw [← e0]; exact sub3.1.symm)
 have eg : g' = tabG kvs' := congrArg SG.g e'
 have ed : gb.d = ⟨a, some (k1, k2)⟩ := congrArg SG.d e'
 have hp : Ext0 (eff gb.d g') (hpF (hsF kvs') k1 k2) := by rw [ed, eg]; exact hpF_ext (kvs := kvs') (d := ⟨a, some (k1, k2)⟩) rfl
 have hpb : Ext gb (hpF (hsF kvs') k1 k2) := Ext.of (g' := ⟨gb.d, g'⟩) hp ⟨rfl, sub'⟩
 have dd := due _ hp
 rw [ea _ (hpb.of subb), eb _ hpb] at dd
 have s3 : Sub0 (tabG kvs) (tabG kvs') := by rw [← eg]; exact s0.trans (sub3.2.trans sub')
 have ktA : KeepT H H' := ((kta.trans ktb).trans (KeepT.same S)).trans (kb.keepT (Classical.choose_spec (Stq.dict' spS)))
 exact pair11 k (wy.keepT ktA.tup (part_tup _)) (wz.keepT ktA.tup (part_tup _)) (ktA _ _ hL1 fun _ z => nomatch z) (ktA _ _ hL2 fun _ z => nomatch z) (ktA.tup _ _ h1) (ktA.tup _ _ h2) ret (k.due s3 pla'.su.st dd) (hQ H' (kt.trans ktA))
theorem pair_rest (T : Txt K mg A) {H3 : Hp} {ps1 ps2 : List Addr} {n : Nat} (k : Two b lo hi d g p q r w kvs ts1 ts2 k1 k2) (su3 : SurAt H3 a kvs n) (hn : n ≤ 300) (ht : H3 t = some (.tup [.int lo, .int hi])) (wv : DatW H3 v (partD p)) (hP : H3 P = some (.tup (w.map V.int))) (wy : DatW H3 y (partD q)) (wz : DatW H3 z (partD r))
  (hL1 : H3 L1 = some (.lst (ps1.map V.ref))) (pk1 : PK H3 ps1 ts1) (hL2 : H3 L2 = some (.lst (ps2.map V.ref))) (pk2 : PK H3 ps2 ts2) (ts : TabS A H3) (tp : TabP A H3) (tn : A.t_21 ≠ A.t_16) (hQ : ∀ H', KeepR H3 H' → TabS A H' → TabP A H' → Q (.bl true) H') :
  R_11_4 K A { nx := fun _ H' => Q .non H', rt := Q } [some (.int b), some (.ref t), some v, some (.ref P), some y, some z, some (.int m), some (.ref a.f), some (.ref L1), some (.ref L2), none, none, none, none, none, none] H3 := by
 have e1 := k.f1 _ (hsF_ext kvs)
 have e2 := k.f2 _ (hsF_ext kvs)
 obtain ⟨pre1, l1⟩ := terms_last (hsF kvs) k.cq
 obtain ⟨pre2, l2⟩ := terms_last (hsF kvs) k.cr
 rw [← e1.1, ← e1.2] at l1
 rw [← e2.1, ← e2.2] at l2
 rw [l1] at pk1
 rw [l2] at pk2
 obtain ⟨qs1, pc1, rfl, hpc1, okc1⟩ := pk_last pk1
 obtain ⟨qs2, pc2, rfl, hpc2, okc2⟩ := pk_last pk2
 obtain ⟨q0, wy0⟩ := k.wy
 have wl := wy0.len
 have tl := tall_le k.okp (by have := k.en.b1; omega)
 have b60 := k.en.b60
 refine ixLastL hL1 (ixLastL hL2 ⟨pc1, pc2, a, k1, k2, kvs, n, rfl, hpc1, hpc2, okc1, okc2, su3, tp, fun f H4 kp4 tp4 pla4 => ?_⟩)
 have kr4 : KeepR H3 H4 := KeepR.ofP tp.tbl kp4
 have ts4 : TabS A H4 := ts.keepP tn tp.tbl kp4
 have sp4 : Stp A H4 f ⟨⟨a, some (k1, k2)⟩, tabG kvs⟩ n := .pla k1 k2 kvs pla4 rfl rfl
 refine ⟨v, y, p, q0, q, 0, 0, d, g, P, w, rfl, wv.keepT kr4.tup (part_tup _), kr4.tup _ _ hP, wy0, wy.keepT kr4.tup (part_tup _), by omega, by omega, fun u1 H5 S5 wu1 => ?_⟩
 refine ⟨v, z, p, q0, r, 0, 0, d, g, P, w, rfl, (wv.keepT kr4.tup (part_tup _)).mono S5, S5 _ _ (kr4.tup _ _ hP), wy0, (wz.keepT kr4.tup (part_tup _)).mono S5, by omega, by omega, fun u2 H6 S6 wu2 => ?_⟩
 have S46 := S5.trans S6
 have wu1 := wu1.mono S6
 have kr6 : KeepR H3 H6 := kr4.trans (KeepR.of (KeepT.same S46))
 have sp6 : Stp A H6 f ⟨⟨a, some (k1, k2)⟩, tabG kvs⟩ n := sp4.same (Nat.le_refl _) S46
 have m1 := many_le (plug p w q)
 obtain ⟨fs1, fs2⟩ := k.fs
 have pw1 := k.paper.1 wu1
 refine ⟨f, u1, plug p w q, _, n, rfl, pw1.s, by have := pw1.t; omega, sp6, by omega, fun t7 L7 x ps7 ts7 g7 H7 kt7 sp7 sub7 nl7 ht7 hL7 pk7 e7 ox sx => ?_⟩
 refine ixT (j := 0) ht7 rfl rfl ?_
 have hx7 : ∀ h, Ext g7 h → x = markP h (plug p w q) := fun h he => (e7 h he).2
 have ed7 : g7.d = ⟨a, some (k1, k2)⟩ := sub7.1.symm
 have s7 : Sub0 (tabG kvs) g7.g := sub7.2
 have mk := fun (A0 : Adr) => k.mark (A := A) (a := a) (f := f) (G1 := H7) s7 ed7 hx7
 have kt6 : ∀ b xs, H3 b = some (.tup xs) → H6 b = some (.tup xs) := kr6.tup
 have wu1' := wu1.keepT kt7.tup (part_tup _)
 have wu2' := wu2.keepT kt7.tup (part_tup _)
 have ht7' := kt7.tup _ _ (kt6 _ _ ht)
 refine ⟨f, t, b, lo, hi, u1, plug p w q, x, g7, n + many (plug p w q), rfl, ht7', k.paper.1 wu1', sp7, by omega, fun g1 H1 n1 s1 sb1 => (mk A g1 H1 n1 s1 sb1).1, fun g8 H8 kt8 sp8 sub8 => Sel.no rfl ?_⟩
 have wu1b := wu1'.keepT kt8.tup (part_tup _)
 have wu2b := wu2'.keepT kt8.tup (part_tup _)
 refine ⟨f, t, b, lo, hi, u2, plug p w r, x, g8, n + many (plug p w q) + 1000, rfl, kt8.tup _ _ ht7', k.paper.2 wu2b, sp8, by omega, fun g1 H1 n1 s1 sb1 => (mk A g1 H1 n1 s1 (sub8.trans sb1)).2, fun g9 H9 kt9 sp9 sub9 => Sel.no rfl ?_⟩
 have kt69 := (kt7.trans kt8).trans kt9
 have ts9 : TabS A H9 := (Tab1.keepT (Tab1.keepT ts4 (KeepT.same S46)) kt69)
 have tp9 : TabP A H9 := (Tab1.keepT (Tab1.keepT tp4 (KeepT.same S46)) kt69)
 have kr9 : KeepR H3 H9 := kr6.trans (KeepR.of kt69)
 refine pair9 (H3 := H9) k sp9 (by rw [← ed7]; exact (sub8.trans sub9).1.symm) (s7.trans (sub8.trans sub9).2) (by omega) (kr9.tup _ _ ht) (wy.keepT kr9.tup (part_tup _)) (wz.keepT kr9.tup (part_tup _)) (wu1b.keepT kt9.tup (part_tup _)) (wu2b.keepT kt9.tup (part_tup _)) (kr9.lst _ _ hL1) (kr9.lst _ _ hL2) (kr9.tup _ _ hpc1) (kr9.tup _ _ hpc2) KeepT.rfl' fun H' kt' => ?_
 exact hQ H' (kr9.trans (KeepR.of kt')) (Tab1.keepT ts9 kt') (Tab1.keepT tp9 kt')
end
end Rs
namespace Rs
open PySem PySem.Spec PyProof.Rows L2
variable {K : PySem.W.Frag} {mg : Str → Option Value} {A : Adr}
theorem own_of {h : List Key → Key} {p : Part} (hp : isCutP p = false) {pre : List (List Key)} {k : List Key} (e : pre ++ [k] = termsP h p) : k = ownP h p := by
 obtain ⟨pre', e'⟩ := terms_last h hp
 rw [e'] at e
 exact (List.cons.inj (List.append_inj' e rfl).2).1
theorem len_11 (K : PySem.W.Frag) (A : Adr) : ∀ vs H Q E, sp_11 K A vs H Q E → vs.length = 7 := by rintro vs H Q E ⟨_, _, _, _, _, _, _, _, _, _, _, _, _, _, _, rfl, _⟩; rfl
theorem rd_11 (T : Txt K mg A) (vs : List V) (H : Hp) (Q : VK) (E : XK) (h : sp_11 K A vs H Q E) : T_11 K A { nx := fun _ H' => Q .non H', rt := Q } (L2.start ["_law_bits_here", "_law_ends", "_law_paper_here", "_law_path", "_law_one", "_law_other", "_law_number_here", "_law_sure_one", "_law_mine", "_law_theirs", "_law_stamper", "_law_first", "_law_second", "_law_mark_here", "_law_terms", "_law_found"] vs) H := by
 obtain ⟨t, P, b, lo, hi, d, g, m, v, y, z, p, q, r, w, rfl, ht, pw, fp, hP, wy, dy, cq, dz, okr, fr, ts, tp, tn, hQ⟩ := h
 have en := pw.e
 have b1 := en.b1
 have b60 := en.b60
 have wo := wy.ok pw.w.ok (by decide) (by omega) (by decide) (by decide)
 have cr : isCutP r = false := by rw [cut_meets okr, ← cut_meets wo.ok]; exact cq
 have fq : forks q ≤ 60 := by
   have : ∀ {p q : Part} {D G d g : Int} {w : List Int}, Way p D G w q d g → forks q ≤ forks p := fun {p q D G d g w} h => by
    induction h with
    | nil p d g => exact Nat.le_refl _
    | @left e x D G d g l r q w h ih => show _ ≤ forks l + forks r + 1; omega
    | @right e x D G d g l r q w h ih => show _ ≤ forks l + forks r + 1; omega
   have := this wy; omega
 have fsr := wy.forks (q' := r)
 have fsq : forks (plug p w q) ≤ 60 := by
   have : ∀ {p q : Part} {D G d g : Int} {w : List Int}, Way p D G w q d g → plug p w q = p := fun {p q D G d g w} h => by
    induction h with
    | nil p d g => exact plug0 _ _
    | left h ih => rw [plug3, ih]
    | right h ih => rw [plug4, ih]
   rw [this wy]; exact fp
 have tq := tall_le wo.ok wo.db
 have tr := tall_le okr wo.db
 have hle := wo.le
 refine ⟨by decide, m % 1000, rfl, by omega, by omega, ts, fun a H1 kp1 ts1 hbn su1 => ?_⟩
 have kr1 : KeepR H H1 := KeepR.ofP ts.tbl kp1
 have tp1 : TabP A H1 := tp.keepP (Ne.symm tn) ts.tbl kp1
 have sp1 : Stp A H1 a.f ⟨⟨a, none⟩, tabG []⟩ 0 := .sur [] su1 rfl rfl rfl
 show R_11_1 K A _ [some (.int b), some (.ref t), some v, some (.ref P), some y, some z, some (.int m), some (.ref a.f), none, none, none, none, none, none, none, none] H1
 have mq := many_le q
 have mr := many_le r
 refine ⟨a.f, y, q, _, 0, rfl, ⟨dy.keepT kr1.tup (part_tup _), ⟨b, lo, hi, d, g, en, by omega, wo.db, wo.ok⟩, by omega⟩, by omega, sp1, by omega, fun t2 L1 x2 ps1 tsa g2 H2 kt2 sp2 sub2 nl2 ht2 hL1 pk1 e2 _ _ => ?_⟩
 refine ixT (j := 1) ht2 rfl rfl ?_
 show R_11_2 K A _ [some (.int b), some (.ref t), some v, some (.ref P), some y, some z, some (.int m), some (.ref a.f), some (.ref L1), none, none, none, none, none, none, none] H2
 have kr2 := kr1.trans (KeepR.of kt2)
 refine ⟨a.f, z, r, g2, _, rfl, ⟨dz.keepT kr2.tup (part_tup _), ⟨b, lo, hi, d, g, en, by omega, wo.db, okr⟩, by omega⟩, by omega, sp2, by omega, fun t3 L2 x3 ps2 tsb g3 H3 kt3 sp3 sub3 nl3 ht3 hL2 pk2 e3 _ _ => ?_⟩
 refine ixT (j := 1) ht3 rfl rfl ?_
 show R_11_3 K A _ [some (.int b), some (.ref t), some v, some (.ref P), some y, some z, some (.int m), some (.ref a.f), some (.ref L1), some (.ref L2), none, none, none, none, none, none] H3
 have kr3 := kr2.trans (KeepR.of kt3)
 obtain ⟨kvs, eg3, su3⟩ := sp3.su (a := a) (by rw [← (sub2.trans sub3).1])
 subst eg3
 have ex : ∀ h, Ext0 (tabG kvs) h → Ext ⟨⟨a, none⟩, tabG kvs⟩ h := fun h he => he
 have hL1' := kt3 _ _ hL1 fun _ z => nomatch z
 have pk1' := pk_keep kt3.tup pk1
 have c1 : ∀ h, Ext0 (tabG kvs) h → tsa = termsP h q := fun h he => (e2 h ((ex h he).of sub3)).1
 have c2 : ∀ h, Ext0 (tabG kvs) h → tsb = termsP h r := fun h he => (e3 h (ex h he)).1
 obtain ⟨pre1, l1⟩ := terms_last (hsF kvs) cq
 obtain ⟨pre2, l2⟩ := terms_last (hsF kvs) cr
 have l1 : tsa = pre1 ++ [ownP (hsF kvs) q] := by rw [c1 _ (hsF_ext kvs), l1]
 have l2 : tsb = pre2 ++ [ownP (hsF kvs) r] := by rw [c2 _ (hsF_ext kvs), l2]
 generalize hk1 : ownP (hsF kvs) q = k1 at l1
 generalize hk2 : ownP (hsF kvs) r = k2 at l2
 have f1 : ∀ h, Ext0 (tabG kvs) h → tsa = termsP h q ∧ k1 = ownP h q := fun h he => ⟨c1 h he, own_of cq (by rw [← l1]; exact c1 h he)⟩
 have f2 : ∀ h, Ext0 (tabG kvs) h → tsb = termsP h r ∧ k2 = ownP h r := fun h he => ⟨c2 h he, own_of cr (by rw [← l2]; exact c2 h he)⟩
 have dy3 := dy.keepT kr3.tup (part_tup _)
 have dz3 := dz.keepT kr3.tup (part_tup _)
 have dv3 := pw.w.w.keepT kr3.tup (part_tup _)
 have ts3 : TabS A H3 := Tab1.keepT (Tab1.keepT ts1 kt2) kt3
 have tp3 : TabP A H3 := Tab1.keepT (Tab1.keepT tp1 kt2) kt3
 have fin : ∀ H', KeepR H3 H' → TabS A H' → TabP A H' → Q (.bl true) H' := fun H' k1 => hQ H' (kr3.trans k1)
 have inj : ∀ x y, hsF kvs x = hsF kvs y → x = y := fun x y z => hsF_inj su3.st z
 have pk2q := pk2
 rw [l2] at pk2q
 obtain ⟨qs2, pc2, hq2, hpc2, okc2⟩ := pk_last pk2q
 have hL2q := hL2
 rw [hq2] at hL2q
 refine ixLastL hL2q ?_
 refine .inr ⟨_, _, datV_tup hpc2, .inl (.lst (SqL.of hL1') (datVs_terms pk1')), canLay_terms pk1', canLay_keys (asc_str okc2), ?_, ?_⟩
 · show PyData.depthAll (k2.map dKey) + 1 ≤ 140; rw [depth_keys]; decide
 refine Sel.mk (fun hin => ?_) (fun hout => ?_)
 · have hin := (mem_eqv _ _).mp hin
   refine ⟨_, _, rfl, _, _, rfl, ?_⟩
   have two : Two b lo hi d g p r q w kvs tsb tsa k2 k1 := by
    refine ⟨en, .inr wy, pw.w.ok, okr, wo.ok, cr, cq, f2, f1, ?_, fp, by omega, by omega, by omega, by omega⟩
    by_cases eq : r = q
    · exact .inl eq
    · refine .inr fun hm => eq ?_
      rw [c1 _ (hsF_ext kvs)] at hin
      rw [c2 _ (hsF_ext kvs)] at hm
      have z1 := own_last b60 wo.ok hin
      have z2 := own_last b60 okr hm
      rw [hk1] at z1
      rw [hk2] at z2
      have e12 : k2 = k1 := by
       rcases z1 with z1 | z1
       · exact z1
       · rcases z2 with z2 | z2
         · exact z2.symm
         · omega
      exact (own_inj inj okr wo.ok).1 cr (by rw [hk1, hk2, e12])
   exact pair_rest T two su3 (by omega) (kr3.tup _ _ ht) dv3 (kr3.tup _ _ hP) dz3 dy3 hL2 pk2 hL1' pk1' ts3 tp3 tn fin
 · have hout : k2 ∉ tsa := fun z => by rw [(mem_eqv _ _).mpr z] at hout; cases hout
   have two : Two b lo hi d g p q r w kvs tsa tsb k1 k2 := ⟨en, .inl wy, pw.w.ok, wo.ok, okr, cq, cr, f1, f2, .inr hout, fp, by omega, by omega, by omega, by omega⟩
   exact pair_rest T two su3 (by omega) (kr3.tup _ _ ht) dv3 (kr3.tup _ _ hP) dy3 dz3 hL1' pk1' hL2 pk2 ts3 tp3 tn fin
end Rs
namespace Rs
open PySem PySem.Spec PyProof.Rows L2
variable {K : PySem.W.Frag} {mg : Str → Option Value} {A : Adr}
theorem KeepR.seq {H H' : Hp} {a : Addr} {xs : List V} (e : KeepR H H') (h : SqL K H a xs) : SqL K H' a xs := by
 rcases h with (h | ⟨o, h⟩) | h
 · exact .inl (.inl (e _ _ h (fun _ z => nomatch z) (fun _ z => nomatch z)))
 · exact .inl (.inr ⟨o, e _ _ h (fun _ z => nomatch z) (fun _ z => nomatch z)⟩)
 · exact .inr h
def NcSpot (H : Hp) (p : Part) (r : Addr) : Prop := ∃ (d g : Int) (u : List Int) (q : Part) (P : Addr), H r = some (.tup [.int d, .int g, .ref P]) ∧ H P = some (.tup (u.map V.int)) ∧ Way p 0 0 u q d g ∧ isCutP q = false
theorem NcSpot.keep {H H' : Hp} {p : Part} {r : Addr} (h : NcSpot H p r) (S : ∀ b xs, H b = some (.tup xs) → H' b = some (.tup xs)) : NcSpot H' p r := by
 obtain ⟨d, g, u, q, P, h1, h2, h3, h4⟩ := h
 exact ⟨d, g, u, q, P, S _ _ h1, S _ _ h2, h3, h4⟩
theorem law5 {Q : VK} {G : Hp} {a t D : Addr} {b lo hi : Int} {v : V} {p : Part} {ns : List Int} {ss : List Addr} (hs : SqL K G a (ns.map V.int)) (ht : G t = some (.tup [.int lo, .int hi])) (pw : PaperW G v b lo hi p) (fp : forks p ≤ 60) (hD : G D = some (.lst (ss.map V.ref))) (hn : ss ≠ []) (sl : ss.length ≤ 1000) (nc : ∀ r ∈ ss, NcSpot G p r) (ts : TabS A G) (tp : TabP A G) (tn : A.t_21 ≠ A.t_16) (q : ∀ H', Q (.bl true) H') :
   R_38_5 K A { nx := fun _ H' => Q .non H', rt := Q } [some (.ref a), some (.int b), some (.ref t), some v, some (.ref D), none, none, none, none, none, none] G := by
 have en := pw.e
 have b1 := en.b1
 have b60 := en.b60
 obtain ⟨zs, ez, hz⟩ := cutV_ints ns (some 5) (some 8)
 have zl : zs.length ≤ 8 := by
   have h := congrArg List.length ez
   unfold cutV at h
   rw [List.length_take, List.length_map, List.length_map] at h
   have := HT.sIx_nat ns.length ns.length 8
   rw [show ((8 : Nat) : Int) = 8 from rfl] at this
   rw [this] at h
   omega
 refine ⟨5, rfl, 8, rfl, .inl (.inl ⟨a, _, rfl, hs, fun pa hpa => ?_⟩)⟩
 rw [ez]
 have S1 := Same.upd (o := .lst (zs.map V.int)) hpa
 have hpa2 : upd G pa (.lst (zs.map V.int)) pa = some (.lst (zs.map V.int)) := upd_same
 generalize upd G pa (.lst (zs.map V.int)) = G1 at S1 hpa2 ⊢
 refine ⟨a, ns, 9, rfl, S1.seq hs, by decide, fun z9 G2 S2 => ⟨by show 1 ≤ sizeLine; decide, fun pb hpb => ?_⟩⟩
 have S3 := Same.upd (o := .lst [V.int z9]) hpb
 refine .inl ⟨pa, pb, _, _, rfl, rfl, S3 _ _ (S2 _ _ hpa2), upd_same, line_ge (by rw [List.length_map]; show zs.length + 1 ≤ _; omega), fun rr hrr => ?_⟩
 have S4 := ((S1.trans S2).trans S3).trans (Same.upd (o := .lst (zs.map V.int ++ [V.int z9])) hrr)
 have hr2 : upd (upd G2 pb (.lst [V.int z9])) rr (.lst (zs.map V.int ++ [V.int z9])) rr = some (.lst (zs.map V.int ++ [V.int z9])) := upd_same
 generalize upd (upd G2 pb (.lst [V.int z9])) rr (.lst (zs.map V.int ++ [V.int z9])) = G4 at S4 hr2 ⊢
 have ml : zs.map V.int ++ [V.int z9] = (zs ++ [z9]).map V.int := by rw [List.map_append]; rfl
 rw [ml] at hr2
 refine ⟨rr, rfl, .inl ⟨⟨_, SqL.of hr2⟩, ?_⟩⟩
 have k4 : KeepR G G4 := KeepR.of (KeepT.same S4)
 refine for_list (xs := (zs ++ [z9]).map V.int) (fun i σ H' => ∃ y5 y6 y7 y8 y9 y10, σ = [some (.ref a), some (.int b), some (.ref t), some v, some (.ref D), y5, y6, y7, y8, y9, y10] ∧ KeepR G4 H' ∧ TabS A H' ∧ TabP A H') ⟨none, none, none, none, none, none, rfl, KeepR.rfl', Tab1.keepT ts (KeepT.same S4), Tab1.keepT tp (KeepT.same S4)⟩ ?_ ?_ ?_
 · rintro i σ H' _ ⟨_, _, _, _, _, _, _, kr, _⟩; exact SqL.of (kr.lst _ _ hr2)
 · rintro i y σ H' hy ⟨y5, y6, y7, y8, y9, y10, rfl, kr, ts', tp'⟩
   obtain ⟨c, _, rfl⟩ := map_get hy
   have kr' := k4.trans kr
   have hD' := kr'.lst _ _ hD
   have hl0 : 0 < ss.length := List.length_pos_iff.mpr hn
   have m0 : 0 ≤ c % (ss.length : Int) := Int.emod_nonneg _ (by omega)
   have m1 : c % (ss.length : Int) < ss.length := Int.emod_lt_of_pos _ (by omega)
   obtain ⟨j, hj⟩ := Int.eq_ofNat_of_zero_le m0
   have hjl : j < ss.length := by omega
   have hx : (ss.map V.ref)[j]? = some (.ref (ss[j])) := by rw [List.getElem?_map, List.getElem?_eq_getElem hjl]; rfl
   obtain ⟨d, g, u, qq, P, h1, h2, wy, cq⟩ := (nc (ss[j]) (List.getElem_mem hjl)).keep kr'.tup
   refine .inl (.inl ⟨_, SqL.of hD', ?_⟩)
   rw [List.length_map]
   refine ⟨by omega, ixL (j := j) hD' hj hx ?_⟩
   refine ⟨_, _, rfl, SqT.of h1, rfl, _, _, rfl, _, _, rfl, _, _, rfl, rfl, ?_⟩
   refine ⟨mulR (by decide) (by decide), by decide, ?_⟩
   have ht' := kr'.tup _ _ ht
   have pw' := pw.mono kr'.tup
   have wo := wy.ok pw.w.ok (by decide) (by omega) (by decide) (by decide)
   have hle := wo.le
   have hdb := wo.db
   refine ixT (j := 0) ht' rfl rfl (ixT (j := 1) ht' rfl rfl ⟨by decide, ?_⟩)
   have y0 : 0 ≤ c * 48271 % 1000003 % 4 := by omega
   have y1 : c * 48271 % 1000003 % 4 ≤ 3 := by omega
   refine ⟨_, b, lo, hi, d, g, _, rfl, en, by omega, wo.db, wo.g0, wo.g1, y0, by omega, by omega, fun z r H1 S1 w f1 f2 f3 => ?_⟩
   have f7 : forks r ≤ 7 := by
    have : 2 ^ (c * 48271 % 1000003 % 4).toNat ≤ 2 ^ 3 := Nat.pow_le_pow_right (by decide) (by omega)
    omega
   have kr1 := kr'.trans (KeepR.of (KeepT.same S1))
   refine ⟨v, p, qq, 0, 0, d, g, P, u, rfl, (pw'.w.w).mono S1, S1 _ _ h2, wy, fun y wyy => ?_⟩
   refine ⟨a, ns, 4, rfl, kr1.seq hs, by decide, fun z4 H2 S2 => ?_⟩
   have S12 := S1.trans S2
   refine ⟨t, P, b, lo, hi, d, g, z4, v, y, z, p, qq, r, u, rfl, S12 _ _ ht', pw'.mono fun _ _ e => S12 _ _ e, fp, S12 _ _ h2, wy, wyy.mono S2, cq, w.w.mono S2, w.ok, f7, Tab1.keepT ts' (KeepT.same S12), Tab1.keepT tp' (KeepT.same S12), tn, fun H3 kr3 ts3 tp3 => Sel.no rfl ?_⟩
   exact ⟨_, _, _, _, _, _, rfl, (kr.trans (KeepR.of (KeepT.same S12))).trans kr3, ts3, tp3⟩
 · rintro σ H' ⟨_, _, _, _, _, _, rfl, _⟩
   exact q H'
theorem law4 {Q : VK} {G : Hp} {a t M : Addr} {b lo hi : Int} {v : V} {p : Part} {ns : List Int} {rs : List Addr} {r0 : Addr} (hs : SqL K G a (ns.map V.int)) (ht : G t = some (.tup [.int lo, .int hi])) (pw : PaperW G v b lo hi p) (fp : forks p ≤ 60) (hM : G M = some (.lst ((r0 :: rs).map V.ref))) (sl : rs.length ≤ 200) (h0 : ∃ P, G r0 = some (.tup [.int 0, .int 0, .ref P]) ∧ G P = some (.tup [])) (al : ∀ r ∈ r0 :: rs, SpotAt G p 0 0 [] r) (ts : TabS A G) (tp : TabP A G) (tn : A.t_21 ≠ A.t_16) (q : ∀ H', Q (.bl true) H') :
    R_38_4 K A { nx := fun _ H' => Q .non H', rt := Q } [some (.ref a), some (.int b), some (.ref t), some v, some (.ref M), none, none, none, none, none, none] G := by
  refine ⟨M, rfl, .inl ⟨⟨_, SqL.of hM⟩, fun D hD => ?_⟩⟩
  have hMD : M ≠ D := ne_of_none hM hD
  refine comp_by (Items.list (xs := (r0 :: rs).map V.ref) .non) (fun i ys H2 => ∃ ss : List Addr, ys = ss.map V.ref ∧ H2 D = some (.lst ys) ∧ Same G H2 ∧ ss.length ≤ i ∧ (1 ≤ i → ss ≠ []) ∧ ∀ r ∈ ss, NcSpot H2 p r)
    (fun i ys H2 _ ⟨_, _, _, s2, _⟩ => SqL.of (s2 _ _ hM)) ⟨[], rfl, upd_same, Same.upd hD, Nat.le_refl _, fun z => by omega, fun _ z => by cases z⟩ ?_ ?_
  · rintro i ys H2 hi' ⟨ss, rfl, hd, s2, hsl, hne, nc⟩
    have hi2 : i < (r0 :: rs).length := by simpa using hi'
    have ha : (r0 :: rs)[i]? = some ((r0 :: rs)[i]) := List.getElem?_eq_getElem hi2
    have hmem := List.mem_of_getElem? ha
    have first : i = 0 → (r0 :: rs)[i] = r0 := fun z => by subst z; rfl
    have e0 : ((r0 :: rs).map V.ref).getD i .non = .ref ((r0 :: rs)[i]) := getD_ref ha
    generalize (r0 :: rs)[i] = r at ha hmem first e0
    obtain ⟨d, g, u, qq, P, h1, h2, wy⟩ := (al r hmem).keep fun b xs e => s2 _ _ e
    have h1 : H2 r = some (.tup [.int d, .int g, .ref P]) := h1
    have h2 : H2 P = some (.tup (u.map V.int)) := h2
    have go : ∀ B, (rIxA K (.ref r) (.int 2) H2 B) → (tOp (rIxA K) (mVar 0) (tC (.int 2))) [some (((r0 :: rs).map V.ref).getD i .non), some v] H2 B := fun B hB => by
      show rIxA K (((r0 :: rs).map V.ref).getD i .non) (.int 2) H2 B
      rw [e0]; exact hB
    show (tOp (rIxA K) (mVar 0) (tC (.int 2))) [some (((r0 :: rs).map V.ref).getD i .non), some v] H2 _
    refine go _ (ixT (j := 2) h1 rfl rfl ⟨v, p, qq, 0, 0, d, g, P, u, rfl, pw.w.w.mono s2, h2, wy, fun y wyy => ?_⟩)
    obtain ⟨ay, xs, wd, rfl, hay, hx0, ec, _, _⟩ := at_head wyy
    refine ixT (j := 0) hay rfl hx0 ?_
    show (if (!decide (wd = "cut")) = true then _ else _)
    rw [ec]
    cases hc : isCutP qq with
    | true =>
      rw [if_neg (by decide)]
      refine ⟨_, by omega, hi', rfl, ss, rfl, hd, s2, by omega, fun _ => ?_, nc⟩
      rcases Nat.eq_zero_or_pos i with z | z
      · have hr := first z
        obtain ⟨P0, g1, g2⟩ := h0
        subst hr
        have := s2 _ _ g1
        rw [h1] at this
        injection this with this
        injection this with this
        injection this with e1 this
        injection this with e2 this
        injection this with e3 _
        injection e3 with e3
        subst e3
        have := s2 _ _ g2
        rw [h2] at this
        injection this with this
        injection this with this
        have : u = [] := List.map_eq_nil_iff.mp this
        subst this
        cases wy
        rw [pw.nc] at hc; cases hc
      · exact hne z
    | false =>
      rw [if_pos (by decide)]
      show (mVar 0) [some (((r0 :: rs).map V.ref).getD i .non), some v] H2 _
      have go2 : ∀ B : VK, B (.ref r) H2 → (mVar 0) [some (((r0 :: rs).map V.ref).getD i .non), some v] H2 B := fun B hB => by
        show B (((r0 :: rs).map V.ref).getD i .non) H2
        rw [e0]; exact hB
      refine go2 _ ⟨hd, small1000 (by rw [List.length_map]; simp at hi2; omega), _, by omega, hi', rfl, ss ++ [r], ?_, upd_same, fun x o e => ?_, by simp; omega, fun _ z => ?_, fun r' hr' => ?_⟩
      · rw [List.map_append]; rfl
      · rw [upd_ne (ne_of_none e hD)]; exact s2 _ _ e
      · have := congrArg List.length z; simp at this
      · have kp : ∀ c xs, H2 c = some (.tup xs) → upd H2 D (.lst (ss.map V.ref ++ [V.ref r])) c = some (.tup xs) := fun c xs e => by
          rw [upd_ne (fun z => by subst z; rw [hd] at e; cases e)]; exact e
        rcases List.mem_append.mp hr' with z | z
        · exact (nc r' z).keep kp
        · rw [List.mem_singleton.mp z]
          exact NcSpot.keep ⟨d, g, u, qq, P, h1, h2, wy, hc⟩ kp
  · rintro ys H2 ⟨ss, rfl, hd, s2, hsl, hne, nc⟩
    have sl' : ss.length ≤ rs.length + 1 := by simpa using hsl
    exact law5 (s2.seq hs) (s2 _ _ ht) (pw.mono fun _ _ e => s2 _ _ e) fp hd (hne (by simp)) (by omega) nc (Tab1.keepT ts (KeepT.same s2)) (Tab1.keepT tp (KeepT.same s2)) tn q
theorem len_38 (K : PySem.W.Frag) (A : Adr) : ∀ vs H Q E, sp_38 K A vs H Q E → vs.length = 1 := by rintro vs H Q E ⟨a, ns, rfl, _⟩; rfl
theorem rd_38 (T : Txt K mg A) (vs : List V) (H : Hp) (Q : VK) (E : XK) (h : sp_38 K A vs H Q E) : T_38 K A { nx := fun _ H' => Q .non H', rt := Q } (L2.start ["_law_script", "_law_bits_here", "_law_ends", "_law_paper_here", "_law_spots_here", "_law_cell", "_law_depth", "_law_begin_here", "_law_path", "_law_number_here", "_law_other"] vs) H := by
 obtain ⟨a, ns, rfl, hs, hlen, ⟨t1, t2, t3⟩, q⟩ := h
 refine ⟨a, ns, 0, rfl, hs, by decide, fun z0 H0 S0 => ⟨z0, rfl, fun b H1 S1 b1 b60 => ?_⟩⟩
 have S1 := S0.trans S1
 show R_38_1 K A _ [some (.ref a), some (.int b), none, none, none, none, none, none, none, none, none] H1
 refine ⟨a, ns, 1, rfl, S1.seq hs, by decide, fun z1 H2 S2 => ⟨a, ns, 2, rfl, (S1.trans S2).seq hs, by decide, fun z2 H3 S3 => ?_⟩⟩
 have S3 := (S1.trans S2).trans S3
 refine ⟨b, z1, z2, rfl, b1, b60, fun t lo hi H4 S4 ht en => ?_⟩
 have S4 := S3.trans S4
 show R_38_2 K A _ [some (.ref a), some (.int b), some (.ref t), none, none, none, none, none, none, none, none] H4
 refine ⟨a, ns, 3, rfl, S4.seq hs, by decide, fun z3 H5 S5 => ?_⟩
 have ht := S5 _ _ ht
 have S5 := S4.trans S5
 refine ixT (j := 0) ht rfl rfl (ixT (j := 1) ht rfl rfl ⟨z3, b, lo, hi, rfl, en, fun v p H6 S6 pw fp => ?_⟩)
 have ht := S6 _ _ ht
 have S6 := S5.trans S6
 show R_38_3 K A _ [some (.ref a), some (.int b), some (.ref t), some v, none, none, none, none, none, none, none] H6
 refine ⟨by show 0 ≤ sizeLine; decide, fun t0 h0 => ?_⟩
 have S7 := Same.upd (o := .tup []) h0
 have ht0 : upd H6 t0 (.tup []) t0 = some (.tup (([] : List Int).map V.int)) := upd_same
 have tl := pw.t
 refine ⟨v, p, 0, 0, t0, [], rfl, pw.w.w.mono S7, by omega, ht0, by show 0 + _ ≤ 100; omega, by omega, fun M r rs H8 S8 hMn hM len hr al => ?_⟩
 have S78 := S7.trans S8
 have S8' := S6.trans S78
 exact law4 (S8'.seq hs) (S78 _ _ ht) (pw.mono fun _ _ e => S78 _ _ e) fp hM (by omega) ⟨t0, hr, S8 _ _ ht0⟩ al ⟨_, S8' _ _ t1, .inl rfl⟩ ⟨_, S8' _ _ t2, .inl rfl⟩ (fun z => by rw [z] at t3; simp at t3) q
end Rs
namespace Rs
open PySem PySem.Spec PyProof.Rows L2
structure TP (P : Program) (w : World) (K : PySem.W.Frag) (mg : Str → Option Value) (base : Heap) (A : Adr) : Prop extends Txt K mg A where
 B : BM mg base
 C_21 : PySem.W.CodeHd base A.k_21 A.t_21
 C_16 : PySem.W.CodeHd base A.k_16 A.t_16
variable {P : Program} {w : World} {K : PySem.W.Frag} {mg : Str → Option Value} {base : Heap} {A : Adr} (T : TP P w K mg base A)
include T
theorem tm_22 (f c : Addr) (cl : List (Str × Addr)) (Ar : Around) (outer : List Env) (s : Shared) (H : Hp) (E : XK)
  (hr : Room 0 (Ar.deeper (PySem.W.envX ct_22.qual ct_22.scope s.heap.objs.size f (.ref c) cl))) : PSs (cxClo P w K mg base ["_law_term", "_law_known", "_law_first"] ct_22.qual ct_22.scope f c cl Ar outer s H E).nox (defBody e_22) (T_22 K A) := QSs.out (
 x_sone (x_ret (x_bm PySem.F.plainAttrs_dict PySem.F.slot_dict_setdefault PySem.F.type_dict_setdefault (mt_setdef hr.units1) (x_var 1) (x_cons (x_var 0) (x_cons (x_op oAddG (x_op oMulB (x_int) (x_callB cLenA T.z_len PySem.boot_len (x_cons (x_var 1) (x_nil)))) (x_var 2)) (x_nil))))))
theorem ok_22 : CloOk P w K mg base 1 ct_22 (sp_22 K A) :=
 clo_of rfl sc_22 (fun f c cl Ar outer s H vs cvs Q E hr hl hc h => by
  obtain ⟨a0, rfl⟩ := L2.len1x hl
  obtain ⟨b0, b1, rfl⟩ := L2.len2x hc
  exact ⟨_, (tm_22 T f c cl Ar outer s H E hr).nox, rd_22 T.1 a0 b0 b1 H Q E h⟩)
theorem kinds1_0 : KindsOk P w K mg base 1 (Knd1_0 K A) := fun ts hts => by
 simp only [Knd1_0, List.mem_cons, List.not_mem_nil, or_false] at hts
 rcases hts with rfl
 · exact (ok_22 T).mono (by decide)
theorem tm_17 (f c : Addr) (cl : List (Str × Addr)) (Ar : Around) (outer : List Env) (s : Shared) (H : Hp) (E : XK)
  (hr : Room 1 (Ar.deeper (PySem.W.envX ct_17.qual ct_17.scope s.heap.objs.size f (.ref c) cl))) : PSs (cxClo P w K mg base ["_law_term", "_law_sure_one", "_law_other", "_law_one"] ct_17.qual ct_17.scope f c cl Ar outer s H E).nox (defBody e_17) (T_17 K A) := QSs.out (
 x_scons (x_ifS (x_tcmp (oEqC hr.units150) (x_var 0) (x_var 2)) (x_sone (x_ret (x_held (kinds1_0 T) hr.le passF (x_var 1) (x_cons (x_var 3) (x_nil))))) (x_snil)) (x_sone (x_ret (x_held (kinds1_0 T) hr.le passF (x_var 1) (x_cons (x_var 0) (x_nil))))))
theorem ok_17 : CloOk P w K mg base 2 ct_17 (sp_17 K A) :=
 clo_of rfl sc_17 (fun f c cl Ar outer s H vs cvs Q E hr hl hc h => by
  obtain ⟨a0, rfl⟩ := L2.len1x hl
  obtain ⟨b0, b1, b2, rfl⟩ := L2.len3x hc
  exact ⟨_, (tm_17 T f c cl Ar outer s H E hr).nox, rd_17 T.1 a0 b0 b1 b2 H Q E h⟩)
theorem ok_2 : FnOk P w K mg base (CX1 P w) 1 A.a_2 A.d_2 ["_law_cell"] (sp_2 K A) :=
 T.f_2.f.okS sc_2 (len_2 K A) (rd_2 T.1) fun _ _ _ _ _ _ hr =>
 x_sone (x_ret (x_op oAddG (x_int) (x_op oMod (x_op oFdivB (x_var 0) (x_int)) (x_ix (ix_any hr.units1) (x_lst (x_cons (x_int) (x_cons (x_int) (x_cons (x_int) (x_nil))))) (x_op oMod (x_var 0) (x_int)) (fun _ _ => rfl)))))
theorem ok_0 : FnOk P w K mg base (CX1 P w) 1 A.a_0 A.d_0 ["_law_script", "_law_k"] (sp_0 K A) :=
 T.f_0.f.okS sc_0 (len_0 K A) (rd_0 T.1) fun _ _ _ _ _ _ hr =>
 x_scons (x_ifS (x_tcmp oLt (x_var 1) (x_callB cLenA T.z_len PySem.boot_len (x_cons (x_var 0) (x_nil)))) (x_sone (x_ret (x_ix (ix_any hr.units1) (x_var 0) (x_var 1) (fun _ _ => rfl)))) (x_snil)) (x_scons (x_set 2 sc_0.nd (x_op oAddG (x_int) (x_callB cLenA T.z_len PySem.boot_len (x_cons (x_var 0) (x_nil))))) (x_scons (x_for 3 sc_0.nd (x_seqA (x_slice sl_all (x_var 0) (x_onone) (x_osome (x_int)))) (x_sone (x_set 2 sc_0.nd (x_op oMod (x_op oAddG (x_op oMulB (x_var 2) (x_int)) (x_var 3)) (x_int)))) PassesOwn.never) (x_scons (x_set 2 sc_0.nd (x_op oMod (x_op oAddG (x_var 2) (x_op oMulB (x_int) (x_var 1))) (x_int))) (x_sone (x_ret (x_op oMod (x_op oMulB (x_var 2) (x_var 2)) (x_int)))))))
theorem ok_4 : FnOk P w K mg base (CX1 P w) 1 A.a_4 A.d_4 ["_law_bits_here", "_law_cell", "_law_others"] (sp_4 K A) :=
 T.f_4.f.okS sc_4 (len_4 K A) (rd_4 T.1) fun _ _ _ _ _ _ hr =>
 x_scons (x_set 3 sc_4.nd (x_op oShl (x_int) (x_var 0))) (x_scons (x_set 4 sc_4.nd (x_op oFdivB (x_var 1) (x_int))) (x_scons (x_ifS (x_tcmp (oEqC hr.units150) (x_op oMod (x_var 1) (x_int)) (x_int)) (x_sone (x_ret (x_op oMod (x_var 4) (x_var 3)))) (x_snil)) (x_scons (x_ifS (x_tcmp (oEqC hr.units150) (x_op oMod (x_var 1) (x_int)) (x_int)) (x_sone (x_ret (x_op oSub (x_op oSub (x_var 3) (x_int)) (x_op oMod (x_var 4) (x_var 3))))) (x_snil)) (x_scons (x_ifS (x_w (x_wand (x_tcmp (oEqC hr.units150) (x_op oMod (x_var 1) (x_int)) (x_int)) (x_wand1 (x_tcmp (oNeB hr.units150) (x_var 2) (x_lst (x_nil)))))) (x_scons (x_set 5 sc_4.nd (x_op oMod (x_op oMod (x_op oMulB (x_var 4) (x_int)) (x_int)) (x_var 0))) (x_sone (x_ret (x_op oXor (x_ix (ix_any hr.units1) (x_var 2) (x_op oMod (x_var 4) (x_callB cLenA T.z_len PySem.boot_len (x_cons (x_var 2) (x_nil)))) (fun _ _ => rfl)) (x_op oShl (x_int) (x_var 5)))))) (x_snil)) (x_sone (x_ret (x_op oMod (x_op oMulB (x_var 4) (x_int)) (x_var 3))))))))
theorem ok_20 : FnOk P w K mg base (CX1 P w) 2 A.a_20 A.d_20 ["_law_bits_here", "_law_one", "_law_other"] (sp_20 K A) :=
 T.f_20.f.okS sc_20 (len_20 K A) (rd_20 T.1) fun _ _ _ _ _ _ hr =>
 x_scons (x_set 3 sc_20.nd (x_cl (ok_4 T) hr.le T.f_4 (x_cons (x_var 0) (x_cons (x_var 1) (x_cons (x_lst (x_nil)) (x_nil)))))) (x_scons (x_set 4 sc_20.nd (x_cl (ok_4 T) hr.le T.f_4 (x_cons (x_var 0) (x_cons (x_var 2) (x_cons (x_lst (x_cons (x_var 3) (x_nil))) (x_nil)))))) (x_scons (x_ifS (x_tcmp (oEqC hr.units150) (x_op oMod (x_var 2) (x_int)) (x_int)) (x_sone (x_set 4 sc_20.nd (x_callB (cMin rfl) T.z_min boot_min (x_cons (x_op oAddG (x_var 3) (x_op oMod (x_op oFdivB (x_var 2) (x_int)) (x_int))) (x_cons (x_op oSub (x_op oShl (x_int) (x_var 0)) (x_int)) (x_nil)))))) (x_snil)) (x_scons (x_ifS (x_tcmp (oEqC hr.units150) (x_op oMod (x_var 1) (x_int)) (x_int)) (x_sone (x_set 4 sc_20.nd (x_var 3))) (x_snil)) (x_scons (x_ifS (x_tcmp (oEqC hr.units150) (x_op oMod (x_var 2) (x_int)) (x_int)) (x_sone (x_ret (x_tup (x_cons (x_int) (x_cons (x_op oSub (x_op oShl (x_int) (x_var 0)) (x_int)) (x_nil)))))) (x_snil)) (x_sone (x_ret (x_tup (x_cons (x_callB (cMin rfl) T.z_min boot_min (x_cons (x_var 3) (x_cons (x_var 4) (x_nil)))) (x_cons (x_callB (cMax rfl) T.z_max boot_max (x_cons (x_var 3) (x_cons (x_var 4) (x_nil)))) (x_nil))))))))))
theorem ok_9 : FnOk P w K mg base (CX1 P w) 1 A.a_9 A.d_9 ["_law_cell", "_law_depth", "_law_begin_here"] (sp_9 K A) :=
 T.f_9.f.okS sc_9 (len_9 K A) (rd_9 T.1) fun _ _ _ _ _ _ hr =>
 x_sone (x_ret (x_op oMod (x_op oMulB (x_op oMod (x_op oAddG (x_op oMulB (x_op oAddG (x_var 0) (x_int)) (x_int)) (x_op oMulB (x_op oAddG (x_op oAddG (x_op oMulB (x_var 2) (x_int)) (x_var 1)) (x_int)) (x_int))) (x_int)) (x_int)) (x_int)))
theorem ok_8 : FnOk P w K mg base (CX1 P w) 1 A.a_8 A.d_8 ["_law_bits_here", "_law_low", "_law_high", "_law_depth", "_law_begin_here"] (sp_8 K A) :=
 T.f_8.f.okS sc_8 (len_8 K A) (rd_8 T.1) fun _ _ _ _ _ _ hr =>
 x_scons (x_set 5 sc_8.nd (x_op oShl (x_int) (x_op oSub (x_var 0) (x_var 3)))) (x_sone (x_ret (x_and (x_cmp oLe (x_op oMulB (x_var 4) (x_var 5)) (x_var 2)) (x_one (x_cmp oLt (x_var 1) (x_op oMulB (x_op oAddG (x_var 4) (x_int)) (x_var 5)))))))
theorem ok_7 : FnOk P w K mg base (CX1 P w) 1 A.a_7 A.d_7 ["_law_number_here"] (sp_7 K A) :=
 T.f_7.f.okS sc_7 (len_7 K A) (rd_7 T.1) fun _ _ _ _ _ _ hr =>
 x_scons (x_set 0 sc_7.nd (x_op oMod (x_op oMulB (x_var 0) (x_int)) (x_int))) (x_scons (x_ifS (x_tcmp (oEqC hr.units150) (x_op oMod (x_var 0) (x_int)) (x_int)) (x_sone (x_ret (x_op oAddG (x_str) (x_callTy cStr T.z_str boot_str (x_cons (x_op oMod (x_var 0) (x_int)) (x_nil)))))) (x_snil)) (x_scons (x_ifS (x_tcmp (oEqC hr.units150) (x_op oMod (x_var 0) (x_int)) (x_int)) (x_sone (x_ret (x_op oMod (x_op oFdivB (x_var 0) (x_int)) (x_int)))) (x_snil)) (x_scons (x_ifS (x_tcmp (oEqC hr.units150) (x_op oMod (x_var 0) (x_int)) (x_int)) (x_sone (x_ret (x_op oMulB (x_var 0) (x_op oPow (x_int) (x_int))))) (x_snil)) (x_sone (x_ret (x_op oSub (x_op oSub (x_op oPow (x_int) (x_int)) (x_int)) (x_var 0)))))))
theorem ok_24 : FnOk P w K mg base (CX1 P w) 1 A.a_24 A.d_24 ["_law_cell"] (sp_24 K A) :=
 T.f_24.f.okS sc_24 (len_24 K A) (rd_24 T.1) fun _ _ _ _ _ _ hr =>
 x_scons (x_set 1 sc_24.nd (x_str)) (x_scons (x_set 1 sc_24.nd (x_op oAddG (x_var 1) (x_str))) (x_scons (x_set 2 sc_24.nd (x_op oMod (x_var 0) (x_int))) (x_scons (x_ifS (x_tcmp (oEqC hr.units150) (x_op oMod (x_op oFdivB (x_var 0) (x_int)) (x_int)) (x_int)) (x_sone (x_set 2 sc_24.nd (x_int))) (x_snil)) (x_scons (x_ifS (x_tcmp (oEqC hr.units150) (x_op oMod (x_op oFdivB (x_var 0) (x_int)) (x_int)) (x_int)) (x_sone (x_set 2 sc_24.nd (x_op oMod (x_op oFdivB (x_var 0) (x_int)) (x_int)))) (x_snil)) (x_scons (x_set 3 sc_24.nd (x_str)) (x_scons (x_for 4 sc_24.nd (x_range1 T.z_range (x_cons (x_var 2) (x_nil))) (x_sone (x_set 3 sc_24.nd (x_op oAddG (x_var 3) (x_ix (ix_any hr.units1) (x_var 1) (x_op oMod (x_op oAddG (x_op oFdivB (x_var 0) (x_int)) (x_op oMulB (x_var 4) (x_op oMod (x_op oFdivB (x_var 0) (x_int)) (x_int)))) (x_callB cLenA T.z_len PySem.boot_len (x_cons (x_var 1) (x_nil)))) (fun _ _ => rfl))))) PassesOwn.never) (x_sone (x_ret (x_var 3)))))))))
theorem ok_1 : FnOk P w K mg base (CX1 P w) 1 A.a_1 A.d_1 ["_law_number_here", "_law_begin_here", "_law_more", "_law_low", "_law_high", "_law_free"] (sp_1 K A) :=
 T.f_1.f.okS sc_1 (len_1 K A) (rd_1 T.1) fun _ _ _ _ _ _ hr =>
 x_scons (x_ifS (x_tcmp (oEqC hr.units150) (x_op oMod (x_var 0) (x_int)) (x_int)) (x_sone (x_ret (x_op oAddG (x_op oShl (x_var 1) (x_var 2)) (x_op oMod (x_op oMulB (x_var 0) (x_int)) (x_op oShl (x_int) (x_var 2)))))) (x_snil)) (x_scons (x_set 6 sc_1.nd (x_op oShr (x_op oAddG (x_var 3) (x_op oMod (x_var 0) (x_op oAddG (x_op oSub (x_var 4) (x_var 3)) (x_int)))) (x_op oSub (x_var 5) (x_var 2)))) (x_scons (x_ifS (x_tcmp (oNeB hr.units150) (x_op oShr (x_var 6) (x_var 2)) (x_var 1)) (x_sone (x_ret (x_op oShl (x_var 1) (x_var 2)))) (x_snil)) (x_sone (x_ret (x_var 6)))))
theorem ok_13 : ∀ n : Nat, FnOk P w K mg base (CX1 P w) (1 + n) A.a_13 A.d_13 ["_law_cell", "_law_bits_here", "_law_low", "_law_high", "_law_depth", "_law_begin_here", "_law_deep"] (sp_13 K A n)
 | 0 => ⟨fun vs H Q E h => (no_13 K A vs H Q E h).elim, fun _ _ _ H _ _ vs Q E _ _ _ _ h => (no_13 K A vs H Q E h).elim⟩
 | n + 1 => T.f_13.f.okS sc_13 (len_13 K A (n + 1)) (rd_13 T.1 n) fun _ _ _ _ _ _ (hr : Room (1 + n) _) =>
 x_scons (x_set 7 sc_13.nd (x_cl (ok_9 T) hr.le T.f_9 (x_cons (x_var 0) (x_cons (x_var 4) (x_cons (x_var 5) (x_nil)))))) (x_scons (x_ifS (x_tnot (x_test (x_cl (ok_8 T) hr.le T.f_8 (x_cons (x_var 1) (x_cons (x_var 2) (x_cons (x_var 3) (x_cons (x_var 4) (x_cons (x_var 5) (x_nil))))))))) (x_sone (x_ret (x_tup (x_cons (x_str) (x_cons (x_cl (ok_7 T) hr.le T.f_7 (x_cons (x_var 7) (x_nil))) (x_nil)))))) (x_snil)) (x_scons (x_ifS (x_w (x_wand (x_tcmp (oEqC hr.units150) (x_var 4) (x_int)) (x_wand1 (x_tcmp (oEqC hr.units150) (x_op oMod (x_var 7) (x_int)) (x_int))))) (x_sone (x_ret (x_tup (x_cons (x_str) (x_nil))))) (x_snil)) (x_scons (x_set 8 sc_13.nd (x_op oSub (x_var 1) (x_var 4))) (x_scons (x_ifS (x_w (x_wor (x_tcmp oLt (x_var 6) (x_int)) (x_wor (x_tcmp (oEqC hr.units150) (x_var 8) (x_int)) (x_wor1 (x_w (x_wand (x_tcmp (oEqC hr.units150) (x_op oMod (x_var 7) (x_int)) (x_int)) (x_wand1 (x_tcmp oLt (x_var 6) (x_int))))))))) (x_scons (x_set 9 sc_13.nd (x_op oAddG (x_op oMulB (x_var 5) (x_op oShl (x_int) (x_var 8))) (x_op oMod (x_op oMulB (x_op oFdivB (x_var 7) (x_int)) (x_int)) (x_op oShl (x_int) (x_var 8))))) (x_scons (x_ifS (x_w (x_wand (x_tcmp (oEqC hr.units150) (x_op oMod (x_var 7) (x_int)) (x_int)) (x_wand1 (x_tcmp (oEqC hr.units150) (x_op oShr (x_var 2) (x_var 8)) (x_var 5))))) (x_sone (x_set 9 sc_13.nd (x_var 2))) (x_snil)) (x_sone (x_ret (x_tup (x_cons (x_str) (x_cons (x_var 9) (x_cons (x_cl (ok_24 T) hr.le T.f_24 (x_cons (x_op oFdivB (x_var 7) (x_int)) (x_nil))) (x_nil))))))))) (x_snil)) (x_scons (x_set 10 sc_13.nd (x_ix (ix_any hr.units1) (x_lst (x_cons (x_int) (x_cons (x_op oMod (x_op oFdivB (x_var 7) (x_int)) (x_var 8)) (x_cons (x_int) (x_cons (x_op oMod (x_op oFdivB (x_var 7) (x_int)) (x_callB (cMin rfl) T.z_min boot_min (x_cons (x_var 8) (x_cons (x_int) (x_nil))))) (x_nil)))))) (x_op oMod (x_var 7) (x_int)) (fun _ _ => rfl))) (x_scons (x_set 11 sc_13.nd (x_cl (ok_1 T) hr.le T.f_1 (x_cons (x_var 7) (x_cons (x_var 5) (x_cons (x_var 10) (x_cons (x_var 2) (x_cons (x_var 3) (x_cons (x_var 8) (x_nil))))))))) (x_scons (x_set 12 sc_13.nd (x_cl (ok_13 n) hr.le T.f_13 (x_cons (x_var 0) (x_cons (x_var 1) (x_cons (x_var 2) (x_cons (x_var 3) (x_cons (x_op oAddG (x_op oAddG (x_var 4) (x_var 10)) (x_int)) (x_cons (x_op oMulB (x_int) (x_var 11)) (x_cons (x_op oSub (x_var 6) (x_int)) (x_nil)))))))))) (x_scons (x_set 13 sc_13.nd (x_cl (ok_13 n) hr.le T.f_13 (x_cons (x_var 0) (x_cons (x_var 1) (x_cons (x_var 2) (x_cons (x_var 3) (x_cons (x_op oAddG (x_op oAddG (x_var 4) (x_var 10)) (x_int)) (x_cons (x_op oAddG (x_op oMulB (x_int) (x_var 11)) (x_int)) (x_cons (x_op oSub (x_var 6) (x_int)) (x_nil)))))))))) (x_sone (x_ret (x_tup (x_cons (x_str) (x_cons (x_op oAddG (x_var 4) (x_var 10)) (x_cons (x_var 11) (x_cons (x_var 12) (x_cons (x_var 13) (x_nil)))))))))))))))))
theorem ok_12 : FnOk P w K mg base (CX1 P w) 72 A.a_12 A.d_12 ["_law_cell", "_law_bits_here", "_law_low", "_law_high"] (sp_12 K A) :=
 T.f_12.f.okS sc_12 (len_12 K A) (rd_12 T.1) fun _ _ _ _ _ _ hr =>
 x_scons (x_set 4 sc_12.nd (x_op oAddG (x_int) (x_op oMod (x_op oFdivB (x_var 0) (x_int)) (x_int)))) (x_scons (x_ifS (x_tcmp (oEqC hr.units150) (x_var 2) (x_var 3)) (x_sone (x_set 4 sc_12.nd (x_ix (ix_any hr.units1) (x_lst (x_cons (x_int) (x_cons (x_int) (x_cons (x_var 4) (x_nil))))) (x_op oMod (x_var 0) (x_int)) (fun _ _ => rfl)))) (x_snil)) (x_sone (x_ret (x_cl (ok_13 T 70) hr.le T.f_13 (x_cons (x_var 0) (x_cons (x_var 1) (x_cons (x_var 2) (x_cons (x_var 3) (x_cons (x_int) (x_cons (x_int) (x_cons (x_var 4) (x_nil))))))))))))
theorem ok_19 : ∀ n : Nat, FnOk P w K mg base (CX1 P w) (0 + n) A.a_19 A.d_19 ["_law_part_here", "_law_depth", "_law_begin_here", "_law_path"] (sp_19 K A n)
 | 0 => ⟨fun vs H Q E h => (no_19 K A vs H Q E h).elim, fun _ _ _ H _ _ vs Q E _ _ _ _ h => (no_19 K A vs H Q E h).elim⟩
 | n + 1 => T.f_19.f.okS sc_19 (len_19 K A (n + 1)) (rd_19 T.1 n) fun _ _ _ _ _ _ (hr : Room (0 + n) _) =>
 x_scons (x_set 4 sc_19.nd (x_lst (x_cons (x_tup (x_cons (x_var 1) (x_cons (x_var 2) (x_cons (x_var 3) (x_nil))))) (x_nil)))) (x_scons (x_ifS (x_tcmp (oEqC hr.units150) (x_ix (ix_any hr.units1) (x_var 0) (x_int) (fun _ _ => rfl)) (x_str)) (x_scons (x_set 4 sc_19.nd (x_op oAddG (x_var 4) (x_cl (ok_19 n) hr.le T.f_19 (x_cons (x_ix (ix_any hr.units1) (x_var 0) (x_int) (fun _ _ => rfl)) (x_cons (x_op oAddG (x_ix (ix_any hr.units1) (x_var 0) (x_int) (fun _ _ => rfl)) (x_int)) (x_cons (x_op oMulB (x_int) (x_ix (ix_any hr.units1) (x_var 0) (x_int) (fun _ _ => rfl))) (x_cons (x_op oAddG (x_var 3) (x_tup (x_cons (x_int) (x_nil)))) (x_nil)))))))) (x_sone (x_set 4 sc_19.nd (x_op oAddG (x_var 4) (x_cl (ok_19 n) hr.le T.f_19 (x_cons (x_ix (ix_any hr.units1) (x_var 0) (x_int) (fun _ _ => rfl)) (x_cons (x_op oAddG (x_ix (ix_any hr.units1) (x_var 0) (x_int) (fun _ _ => rfl)) (x_int)) (x_cons (x_op oAddG (x_op oMulB (x_int) (x_ix (ix_any hr.units1) (x_var 0) (x_int) (fun _ _ => rfl))) (x_int)) (x_cons (x_op oAddG (x_var 3) (x_tup (x_cons (x_int) (x_nil)))) (x_nil)))))))))) (x_snil)) (x_sone (x_ret (x_var 4))))
theorem ok_15 : FnOk P w K mg base (CX1 P w) 1 A.a_15 A.d_15 ["_law_part_here", "_law_path"] (sp_15 K A) :=
 T.f_15.f.okS sc_15 (len_15 K A) (rd_15 T.1) fun _ _ _ _ _ _ hr =>
 x_scons (x_for 2 sc_15.nd (x_seqA (x_var 1)) (x_sone (x_set 0 sc_15.nd (x_ix (ix_any hr.units1) (x_var 0) (x_var 2) (fun _ _ => rfl)))) PassesOwn.never) (x_sone (x_ret (x_var 0)))
theorem tm_21 (B : BM mg base) (C : PySem.W.CodeHd base A.k_21 A.t_21) (Ar : Around) (outer : List Env) (s : Shared) (H : Hp) (E : XK)
  (hr : Room 0 (Ar.deeper (envOfC "_law_sure" (defScope s_21) s.heap.objs.size A.a_21 (.ref A.k_21)))) : QMs (cxOf (CX1 P w) P w K mg base ["_law_first", "_law_known", "_law_number"] "_law_sure" (defScope s_21) A.a_21 (.ref A.k_21) Ar outer s H E).nox (defBody s_21) (T_21 K A (s.heap.objs.size + 1) (s.heap.objs.size + 1 + 1)) := (
 y_cons (y_lift (x_set 1 sc_21.nd (x_dnewA))) (y_cons (y_lift (x_def 2 sc_21.nd B C rfl (by rfl) (by simp) rfl rfl rfl rfl (fun _ _ _ _ _ us hl => by obtain ⟨_, rfl⟩ := L2.len1x hl; rfl))) (y_one (y_ret (x_var 2)))))
theorem ok_21 : FnOk P w K mg base (CX1 P w) 1 A.a_21 A.d_21 ["_law_first"] (sp_21 K A) :=
 T.f_21.f.okM (caps := fun L => [(0, L + 1), (1, L + 1 + 1)]) T.kc_21 sc_21 (len_21 K A) (fun L p hp => by simp only [List.mem_cons, List.not_mem_nil, or_false] at hp; rcases hp with rfl | rfl <;> exact ⟨_, rfl, rfl, rfl⟩) (fun L => by simp) (fun Ar outer s H vs Q E hr h => ⟨_, QMs.nox (tm_21 T T.B T.C_21 Ar outer s H E hr), rd_21 T.1 (s.heap.objs.size + 1) (s.heap.objs.size + 1 + 1) (by simp) vs H Q E h⟩)
theorem kinds1 : KindsOk P w K mg base 2 (Knd1 K A) := fun ts hts => by
 simp only [Knd1, List.mem_cons, List.not_mem_nil, or_false] at hts
 rcases hts with rfl | rfl
 · exact (ok_22 T).mono (by decide)
 · exact (ok_17 T).mono (by decide)
theorem ok_10 : ∀ n : Nat, FnOk P w K mg base (CX1 P w) (2 + n) A.a_10 A.d_10 ["_law_stamper", "_law_part_here"] (sp_10 K A n)
 | 0 => ⟨fun vs H Q E h => (no_10 K A vs H Q E h).elim, fun _ _ _ H _ _ vs Q E _ _ _ _ h => (no_10 K A vs H Q E h).elim⟩
 | n + 1 => T.f_10.f.okS sc_10 (len_10 K A (n + 1)) (rd_10 T.1 n) fun _ _ _ _ _ _ (hr : Room (2 + n) _) =>
 x_scons (x_ifS (x_tcmp (oEqC hr.units150) (x_ix (ix_any hr.units1) (x_var 1) (x_int) (fun _ _ => rfl)) (x_str)) (x_sone (x_ret (x_tup (x_cons (x_ix (ix_any hr.units1) (x_var 1) (x_int) (fun _ _ => rfl)) (x_cons (x_lst (x_nil)) (x_nil)))))) (x_snil)) (x_scons (x_ifS (x_tcmp (oNeB hr.units150) (x_ix (ix_any hr.units1) (x_var 1) (x_int) (fun _ _ => rfl)) (x_str)) (x_sone (x_ret (x_tup (x_cons (x_held (kinds1 T) hr.le passF (x_var 0) (x_cons (x_var 1) (x_nil))) (x_cons (x_lst (x_cons (x_var 1) (x_nil))) (x_nil)))))) (x_snil)) (x_scons (x_set 2 sc_10.nd (x_cl (ok_10 n) hr.le T.f_10 (x_cons (x_var 0) (x_cons (x_ix (ix_any hr.units1) (x_var 1) (x_int) (fun _ _ => rfl)) (x_nil))))) (x_scons (x_set 3 sc_10.nd (x_cl (ok_10 n) hr.le T.f_10 (x_cons (x_var 0) (x_cons (x_ix (ix_any hr.units1) (x_var 1) (x_int) (fun _ _ => rfl)) (x_nil))))) (x_scons (x_set 4 sc_10.nd (x_tup (x_cons (x_str) (x_cons (x_ix (ix_any hr.units1) (x_var 1) (x_int) (fun _ _ => rfl)) (x_cons (x_ix (ix_any hr.units1) (x_var 1) (x_int) (fun _ _ => rfl)) (x_cons (x_ix (ix_any hr.units1) (x_var 2) (x_int) (fun _ _ => rfl)) (x_cons (x_ix (ix_any hr.units1) (x_var 3) (x_int) (fun _ _ => rfl)) (x_nil)))))))) (x_sone (x_ret (x_tup (x_cons (x_held (kinds1 T) hr.le passF (x_var 0) (x_cons (x_var 4) (x_nil))) (x_cons (x_op oAddG (x_op oAddG (x_ix (ix_any hr.units1) (x_var 2) (x_int) (fun _ _ => rfl)) (x_ix (ix_any hr.units1) (x_var 3) (x_int) (fun _ _ => rfl))) (x_lst (x_cons (x_var 4) (x_nil)))) (x_nil))))))))))
theorem tm_16 (B : BM mg base) (C : PySem.W.CodeHd base A.k_16 A.t_16) (Ar : Around) (outer : List Env) (s : Shared) (H : Hp) (E : XK)
  (hr : Room 0 (Ar.deeper (envOfC "_law_planted" (defScope s_16) s.heap.objs.size A.a_16 (.ref A.k_16)))) : QMs (cxOf (CX1 P w) P w K mg base ["_law_sure_one", "_law_one", "_law_other", "_law_number"] "_law_planted" (defScope s_16) A.a_16 (.ref A.k_16) Ar outer s H E).nox (defBody s_16) (T_16 K A (s.heap.objs.size + 1) (s.heap.objs.size + 1 + 1) (s.heap.objs.size + 1 + 1 + 1)) := (
 y_cons (y_lift (x_def 3 sc_16.nd B C rfl (by rfl) (by simp) rfl rfl rfl rfl (fun _ _ _ _ _ us hl => by obtain ⟨_, rfl⟩ := L2.len1x hl; rfl))) (y_one (y_ret (x_var 3))))
theorem ok_16 : FnOk P w K mg base (CX1 P w) 1 A.a_16 A.d_16 ["_law_sure_one", "_law_one", "_law_other"] (sp_16 K A) :=
 T.f_16.f.okM (caps := fun L => [(0, L + 1), (1, L + 1 + 1), (2, L + 1 + 1 + 1)]) T.kc_16 sc_16 (len_16 K A) (fun L p hp => by simp only [List.mem_cons, List.not_mem_nil, or_false] at hp; rcases hp with rfl | rfl | rfl <;> exact ⟨_, rfl, rfl, rfl⟩) (fun L => by simp) (fun Ar outer s H vs Q E hr h => ⟨_, QMs.nox (tm_16 T T.B T.C_16 Ar outer s H E hr), rd_16 T.1 (s.heap.objs.size + 1) (s.heap.objs.size + 1 + 1) (s.heap.objs.size + 1 + 1 + 1) (by simp) vs H Q E h⟩)
theorem ok_25 : ∀ n : Nat, FnOk P w K mg base (CX1 P w) (0 + n) A.a_25 A.d_25 ["_law_part_here", "_law_path", "_law_new"] (sp_25 K A n)
 | 0 => ⟨fun vs H Q E h => (no_25 K A vs H Q E h).elim, fun _ _ _ H _ _ vs Q E _ _ _ _ h => (no_25 K A vs H Q E h).elim⟩
 | n + 1 => T.f_25.f.okS sc_25 (len_25 K A (n + 1)) (rd_25 T.1 n) fun _ _ _ _ _ _ (hr : Room (0 + n) _) =>
 x_scons (x_ifS (x_tcmp (oEqC hr.units150) (x_var 1) (x_tup (x_nil))) (x_sone (x_ret (x_var 2))) (x_snil)) (x_scons (x_set 3 sc_25.nd (x_ix (ix_any hr.units1) (x_var 1) (x_int) (fun _ _ => rfl))) (x_sone (x_ret (x_op oAddG (x_op oAddG (x_slice sl_all (x_var 0) (x_onone) (x_osome (x_var 3))) (x_tup (x_cons (x_cl (ok_25 n) hr.le T.f_25 (x_cons (x_ix (ix_any hr.units1) (x_var 0) (x_var 3) (fun _ _ => rfl)) (x_cons (x_slice sl_all (x_var 1) (x_osome (x_int)) (x_onone)) (x_cons (x_var 2) (x_nil))))) (x_nil)))) (x_slice sl_all (x_var 0) (x_osome (x_op oAddG (x_var 3) (x_int))) (x_onone))))))
theorem ok_14 : FnOk P w K mg base (CX1 P w) 1 A.a_14 A.d_14 ["_law_found", "_law_due"] (sp_14 K A) :=
 T.f_14.f.okS sc_14 (len_14 K A) (rd_14 T.1) fun _ _ _ _ _ _ hr =>
 x_scons (x_ifS (x_test (x_callB cIsi T.z_isinstance boot_isinstance (x_cons (x_var 1) (x_cons (x_ty T.z_str boot_str) (x_nil))))) (x_sone (x_ret (x_and (x_callB cIsi T.z_isinstance boot_isinstance (x_cons (x_var 0) (x_cons (x_ty T.z_str boot_str) (x_nil)))) (x_one (x_cmp (oEqC hr.units150) (x_var 0) (x_var 1)))))) (x_snil)) (x_sone (x_ret (x_and (x_callB cIsi T.z_isinstance boot_isinstance (x_cons (x_var 0) (x_cons (x_ty T.z_int boot_int) (x_nil)))) (x_and (x_not (x_callB cIsi T.z_isinstance boot_isinstance (x_cons (x_var 0) (x_cons (x_ty T.z_bool boot_bool) (x_nil))))) (x_one (x_cmp (oEqC hr.units150) (x_var 0) (x_var 1)))))))
theorem ok_37 : FnOk P w K mg base (CX1 P w) 1 A.a_37 A.d_37 ["thing"] (sp_37 K A) :=
 T.f_37.f.okS sc_37 (len_37 K A) (rd_37 T.1) fun _ _ _ _ _ _ hr =>
 x_sone (x_ret (x_and (x_callB cIsi T.z_isinstance boot_isinstance (x_cons (x_var 0) (x_cons (x_ty T.z_int boot_int) (x_nil)))) (x_one (x_not (x_callB cIsi T.z_isinstance boot_isinstance (x_cons (x_var 0) (x_cons (x_ty T.z_bool boot_bool) (x_nil))))))))
theorem ok_32 : FnOk P w K mg base (CX1 P w) 2 A.a_32 A.d_32 ["bits", "thing"] (sp_32 K A) :=
 T.f_32.f.okS sc_32 (len_32 K A) (rd_32 T.1) fun _ _ _ _ _ _ hr =>
 x_sone (x_ret (x_and (x_cl (ok_37 T) hr.le T.f_37 (x_cons (x_var 1) (x_nil))) (x_one (x_chain oLe oLt (x_int) (x_var 1) (x_op oShl (x_int) (x_var 0))))))
theorem ok_28 : FnOk P w K mg base (CX1 P w) 3 A.a_28 A.d_28 ["bits", "low", "high"] (sp_28 K A) :=
 T.f_28.f.okS sc_28 (len_28 K A) (rd_28 T.1) fun _ _ _ _ _ _ hr =>
 x_scons (x_ifS (x_w (x_wor (x_tnot (x_test (x_cl (ok_32 T) hr.le T.f_32 (x_cons (x_var 0) (x_cons (x_var 1) (x_nil)))))) (x_wor1 (x_tnot (x_test (x_cl (ok_32 T) hr.le T.f_32 (x_cons (x_var 0) (x_cons (x_var 2) (x_nil))))))))) (x_sone (x_never)) (x_snil)) (x_sone (x_ifS (x_tcmp oGt (x_var 1) (x_var 2)) (x_sone (x_never)) (x_snil)))
theorem ok_43 : FnOk P w K mg base (CX1 P w) 1 A.a_43 A.d_43 ["bits", "depth", "begin"] (sp_43 K A) :=
 T.f_43.f.okS sc_43 (len_43 K A) (rd_43 T.1) fun _ _ _ _ _ _ hr =>
 x_scons (x_set 3 sc_43.nd (x_op oSub (x_var 0) (x_var 1))) (x_sone (x_ret (x_tup (x_cons (x_op oShl (x_var 2) (x_var 3)) (x_cons (x_op oSub (x_op oShl (x_op oAddG (x_var 2) (x_int)) (x_var 3)) (x_int)) (x_nil))))))
theorem ok_39 : FnOk P w K mg base (CX1 P w) 2 A.a_39 A.d_39 ["bits", "low", "high", "depth", "begin"] (sp_39 K A) :=
 T.f_39.f.okS sc_39 (len_39 K A) (rd_39 T.1) fun _ _ _ _ _ _ hr =>
 x_scons (x_set 5 sc_39.nd (x_cl (ok_43 T) hr.le T.f_43 (x_cons (x_var 0) (x_cons (x_var 3) (x_cons (x_var 4) (x_nil)))))) (x_sone (x_ret (x_and (x_cmp oLe (x_ix (ix_any hr.units1) (x_var 5) (x_int) (fun _ _ => rfl)) (x_var 2)) (x_one (x_cmp oLe (x_var 1) (x_ix (ix_any hr.units1) (x_var 5) (x_int) (fun _ _ => rfl)))))))
theorem ok_35 : FnOk P w K mg base (CX1 P w) 2 A.a_35 A.d_35 ["thing"] (sp_35 K A) :=
 T.f_35.f.okS sc_35 (len_35 K A) (rd_35 T.1) fun _ _ _ _ _ _ hr =>
 x_scons (x_ifS (x_test (x_cl (ok_37 T) hr.le T.f_37 (x_cons (x_var 0) (x_nil)))) (x_sone (x_ret (x_chain oLe oLt (x_int) (x_var 0) (x_op oPow (x_int) (x_int))))) (x_snil)) (x_sone (x_ret (x_callB cIsi T.z_isinstance boot_isinstance (x_cons (x_var 0) (x_cons (x_ty T.z_str boot_str) (x_nil))))))
theorem ok_30 : FnOk P w K mg base (CX1 P w) 3 A.a_30 A.d_30 ["thing"] (sp_30 K A) :=
 T.f_30.f.okS sc_30 (len_30 K A) (rd_30 T.1) fun _ _ _ _ _ _ hr =>
 x_sone (x_ret (x_and (x_callB cIsi T.z_isinstance boot_isinstance (x_cons (x_var 0) (x_cons (x_ty T.z_tuple boot_tuple) (x_nil)))) (x_and (x_cmp (oEqC hr.units150) (x_callB cLenA T.z_len PySem.boot_len (x_cons (x_var 0) (x_nil))) (x_int)) (x_and (x_cmp (oEqC hr.units150) (x_ix (ix_any hr.units1) (x_var 0) (x_int) (fun _ _ => rfl)) (x_str)) (x_one (x_cl (ok_35 T) hr.le T.f_35 (x_cons (x_ix (ix_any hr.units1) (x_var 0) (x_int) (fun _ _ => rfl)) (x_nil))))))))
theorem ok_36 : FnOk P w K mg base (CX1 P w) 1 A.a_36 A.d_36 ["thing"] (sp_36 K A) :=
 T.f_36.f.okS sc_36 (len_36 K A) (rd_36 T.1) fun _ _ _ _ _ _ hr =>
 x_sone (x_ret (x_and (x_callB cIsi T.z_isinstance boot_isinstance (x_cons (x_var 0) (x_cons (x_ty T.z_str boot_str) (x_nil)))) (x_one (x_cmp oLe (x_callB cLenA T.z_len PySem.boot_len (x_cons (x_var 0) (x_nil))) (x_gi T.c_MOST_SIGNS)))))
theorem ok_44 : FnOk P w K mg base (CX1 P w) 1 A.a_44 A.d_44 ["bits", "key", "depth"] (sp_44 K A) :=
 T.f_44.f.okS sc_44 (len_44 K A) (rd_44 T.1) fun _ _ _ _ _ _ hr =>
 x_sone (x_ret (x_op oShr (x_var 1) (x_op oSub (x_var 0) (x_var 2))))
theorem ok_33 : FnOk P w K mg base (CX1 P w) 3 A.a_33 A.d_33 ["bits", "depth", "begin", "thing"] (sp_33 K A) :=
 T.f_33.f.okS sc_33 (len_33 K A) (rd_33 T.1) fun _ _ _ _ _ _ hr =>
 x_scons (x_ifS (x_w (x_wor (x_tnot (x_test (x_callB cIsi T.z_isinstance boot_isinstance (x_cons (x_var 3) (x_cons (x_ty T.z_tuple boot_tuple) (x_nil)))))) (x_wor (x_tcmp (oNeB hr.units150) (x_callB cLenA T.z_len PySem.boot_len (x_cons (x_var 3) (x_nil))) (x_int)) (x_wor1 (x_tcmp (oNeB hr.units150) (x_ix (ix_any hr.units1) (x_var 3) (x_int) (fun _ _ => rfl)) (x_str)))))) (x_sone (x_ret (x_bl))) (x_snil)) (x_scons (x_ifS (x_w (x_wor (x_tnot (x_test (x_cl (ok_32 T) hr.le T.f_32 (x_cons (x_var 0) (x_cons (x_ix (ix_any hr.units1) (x_var 3) (x_int) (fun _ _ => rfl)) (x_nil)))))) (x_wor1 (x_tnot (x_test (x_cl (ok_36 T) hr.le T.f_36 (x_cons (x_ix (ix_any hr.units1) (x_var 3) (x_int) (fun _ _ => rfl)) (x_nil)))))))) (x_sone (x_ret (x_bl))) (x_snil)) (x_sone (x_ret (x_cmp (oEqC hr.units150) (x_cl (ok_44 T) hr.le T.f_44 (x_cons (x_var 0) (x_cons (x_ix (ix_any hr.units1) (x_var 3) (x_int) (fun _ _ => rfl)) (x_cons (x_var 1) (x_nil))))) (x_var 2)))))
theorem ok_31 : FnOk P w K mg base (CX1 P w) 2 A.a_31 A.d_31 ["bits", "depth", "begin", "thing"] (sp_31 K A) :=
 T.f_31.f.okS sc_31 (len_31 K A) (rd_31 T.1) fun _ _ _ _ _ _ hr =>
 x_scons (x_ifS (x_w (x_wor (x_tnot (x_test (x_callB cIsi T.z_isinstance boot_isinstance (x_cons (x_var 3) (x_cons (x_ty T.z_tuple boot_tuple) (x_nil)))))) (x_wor (x_tcmp (oNeB hr.units150) (x_callB cLenA T.z_len PySem.boot_len (x_cons (x_var 3) (x_nil))) (x_int)) (x_wor1 (x_tcmp (oNeB hr.units150) (x_ix (ix_any hr.units1) (x_var 3) (x_int) (fun _ _ => rfl)) (x_str)))))) (x_sone (x_ret (x_bl))) (x_snil)) (x_scons (x_ifS (x_w (x_wor (x_tnot (x_test (x_cl (ok_37 T) hr.le T.f_37 (x_cons (x_ix (ix_any hr.units1) (x_var 3) (x_int) (fun _ _ => rfl)) (x_nil))))) (x_wor1 (x_tnot (x_tchain oLe oLt (x_var 1) (x_ix (ix_any hr.units1) (x_var 3) (x_int) (fun _ _ => rfl)) (x_var 0)))))) (x_sone (x_ret (x_bl))) (x_snil)) (x_scons (x_ifS (x_w (x_wor (x_tnot (x_test (x_cl (ok_37 T) hr.le T.f_37 (x_cons (x_ix (ix_any hr.units1) (x_var 3) (x_int) (fun _ _ => rfl)) (x_nil))))) (x_wor1 (x_tnot (x_tchain oLe oLt (x_int) (x_ix (ix_any hr.units1) (x_var 3) (x_int) (fun _ _ => rfl)) (x_op oShl (x_int) (x_ix (ix_any hr.units1) (x_var 3) (x_int) (fun _ _ => rfl)))))))) (x_sone (x_ret (x_bl))) (x_snil)) (x_sone (x_ret (x_cmp (oEqC hr.units150) (x_op oShr (x_ix (ix_any hr.units1) (x_var 3) (x_int) (fun _ _ => rfl)) (x_op oSub (x_ix (ix_any hr.units1) (x_var 3) (x_int) (fun _ _ => rfl)) (x_var 1))) (x_var 2))))))
theorem ok_34 : FnOk P w K mg base (CX1 P w) 4 A.a_34 A.d_34 ["bits", "low", "high", "depth", "begin", "thing"] (sp_34 K A) :=
 T.f_34.f.okS sc_34 (len_34 K A) (rd_34 T.1) fun _ _ _ _ _ _ hr =>
 x_scons (x_ifS (x_tnot (x_test (x_cl (ok_39 T) hr.le T.f_39 (x_cons (x_var 0) (x_cons (x_var 1) (x_cons (x_var 2) (x_cons (x_var 3) (x_cons (x_var 4) (x_nil))))))))) (x_sone (x_ret (x_cl (ok_30 T) hr.le T.f_30 (x_cons (x_var 5) (x_nil))))) (x_snil)) (x_scons (x_ifS (x_tcmp (oEqC hr.units150) (x_var 5) (x_tup (x_cons (x_str) (x_nil)))) (x_sone (x_ret (x_cmp (oEqC hr.units150) (x_var 3) (x_int)))) (x_snil)) (x_sone (x_ret (x_or (x_cl (ok_33 T) hr.le T.f_33 (x_cons (x_var 0) (x_cons (x_var 3) (x_cons (x_var 4) (x_cons (x_var 5) (x_nil)))))) (x_one (x_cl (ok_31 T) hr.le T.f_31 (x_cons (x_var 0) (x_cons (x_var 3) (x_cons (x_var 4) (x_cons (x_var 5) (x_nil)))))))))))
theorem ok_27 : ∀ n : Nat, FnOk P w K mg base (CX1 P w) (4 + n) A.a_27 A.d_27 ["bits", "low", "high", "depth", "begin", "part"] (sp_27 K A n)
 | 0 => ⟨fun vs H Q E h => (no_27 K A vs H Q E h).elim, fun _ _ _ H _ _ vs Q E _ _ _ _ h => (no_27 K A vs H Q E h).elim⟩
 | n + 1 => T.f_27.f.okS sc_27 (len_27 K A (n + 1)) (rd_27 T.1 n) fun _ _ _ _ _ _ (hr : Room (4 + n) _) =>
 x_scons (x_ifS (x_tnot (x_test (x_cl (ok_34 T) hr.le T.f_34 (x_cons (x_var 0) (x_cons (x_var 1) (x_cons (x_var 2) (x_cons (x_var 3) (x_cons (x_var 4) (x_cons (x_var 5) (x_nil)))))))))) (x_sone (x_never)) (x_snil)) (x_sone (x_ifS (x_tcmp (oEqC hr.units150) (x_ix (ix_any hr.units1) (x_var 5) (x_int) (fun _ _ => rfl)) (x_str)) (x_scons (x_drop (x_cl (ok_27 n) hr.le T.f_27 (x_cons (x_var 0) (x_cons (x_var 1) (x_cons (x_var 2) (x_cons (x_op oAddG (x_ix (ix_any hr.units1) (x_var 5) (x_int) (fun _ _ => rfl)) (x_int)) (x_cons (x_op oMulB (x_int) (x_ix (ix_any hr.units1) (x_var 5) (x_int) (fun _ _ => rfl))) (x_cons (x_ix (ix_any hr.units1) (x_var 5) (x_int) (fun _ _ => rfl)) (x_nil))))))))) (x_sone (x_drop (x_cl (ok_27 n) hr.le T.f_27 (x_cons (x_var 0) (x_cons (x_var 1) (x_cons (x_var 2) (x_cons (x_op oAddG (x_ix (ix_any hr.units1) (x_var 5) (x_int) (fun _ _ => rfl)) (x_int)) (x_cons (x_op oAddG (x_op oMulB (x_int) (x_ix (ix_any hr.units1) (x_var 5) (x_int) (fun _ _ => rfl))) (x_int)) (x_cons (x_ix (ix_any hr.units1) (x_var 5) (x_int) (fun _ _ => rfl)) (x_nil))))))))))) (x_snil)))
theorem ok_26 : FnOk P w K mg base (CX1 P w) 75 A.a_26 A.d_26 ["bits", "low", "high", "paper"] (sp_26 K A) :=
 T.f_26.f.okS sc_26 (len_26 K A) (rd_26 T.1) fun _ _ _ _ _ _ hr =>
 x_scons (x_drop (x_cl (ok_28 T) hr.le T.f_28 (x_cons (x_var 0) (x_cons (x_var 1) (x_cons (x_var 2) (x_nil)))))) (x_sone (x_drop (x_cl (ok_27 T 70) hr.le T.f_27 (x_cons (x_var 0) (x_cons (x_var 1) (x_cons (x_var 2) (x_cons (x_int) (x_cons (x_int) (x_cons (x_var 3) (x_nil))))))))))
theorem ok_40 : FnOk P w K mg base (CX1 P w) 3 A.a_40 A.d_40 ["stamper", "part", "terms"] (sp_40 K A) :=
 T.f_40.f.okS sc_40 (len_40 K A) (rd_40 T.1) fun _ _ _ _ _ _ hr =>
 x_sone (x_ret (x_if (x_tcmp (oEqC hr.units150) (x_ix (ix_any hr.units1) (x_var 1) (x_int) (fun _ _ => rfl)) (x_str)) (x_ix (ix_any hr.units1) (x_var 1) (x_int) (fun _ _ => rfl)) (x_held (kinds1 T) hr.le passF (x_var 0) (x_cons (x_ix (ix_any hr.units1) (x_var 2) (x_neg (x_int)) (fun _ _ => rfl)) (x_nil)))))
theorem ok_41 : ∀ n : Nat, FnOk P w K mg base (CX1 P w) (3 + n) A.a_41 A.d_41 ["stamper", "part"] (sp_41 K A n)
 | 0 => ⟨fun vs H Q E h => (no_41 K A vs H Q E h).elim, fun _ _ _ H _ _ vs Q E _ _ _ _ h => (no_41 K A vs H Q E h).elim⟩
 | n + 1 => T.f_41.f.okS sc_41 (len_41 K A (n + 1)) (rd_41 T.1 n) fun _ _ _ _ _ _ (hr : Room (3 + n) _) =>
 x_scons (x_ifS (x_tcmp (oEqC hr.units150) (x_ix (ix_any hr.units1) (x_var 1) (x_int) (fun _ _ => rfl)) (x_str)) (x_sone (x_ret (x_lst (x_nil)))) (x_snil)) (x_scons (x_ifS (x_tcmp (oNeB hr.units150) (x_ix (ix_any hr.units1) (x_var 1) (x_int) (fun _ _ => rfl)) (x_str)) (x_sone (x_ret (x_lst (x_cons (x_var 1) (x_nil))))) (x_snil)) (x_scons (x_set 2 sc_41.nd (x_cl (ok_41 n) hr.le T.f_41 (x_cons (x_var 0) (x_cons (x_ix (ix_any hr.units1) (x_var 1) (x_int) (fun _ _ => rfl)) (x_nil))))) (x_scons (x_set 3 sc_41.nd (x_cl (ok_41 n) hr.le T.f_41 (x_cons (x_var 0) (x_cons (x_ix (ix_any hr.units1) (x_var 1) (x_int) (fun _ _ => rfl)) (x_nil))))) (x_scons (x_set 4 sc_41.nd (x_tup (x_cons (x_cl (ok_40 T) hr.le T.f_40 (x_cons (x_var 0) (x_cons (x_ix (ix_any hr.units1) (x_var 1) (x_int) (fun _ _ => rfl)) (x_cons (x_var 2) (x_nil))))) (x_cons (x_cl (ok_40 T) hr.le T.f_40 (x_cons (x_var 0) (x_cons (x_ix (ix_any hr.units1) (x_var 1) (x_int) (fun _ _ => rfl)) (x_cons (x_var 3) (x_nil))))) (x_nil))))) (x_sone (x_ret (x_op oAddG (x_op oAddG (x_var 2) (x_var 3)) (x_lst (x_cons (x_tup (x_cons (x_str) (x_cons (x_ix (ix_any hr.units1) (x_var 1) (x_int) (fun _ _ => rfl)) (x_cons (x_ix (ix_any hr.units1) (x_var 1) (x_int) (fun _ _ => rfl)) (x_cons (x_ix (ix_any hr.units1) (x_var 4) (x_int) (fun _ _ => rfl)) (x_cons (x_ix (ix_any hr.units1) (x_var 4) (x_int) (fun _ _ => rfl)) (x_nil))))))) (x_nil))))))))))
theorem ok_47 : FnOk P w K mg base (CX1 P w) 76 A.a_47 A.d_47 ["stamper", "bits", "low", "high", "paper"] (sp_47 K A) :=
 T.f_47.f.okS sc_47 (len_47 K A) (rd_47 T.1) fun _ _ _ _ _ _ hr =>
 x_scons (x_drop (x_cl (ok_26 T) hr.le T.f_26 (x_cons (x_var 1) (x_cons (x_var 2) (x_cons (x_var 3) (x_cons (x_var 4) (x_nil))))))) (x_sone (x_ret (x_cl (ok_41 T 70) hr.le T.f_41 (x_cons (x_var 0) (x_cons (x_var 4) (x_nil))))))
theorem ok_46 : FnOk P w K mg base (CX1 P w) 77 A.a_46 A.d_46 ["stamper", "bits", "low", "high", "paper"] (sp_46 K A) :=
 T.f_46.f.okS sc_46 (len_46 K A) (rd_46 T.1) fun _ _ _ _ _ _ hr =>
 x_sone (x_ret (x_held (kinds1 T) hr.le passF (x_var 0) (x_cons (x_ix (ix_any hr.units1) (x_cl (ok_47 T) hr.le T.f_47 (x_cons (x_var 0) (x_cons (x_var 1) (x_cons (x_var 2) (x_cons (x_var 3) (x_cons (x_var 4) (x_nil))))))) (x_neg (x_int)) (fun _ _ => rfl)) (x_nil))))
theorem ok_42 : FnOk P w K mg base (CX1 P w) 1 A.a_42 A.d_42 ["low", "high", "terms"] (sp_42 K A) :=
 T.f_42.f.okS sc_42 (len_42 K A) (rd_42 T.1) fun _ _ _ _ _ _ hr =>
 x_sone (x_ret (x_comp (ys := ["low", "high"]) (by exact ⟨rfl, by decide +kernel, by decide +kernel, rfl, by decide +kernel, by decide +kernel⟩) (by exact .cons rfl (by first | exact .inl rfl | exact .inr rfl) rfl (.cons rfl (by first | exact .inl rfl | exact .inr rfl) rfl (.nil))) (x_seqA (x_var 2)) (fun C s H fp => x_oneif (x_w (x_wand (x_tcmp (oEqC hr.units150) (x_ix (ix_any hr.units1) (x_var 0) (x_int) (fun _ _ => rfl)) (x_str)) (x_wand1 (x_tchain oLe oLe (x_var 1) (x_ix (ix_any hr.units1) (x_var 0) (x_int) (fun _ _ => rfl)) (x_var 2)))))) (fun C s H fp => (x_tup (x_cons (x_ix (ix_any hr.units1) (x_var 0) (x_int) (fun _ _ => rfl)) (x_cons (x_ix (ix_any hr.units1) (x_var 0) (x_int) (fun _ _ => rfl)) (x_nil)))))))
theorem ok_45 : FnOk P w K mg base (CX1 P w) 77 A.a_45 A.d_45 ["stamper", "bits", "mark", "low", "high", "paper"] (sp_45 K A) :=
 T.f_45.f.okS sc_45 (len_45 K A) (rd_45 T.1) fun _ _ _ _ _ _ hr =>
 x_scons (x_set 6 sc_45.nd (x_cl (ok_47 T) hr.le T.f_47 (x_cons (x_var 0) (x_cons (x_var 1) (x_cons (x_var 3) (x_cons (x_var 4) (x_cons (x_var 5) (x_nil)))))))) (x_scons (x_set 7 sc_45.nd (x_held (kinds1 T) hr.le passF (x_var 0) (x_cons (x_ix (ix_any hr.units1) (x_var 6) (x_neg (x_int)) (fun _ _ => rfl)) (x_nil)))) (x_scons (x_ifS (x_tcmp (oNeB hr.units150) (x_var 7) (x_var 2)) (x_sone (x_never)) (x_snil)) (x_sone (x_ret (x_cl (ok_42 T) hr.le T.f_42 (x_cons (x_var 3) (x_cons (x_var 4) (x_cons (x_var 6) (x_nil)))))))))
theorem ok_23 : FnOk P w K mg base (CX1 P w) 2 A.a_23 A.d_23 ["_law_found", "_law_due"] (sp_23 K A) :=
 T.f_23.f.okS sc_23 (len_23 K A) (rd_23 T.1) fun _ _ _ _ _ _ hr =>
 x_scons (x_ifS (x_w (x_wor (x_tnot (x_test (x_callB cIsi T.z_isinstance boot_isinstance (x_cons (x_var 0) (x_cons (x_ty T.z_tuple boot_tuple) (x_nil)))))) (x_wor1 (x_tcmp (oNeB hr.units150) (x_callB cLenA T.z_len PySem.boot_len (x_cons (x_var 0) (x_nil))) (x_callB cLenA T.z_len PySem.boot_len (x_cons (x_var 1) (x_nil))))))) (x_sone (x_ret (x_bl))) (x_snil)) (x_scons (x_for 2 sc_23.nd (x_range1 T.z_range (x_cons (x_callB cLenA T.z_len PySem.boot_len (x_cons (x_var 1) (x_nil))) (x_nil))) (x_sone (x_ifS (x_tnot (x_test (x_cl (ok_14 T) hr.le T.f_14 (x_cons (x_ix (ix_any hr.units1) (x_var 0) (x_var 2) (fun _ _ => rfl)) (x_cons (x_ix (ix_any hr.units1) (x_var 1) (x_var 2) (fun _ _ => rfl)) (x_nil)))))) (x_sone (x_ret (x_bl))) (x_snil))) PassesOwn.never) (x_sone (x_ret (x_bl))))
theorem ok_18 : FnOk P w K mg base (CX1 P w) 3 A.a_18 A.d_18 ["_law_found", "_law_due"] (sp_18 K A) :=
 T.f_18.f.okS sc_18 (len_18 K A) (rd_18 T.1) fun _ _ _ _ _ _ hr =>
 x_scons (x_ifS (x_w (x_wor (x_tnot (x_test (x_callB cIsi T.z_isinstance boot_isinstance (x_cons (x_var 0) (x_cons (x_ty T.z_list boot_list) (x_nil)))))) (x_wor1 (x_tcmp (oNeB hr.units150) (x_callB cLenA T.z_len PySem.boot_len (x_cons (x_var 0) (x_nil))) (x_callB cLenA T.z_len PySem.boot_len (x_cons (x_var 1) (x_nil))))))) (x_sone (x_ret (x_bl))) (x_snil)) (x_scons (x_for 2 sc_18.nd (x_range1 T.z_range (x_cons (x_callB cLenA T.z_len PySem.boot_len (x_cons (x_var 1) (x_nil))) (x_nil))) (x_sone (x_ifS (x_tnot (x_test (x_cl (ok_23 T) hr.le T.f_23 (x_cons (x_ix (ix_any hr.units1) (x_var 0) (x_var 2) (fun _ _ => rfl)) (x_cons (x_ix (ix_any hr.units1) (x_var 1) (x_var 2) (fun _ _ => rfl)) (x_nil)))))) (x_sone (x_ret (x_bl))) (x_snil))) PassesOwn.never) (x_sone (x_ret (x_bl))))
theorem ok_5 : ∀ n : Nat, FnOk P w K mg base (CX1 P w) (0 + n) A.a_5 A.d_5 ["_law_part_here"] (sp_5 K A n)
 | 0 => ⟨fun vs H Q E h => (no_5 K A vs H Q E h).elim, fun _ _ _ H _ _ vs Q E _ _ _ _ h => (no_5 K A vs H Q E h).elim⟩
 | n + 1 => T.f_5.f.okS sc_5 (len_5 K A (n + 1)) (rd_5 T.1 n) fun _ _ _ _ _ _ (hr : Room (0 + n) _) =>
 x_scons (x_ifS (x_tcmp (oEqC hr.units150) (x_ix (ix_any hr.units1) (x_var 0) (x_int) (fun _ _ => rfl)) (x_str)) (x_sone (x_ret (x_lst (x_cons (x_tup (x_cons (x_ix (ix_any hr.units1) (x_var 0) (x_int) (fun _ _ => rfl)) (x_cons (x_ix (ix_any hr.units1) (x_var 0) (x_int) (fun _ _ => rfl)) (x_nil)))) (x_nil))))) (x_snil)) (x_scons (x_ifS (x_tcmp (oEqC hr.units150) (x_ix (ix_any hr.units1) (x_var 0) (x_int) (fun _ _ => rfl)) (x_str)) (x_sone (x_ret (x_op oAddG (x_cl (ok_5 n) hr.le T.f_5 (x_cons (x_ix (ix_any hr.units1) (x_var 0) (x_int) (fun _ _ => rfl)) (x_nil))) (x_cl (ok_5 n) hr.le T.f_5 (x_cons (x_ix (ix_any hr.units1) (x_var 0) (x_int) (fun _ _ => rfl)) (x_nil)))))) (x_snil)) (x_sone (x_ret (x_lst (x_nil)))))
theorem ok_3 : FnOk P w K mg base (CX1 P w) 71 A.a_3 A.d_3 ["_law_part_here", "_law_low", "_law_high"] (sp_3 K A) :=
 T.f_3.f.okS sc_3 (len_3 K A) (rd_3 T.1) fun _ _ _ _ _ _ hr =>
 x_sone (x_ret (x_comp (ys := ["_law_low", "_law_high"]) (by exact ⟨rfl, by decide +kernel, by decide +kernel, rfl, by decide +kernel, by decide +kernel⟩) (by exact .cons rfl (by first | exact .inl rfl | exact .inr rfl) rfl (.cons rfl (by first | exact .inl rfl | exact .inr rfl) rfl (.nil))) (x_seqA (x_cl (ok_5 T 70) hr.le T.f_5 (x_cons (x_var 0) (x_nil)))) (fun C s H fp => x_oneif (x_tchain oLe oLe (x_var 1) (x_ix (ix_any hr.units1) (x_var 0) (x_int) (fun _ _ => rfl)) (x_var 2))) (fun C s H fp => (x_var 0))))
theorem ok_6 : FnOk P w K mg base (CX1 P w) 78 A.a_6 A.d_6 ["_law_stamper", "_law_bits_here", "_law_ends", "_law_mark_here", "_law_paper_here"] (sp_6 K A) :=
 T.f_6.f.okS sc_6 (len_6 K A) (rd_6 T.1) fun _ _ _ _ _ _ hr =>
 x_scons (x_ifS (x_tnot (x_test (x_cl (ok_14 T) hr.le T.f_14 (x_cons (x_cl (ok_46 T) hr.le T.f_46 (x_cons (x_var 0) (x_cons (x_var 1) (x_cons (x_ix (ix_any hr.units1) (x_var 2) (x_int) (fun _ _ => rfl)) (x_cons (x_ix (ix_any hr.units1) (x_var 2) (x_int) (fun _ _ => rfl)) (x_cons (x_var 4) (x_nil))))))) (x_cons (x_var 3) (x_nil)))))) (x_sone (x_ret (x_bl))) (x_snil)) (x_scons (x_set 5 sc_6.nd (x_cl (ok_45 T) hr.le T.f_45 (x_cons (x_var 0) (x_cons (x_var 1) (x_cons (x_var 3) (x_cons (x_ix (ix_any hr.units1) (x_var 2) (x_int) (fun _ _ => rfl)) (x_cons (x_ix (ix_any hr.units1) (x_var 2) (x_int) (fun _ _ => rfl)) (x_cons (x_var 4) (x_nil))))))))) (x_sone (x_ret (x_cl (ok_18 T) hr.le T.f_18 (x_cons (x_var 5) (x_cons (x_cl (ok_3 T) hr.le T.f_3 (x_cons (x_var 4) (x_cons (x_ix (ix_any hr.units1) (x_var 2) (x_int) (fun _ _ => rfl)) (x_cons (x_ix (ix_any hr.units1) (x_var 2) (x_int) (fun _ _ => rfl)) (x_nil))))) (x_nil)))))))
theorem ok_29 : FnOk P w K mg base (CX1 P w) 3 A.a_29 A.d_29 ["stamper", "terms"] (sp_29 K A) :=
 T.f_29.f.okS sc_29 (len_29 K A) (rd_29 T.1) fun _ _ _ _ _ _ hr =>
 x_scons (x_set 2 sc_29.nd (x_dnewA)) (x_scons (x_for 3 sc_29.nd (x_seqA (x_var 1)) (x_scons (x_set 4 sc_29.nd (x_bm PySem.F.plainAttrs_dict PySem.F.slot_dict_setdefault PySem.F.type_dict_setdefault (mt_setdef hr.units1) (x_var 2) (x_cons (x_held (kinds1 T) hr.le passF (x_var 0) (x_cons (x_var 3) (x_nil))) (x_cons (x_var 3) (x_nil))))) (x_sone (x_ifS (x_tcmp (oNeB hr.units150) (x_var 4) (x_var 3)) (x_sone (x_ret (x_tup (x_cons (x_var 4) (x_cons (x_var 3) (x_nil)))))) (x_snil)))) PassesOwn.never) (x_sone (x_ret (x_non))))
theorem ok_11 : FnOk P w K mg base (CX1 P w) 79 A.a_11 A.d_11 ["_law_bits_here", "_law_ends", "_law_paper_here", "_law_path", "_law_one", "_law_other", "_law_number_here"] (sp_11 K A) :=
 T.f_11.f.okS sc_11 (len_11 K A) (rd_11 T.1) fun _ _ _ _ _ _ hr =>
 x_scons (x_set 7 sc_11.nd (x_cl (ok_21 T) hr.le T.f_21 (x_cons (x_op oMod (x_var 6) (x_int)) (x_nil)))) (x_scons (x_set 8 sc_11.nd (x_ix (ix_any hr.units1) (x_cl (ok_10 T 70) hr.le T.f_10 (x_cons (x_var 7) (x_cons (x_var 4) (x_nil)))) (x_int) (fun _ _ => rfl))) (x_scons (x_set 9 sc_11.nd (x_ix (ix_any hr.units1) (x_cl (ok_10 T 70) hr.le T.f_10 (x_cons (x_var 7) (x_cons (x_var 5) (x_nil)))) (x_int) (fun _ _ => rfl))) (x_scons (x_ifS (x_tcmp (oInA hr.units150) (x_ix (ix_any hr.units1) (x_var 9) (x_neg (x_int)) (fun _ _ => rfl)) (x_var 8)) (x_scons (x_par 4 5 sc_11.nd rfl (x_cons (x_var 5) (x_cons (x_var 4) (x_nil)))) (x_sone (x_par 8 9 sc_11.nd rfl (x_cons (x_var 9) (x_cons (x_var 8) (x_nil)))))) (x_snil)) (x_scons (x_set 10 sc_11.nd (x_cl (ok_16 T) hr.le T.f_16 (x_cons (x_var 7) (x_cons (x_ix (ix_any hr.units1) (x_var 8) (x_neg (x_int)) (fun _ _ => rfl)) (x_cons (x_ix (ix_any hr.units1) (x_var 9) (x_neg (x_int)) (fun _ _ => rfl)) (x_nil)))))) (x_scons (x_set 11 sc_11.nd (x_cl (ok_25 T 70) hr.le T.f_25 (x_cons (x_var 2) (x_cons (x_var 3) (x_cons (x_var 4) (x_nil)))))) (x_scons (x_set 12 sc_11.nd (x_cl (ok_25 T 70) hr.le T.f_25 (x_cons (x_var 2) (x_cons (x_var 3) (x_cons (x_var 5) (x_nil)))))) (x_scons (x_set 13 sc_11.nd (x_ix (ix_any hr.units1) (x_cl (ok_10 T 70) hr.le T.f_10 (x_cons (x_var 10) (x_cons (x_var 11) (x_nil)))) (x_int) (fun _ _ => rfl))) (x_scons (x_ifS (x_w (x_wor (x_tnot (x_test (x_cl (ok_6 T) hr.le T.f_6 (x_cons (x_var 10) (x_cons (x_var 0) (x_cons (x_var 1) (x_cons (x_var 13) (x_cons (x_var 11) (x_nil))))))))) (x_wor1 (x_tnot (x_test (x_cl (ok_6 T) hr.le T.f_6 (x_cons (x_var 10) (x_cons (x_var 0) (x_cons (x_var 1) (x_cons (x_var 13) (x_cons (x_var 12) (x_nil)))))))))))) (x_sone (x_ret (x_bl))) (x_snil)) (x_scons (x_set 14 sc_11.nd (x_cl (ok_47 T) hr.le T.f_47 (x_cons (x_var 10) (x_cons (x_var 0) (x_cons (x_ix (ix_any hr.units1) (x_var 1) (x_int) (fun _ _ => rfl)) (x_cons (x_ix (ix_any hr.units1) (x_var 1) (x_int) (fun _ _ => rfl)) (x_cons (x_var 11) (x_nil)))))))) (x_scons (x_set 15 sc_11.nd (x_cl (ok_29 T) hr.le T.f_29 (x_cons (x_var 10) (x_cons (x_op oAddG (x_var 14) (x_cl (ok_47 T) hr.le T.f_47 (x_cons (x_var 10) (x_cons (x_var 0) (x_cons (x_ix (ix_any hr.units1) (x_var 1) (x_int) (fun _ _ => rfl)) (x_cons (x_ix (ix_any hr.units1) (x_var 1) (x_int) (fun _ _ => rfl)) (x_cons (x_var 12) (x_nil)))))))) (x_nil))))) (x_scons (x_ifS (x_tcmp (oEqC hr.units150) (x_var 4) (x_var 5)) (x_sone (x_ret (x_cmp oIsA (x_var 15) (x_non)))) (x_snil)) (x_scons (x_ifS (x_w (x_wor (x_tnot (x_test (x_callB cIsi T.z_isinstance boot_isinstance (x_cons (x_var 15) (x_cons (x_ty T.z_tuple boot_tuple) (x_nil)))))) (x_wor1 (x_tcmp (oNeB hr.units150) (x_callB cLenA T.z_len PySem.boot_len (x_cons (x_var 15) (x_nil))) (x_int))))) (x_sone (x_ret (x_bl))) (x_snil)) (x_sone (x_ret (x_and (x_cl (ok_23 T) hr.le T.f_23 (x_cons (x_ix (ix_any hr.units1) (x_var 15) (x_int) (fun _ _ => rfl)) (x_cons (x_ix (ix_any hr.units1) (x_var 8) (x_neg (x_int)) (fun _ _ => rfl)) (x_nil)))) (x_one (x_cl (ok_23 T) hr.le T.f_23 (x_cons (x_ix (ix_any hr.units1) (x_var 15) (x_int) (fun _ _ => rfl)) (x_cons (x_ix (ix_any hr.units1) (x_var 9) (x_neg (x_int)) (fun _ _ => rfl)) (x_nil))))))))))))))))))))
theorem ok_38 : FnOk P w K mg base (CX1 P w) 80 A.a_38 A.d_38 ["_law_script"] (sp_38 K A) :=
 T.f_38.f.okS sc_38 (len_38 K A) (rd_38 T.1) fun _ _ _ _ _ _ hr =>
 x_scons (x_set 1 sc_38.nd (x_cl (ok_2 T) hr.le T.f_2 (x_cons (x_cl (ok_0 T) hr.le T.f_0 (x_cons (x_var 0) (x_cons (x_int) (x_nil)))) (x_nil)))) (x_scons (x_set 2 sc_38.nd (x_cl (ok_20 T) hr.le T.f_20 (x_cons (x_var 1) (x_cons (x_cl (ok_0 T) hr.le T.f_0 (x_cons (x_var 0) (x_cons (x_int) (x_nil)))) (x_cons (x_cl (ok_0 T) hr.le T.f_0 (x_cons (x_var 0) (x_cons (x_int) (x_nil)))) (x_nil)))))) (x_scons (x_set 3 sc_38.nd (x_cl (ok_12 T) hr.le T.f_12 (x_cons (x_cl (ok_0 T) hr.le T.f_0 (x_cons (x_var 0) (x_cons (x_int) (x_nil)))) (x_cons (x_var 1) (x_cons (x_ix (ix_any hr.units1) (x_var 2) (x_int) (fun _ _ => rfl)) (x_cons (x_ix (ix_any hr.units1) (x_var 2) (x_int) (fun _ _ => rfl)) (x_nil))))))) (x_scons (x_set 4 sc_38.nd (x_cl (ok_19 T 70) hr.le T.f_19 (x_cons (x_var 3) (x_cons (x_int) (x_cons (x_int) (x_cons (x_tup (x_nil)) (x_nil))))))) (x_scons (x_setComp (ys := ["_law_paper_here"]) 4 sc_38.nd (by exact ⟨rfl, by decide +kernel, by decide +kernel, rfl, by decide +kernel, by decide +kernel⟩) (by exact .cons rfl (by first | exact .inl rfl | exact .inr rfl) rfl (.nil)) (x_seqA (x_var 4)) (fun C s H fp => x_oneif (x_tcmp (oNeB hr.units150) (x_ix (ix_any hr.units1) (x_cl (ok_15 T) hr.le T.f_15 (x_cons (x_var 1) (x_cons (x_ix (ix_any hr.units1) (x_var 0) (x_int) (fun _ _ => rfl)) (x_nil)))) (x_int) (fun _ _ => rfl)) (x_str))) (fun C s H fp => (x_var 0))) (x_scons (x_for 5 sc_38.nd (x_seqA (x_op oAddG (x_slice sl_all (x_var 0) (x_osome (x_int)) (x_osome (x_int))) (x_lst (x_cons (x_cl (ok_0 T) hr.le T.f_0 (x_cons (x_var 0) (x_cons (x_int) (x_nil)))) (x_nil))))) (x_scons (x_set3 6 7 8 sc_38.nd rfl (x_ix (ix_any hr.units1) (x_var 4) (x_op oMod (x_var 5) (x_callB cLenA T.z_len PySem.boot_len (x_cons (x_var 4) (x_nil)))) (fun _ _ => rfl))) (x_scons (x_set 9 sc_38.nd (x_op oMod (x_op oMulB (x_var 5) (x_int)) (x_int))) (x_scons (x_set 10 sc_38.nd (x_cl (ok_13 T 70) hr.le T.f_13 (x_cons (x_var 9) (x_cons (x_var 1) (x_cons (x_ix (ix_any hr.units1) (x_var 2) (x_int) (fun _ _ => rfl)) (x_cons (x_ix (ix_any hr.units1) (x_var 2) (x_int) (fun _ _ => rfl)) (x_cons (x_var 6) (x_cons (x_var 7) (x_cons (x_op oMod (x_var 9) (x_int)) (x_nil)))))))))) (x_sone (x_ifS (x_tnot (x_test (x_cl (ok_11 T) hr.le T.f_11 (x_cons (x_var 1) (x_cons (x_var 2) (x_cons (x_var 3) (x_cons (x_var 8) (x_cons (x_cl (ok_15 T) hr.le T.f_15 (x_cons (x_var 3) (x_cons (x_var 8) (x_nil)))) (x_cons (x_var 10) (x_cons (x_cl (ok_0 T) hr.le T.f_0 (x_cons (x_var 0) (x_cons (x_int) (x_nil)))) (x_nil))))))))))) (x_sone (x_ret (x_bl))) (x_snil)))))) PassesOwn.never) (x_sone (x_ret (x_bl))))))))
omit T
def AllOk (P : Program) (w : World) (K : PySem.W.Frag) (mg : Str → Option Value) (fa : Addr) : Prop := ∃ (fd : FuncData) (tabs : List (Addr × Addr)) (sp : Sp), (∀ (s : Shared) (v : Value), BindsTo s fd ⟨[v], []⟩ [("_law_script", v)]) ∧ PySem.W.noTabs K = true ∧ (∀ t ∈ tabs, ∃ y ∈ (["_law_sure", "_law_planted"] : List Str), PySem.W.tabIn K y = some t) ∧ (∀ base : Heap, K.In base → base.Ns mainGlobals mg → BM mg base → (∀ t ∈ tabs, PySem.W.CodeHd base t.1 t.2) → FnOk P w K mg base (CX1 P w) 80 fa fd ["_law_script"] sp) ∧ ∀ (H : Hp) (a : Addr) (ns : List Int), ns.length ≤ 63 → (∀ t ∈ tabs, H t.2 = some (.tbl #[])) → SqL K H a (ns.map V.int) → sp [.ref a] H (fun v _ => v = .bl true) fun _ _ _ => False
theorem fin_mk (T : Txt K mg A) (nt : PySem.W.noTabs K = true) (tb_21 : PySem.W.tabIn K "_law_sure" = some (A.k_21, A.t_21)) (tb_16 : PySem.W.tabIn K "_law_planted" = some (A.k_16, A.t_16)) (tdn : ([A.t_21, A.t_16] : List Addr).Nodup) : AllOk P w K mg A.a_38 := by
 refine ⟨A.d_38, [(A.k_21, A.t_21), (A.k_16, A.t_16)], sp_38 K A, T.f_38.f.bt, nt, ?_, fun base _ _ B C => ?_, fun H a ns hl hO hS => ⟨a, ns, rfl, hS, hl, ⟨hO (A.k_21, A.t_21) (by simp), hO (A.k_16, A.t_16) (by simp), tdn⟩, fun _ => rfl⟩⟩
 · intro t ht
   simp only [List.mem_cons, List.not_mem_nil, or_false] at ht
   rcases ht with rfl | rfl
   · exact ⟨"_law_sure", by simp, tb_21⟩
   · exact ⟨"_law_planted", by simp, tb_16⟩
 · exact ok_38 ⟨T, B, C (A.k_21, A.t_21) (by simp), C (A.k_16, A.t_16) (by simp)⟩
theorem all_mk {h : Heap} {fa : Addr} (X : K.In h) (G : h.Ns mainGlobals mg) (hfa : mg "law" = some (.ref fa)) {x_2 x_0 x_4 x_20 x_9 x_8 x_7 x_24 x_1 x_13 x_12 x_19 x_15 x_21 x_10 x_16 x_25 x_14 x_37 x_32 x_28 x_43 x_39 x_35 x_30 x_36 x_44 x_33 x_31 x_34 x_27 x_26 x_40 x_41 x_47 x_46 x_42 x_45 x_23 x_18 x_5 x_3 x_6 x_29 x_11 x_38 : Addr} {d0 d1 d2 d3 d4 d5 d6 d7 d8 d9 d10 d11 d12 d13 d14 d15 d16 d17 d18 d19 d20 d21 d22 d23 d24 d25 d26 d27 d28 d29 d30 d31 d32 d33 d34 d35 d36 d37 d38 d39 d40 d41 d42 d43 d44 d45 : FuncData} {tc0 : Tok}
  (h0 : Fa K "_law_bits" "_law_bits" s_2 x_2 d0) (h1 : Fa K "_law_at" "_law_at" s_0 x_0 d1) (h2 : Fa K "_law_key" "_law_key" s_4 x_4 d2) (h3 : Fa K "_law_stretch" "_law_stretch" s_20 x_20 d3) (h4 : Fa K "_law_number" "_law_number" s_9 x_9 d4) (h5 : Fa K "_law_meets" "_law_meets" s_8 x_8 d5) (h6 : Fa K "_law_mark" "_law_mark" s_7 x_7 d6) (h7 : Fa K "_law_text" "_law_text" s_24 x_24 d7) (h8 : Fa K "_law_begin" "_law_begin" s_1 x_1 d8) (h9 : Fa K "_law_part" "_law_part" s_13 x_13 d9) (h10 : Fa K "_law_paper" "_law_paper" s_12 x_12 d10) (h11 : Fa K "_law_spots" "_law_spots" s_19 x_19 d11) (h12 : Fa K "_law_part_at" "_law_part_at" s_15 x_15 d12) (h13 : Fa K "_law_sure" "_law_sure" s_21 x_21 d13) (tb_21 : (PySem.W.tabIn K "_law_sure").isSome = true) (h14 : Fa K "_law_open" "_law_open" s_10 x_10 d14) (h15 : Fa K "_law_planted" "_law_planted" s_16 x_16 d15) (tb_16 : (PySem.W.tabIn K "_law_planted").isSome = true) (h16 : Fa K "_law_with" "_law_with" s_25 x_25 d16) (h17 : Fa K "_law_part_alike" "_law_part_alike" s_14 x_14 d17) (h18 : Fa K "is_whole" "is_whole" s_37 x_37 d18) (h19 : Fa K "is_key" "is_key" s_32 x_32 d19) (h20 : Fa K "check_stretch" "check_stretch" s_28 x_28 d20) (h21 : Fa K "span" "span" s_43 x_43 d21) (h22 : Fa K "meets" "meets" s_39 x_39 d22) (h23 : Fa K "is_stamp" "is_stamp" s_35 x_35 d23) (h24 : Fa K "is_cut" "is_cut" s_30 x_30 d24) (h25 : Fa K "is_value" "is_value" s_36 x_36 d25) (h26 : Fa K "start" "start" s_44 x_44 d26) (h27 : Fa K "is_leaf" "is_leaf" s_33 x_33 d27) (h28 : Fa K "is_fork" "is_fork" s_31 x_31 d28) (h29 : Fa K "is_part" "is_part" s_34 x_34 d29) (h30 : Fa K "check_part" "check_part" s_27 x_27 d30) (h31 : Fa K "check_paper" "check_paper" s_26 x_26 d31) (h32 : Fa K "part_mark" "part_mark" s_40 x_40 d32) (h33 : Fa K "part_terms" "part_terms" s_41 x_41 d33) (h34 : Fa K "stretch_terms" "stretch_terms" s_47 x_47 d34) (h35 : Fa K "stretch_mark" "stretch_mark" s_46 x_46 d35) (h36 : Fa K "rows_within" "rows_within" s_42 x_42 d36) (h37 : Fa K "stretch_answer" "stretch_answer" s_45 x_45 d37) (h38 : Fa K "_law_term_alike" "_law_term_alike" s_23 x_23 d38) (h39 : Fa K "_law_rows_alike" "_law_rows_alike" s_18 x_18 d39) (h40 : Fa K "_law_leaves" "_law_leaves" s_5 x_5 d40) (h41 : Fa K "_law_inner" "_law_inner" s_3 x_3 d41) (h42 : Fa K "_law_let_by" "_law_let_by" s_6 x_6 d42) (h43 : Fa K "clash" "clash" s_29 x_29 d43) (h44 : Fa K "_law_pair_right" "_law_pair_right" s_11 x_11 d44) (h45 : Fa K "law" "law" s_38 x_38 d45) (z_bool : PySem.W.nsIn K mainGlobals "bool" = some none) (z_int : PySem.W.nsIn K mainGlobals "int" = some none) (z_isinstance : PySem.W.nsIn K mainGlobals "isinstance" = some none) (z_len : PySem.W.nsIn K mainGlobals "len" = some none) (z_list : PySem.W.nsIn K mainGlobals "list" = some none) (z_max : PySem.W.nsIn K mainGlobals "max" = some none) (z_min : PySem.W.nsIn K mainGlobals "min" = some none) (z_range : PySem.W.nsIn K mainGlobals "range" = some none) (z_str : PySem.W.nsIn K mainGlobals "str" = some none) (z_tuple : PySem.W.nsIn K mainGlobals "tuple" = some none) (c_MOST_SIGNS : PySem.W.nsIn K mainGlobals "MOST_SIGNS" = some (some (.int 60 tc0))) (nt : PySem.W.noTabs K = true) (td : tabsApart K ["_law_sure", "_law_planted"] = true) : AllOk P w K mg fa := by
 cases hfa.symm.trans (PySem.W.mg_of X G h45.m)
 obtain ⟨⟨z_21, t_21⟩, tb_21⟩ := Option.isSome_iff_exists.mp tb_21
 obtain ⟨⟨z_16, t_16⟩, tb_16⟩ := Option.isSome_iff_exists.mp tb_16
 have tdn : ([t_21, t_16] : List Addr).Nodup := apart_of (by unfold tabsApart at td; simp only [List.map_cons, List.map_nil, tb_21, tb_16, Option.map_some] at td; exact of_decide_eq_true td)
 exact fin_mk (A := ⟨x_2, d0, x_0, d1, x_4, d2, x_20, d3, x_9, d4, x_8, d5, x_7, d6, x_24, d7, x_1, d8, x_13, d9, x_12, d10, x_19, d11, x_15, d12, x_21, d13, x_10, d14, x_16, d15, x_25, d16, x_14, d17, x_37, d18, x_32, d19, x_28, d20, x_43, d21, x_39, d22, x_35, d23, x_30, d24, x_36, d25, x_44, d26, x_33, d27, x_31, d28, x_34, d29, x_27, d30, x_26, d31, x_40, d32, x_41, d33, x_47, d34, x_46, d35, x_42, d36, x_45, d37, x_23, d38, x_18, d39, x_5, d40, x_3, d41, x_6, d42, x_29, d43, x_11, d44, fa, d45, z_21, t_21, z_16, t_16⟩) ⟨h0.fm1 X G, h1.fm2 X G, h2.fm3 X G, h3.fm3 X G, h4.fm3 X G, h5.fm5 X G, h6.fm1 X G, h7.fm1 X G, h8.fm6 X G, h9.fm7 X G, h10.fm4 X G, h11.fm4 X G, h12.fm2 X G, h13.fm1 X G, h14.fm2 X G, h15.fm3 X G, h16.fm3 X G, h17.fm2 X G, h18.fm1 X G, h19.fm2 X G, h20.fm3 X G, h21.fm3 X G, h22.fm5 X G, h23.fm1 X G, h24.fm1 X G, h25.fm1 X G, h26.fm3 X G, h27.fm4 X G, h28.fm4 X G, h29.fm6 X G, h30.fm6 X G, h31.fm4 X G, h32.fm3 X G, h33.fm2 X G, h34.fm5 X G, h35.fm5 X G, h36.fm3 X G, h37.fm6 X G, h38.fm2 X G, h39.fm2 X G, h40.fm1 X G, h41.fm3 X G, h42.fm5 X G, h43.fm2 X G, h44.fm7 X G, h45.fm1 X G, PySem.W.mg_none_of X G z_bool, PySem.W.mg_none_of X G z_int, PySem.W.mg_none_of X G z_isinstance, PySem.W.mg_none_of X G z_len, PySem.W.mg_none_of X G z_list, PySem.W.mg_none_of X G z_max, PySem.W.mg_none_of X G z_min, PySem.W.mg_none_of X G z_range, PySem.W.mg_none_of X G z_str, PySem.W.mg_none_of X G z_tuple, ⟨_, PySem.W.mg_of X G c_MOST_SIGNS⟩, h13.code X G tb_21, h15.code X G tb_16⟩ nt tb_21 tb_16 tdn
theorem walk {l : PySem.W.OpenLaw} {q : Program} {loose : List Str} {XP : (Str → Option Value) → Heap → Prop} {YP : World → Heap → Prop} {d : DefRec} {K : Params → PySem.W.Frag} (hn : l.most = some 63) (hdf : d.params.defaults = [])
  (hY : ∀ (w : World) (h : Heap), YP w h → (K w.params).In h) (hq : ∀ y ∈ (["_law_sure", "_law_planted"] : List Str), ((PyProof.Rows.recsOf q).find? fun e => e.name == y).isSome = true)
  (F : ∀ (w : World) (mg : Str → Option Value) (fa : Addr) (h : Heap), (K w.params).In h → h.Ns mainGlobals mg → mg d.name = some (.ref fa) → AllOk l.prog w (K w.params) mg fa) :
  PySem.W.WalkO q loose XP YP l.row.toRowW d [] (fun f vs => PySem.call f vs) :=
 L2.walk_ofT (n := 63) (k := 80) (x := "_law_script") (CX := fun w => CX1 l.prog w) hn (by decide) hdf ⟨rfl, by decide, by decide⟩ hY hq F fun _ _ _ _ _ ⟨_, _, _, _, _, z⟩ => z
end Rs
def PySem.W.Fast.tw17925664412365853579 : Unit := ()
def PySem.W.Fast.tw15554471812794662393 : Unit := ()
def PySem.W.Fast.tw10240682665879798638 : Unit := ()
def PySem.W.Fast.tw1071307490941100441 : Unit := ()
def PySem.W.Fast.tw5480332549700379020 : Unit := ()
def PySem.W.Fast.tw4295881180643034863 : Unit := ()
def PySem.W.Fast.tw5627663194964769647 : Unit := ()
def PySem.W.Fast.tw2427016830915012246 : Unit := ()
def PySem.W.Fast.tw1440867176943317610 : Unit := ()
def PySem.W.Fast.tw15533860048691537990 : Unit := ()
def PySem.W.Fast.tw7764675377115483015 : Unit := ()
open PySem PySem.W PyProof.Rows
set_option maxRecDepth 100000 in
set_option maxHeartbeats 0 in
theorem PySem.Challenge.cw_rootstamp_k37_whole_one_paper_or_a_clash_holds : PySem.Challenge.rw_rootstamp_k37_whole_one_paper_or_a_clash.Holds := by
 w_on; o_law; k_head; (case hw => w_witness2)
 k_fill
 refine Rs.walk (l := PySem.Challenge.rw_rootstamp_k37_whole_one_paper_or_a_clash) rfl rfl (fun w h Y => by first | exact PySem.W.kIn_of Y | exact PySem.W.km_in_of Y) (by decide +kernel) ?F
 case F =>
  intro w mg fa h KX G hmg
  refine' Rs.all_mk KX G hmg (L2.fa_mk ?a0 ?l0 ?c0 ?k0) (L2.fa_mk ?a1 ?l1 ?c1 ?k1) (L2.fa_mk ?a2 ?l2 ?c2 ?k2) (L2.fa_mk ?a3 ?l3 ?c3 ?k3) (L2.fa_mk ?a4 ?l4 ?c4 ?k4) (L2.fa_mk ?a5 ?l5 ?c5 ?k5) (L2.fa_mk ?a6 ?l6 ?c6 ?k6) (L2.fa_mk ?a7 ?l7 ?c7 ?k7) (L2.fa_mk ?a8 ?l8 ?c8 ?k8) (L2.fa_mk ?a9 ?l9 ?c9 ?k9) (L2.fa_mk ?a10 ?l10 ?c10 ?k10) (L2.fa_mk ?a11 ?l11 ?c11 ?k11) (L2.fa_mk ?a12 ?l12 ?c12 ?k12) (L2.fa_mk ?a13 ?l13 ?c13 ?k13) ?tb_21 (L2.fa_mk ?a14 ?l14 ?c14 ?k14) (L2.fa_mk ?a15 ?l15 ?c15 ?k15) ?tb_16 (L2.fa_mk ?a16 ?l16 ?c16 ?k16) (L2.fa_mk ?a17 ?l17 ?c17 ?k17) (L2.fa_mk ?a18 ?l18 ?c18 ?k18) (L2.fa_mk ?a19 ?l19 ?c19 ?k19) (L2.fa_mk ?a20 ?l20 ?c20 ?k20) (L2.fa_mk ?a21 ?l21 ?c21 ?k21) (L2.fa_mk ?a22 ?l22 ?c22 ?k22) (L2.fa_mk ?a23 ?l23 ?c23 ?k23) (L2.fa_mk ?a24 ?l24 ?c24 ?k24) (L2.fa_mk ?a25 ?l25 ?c25 ?k25) (L2.fa_mk ?a26 ?l26 ?c26 ?k26) (L2.fa_mk ?a27 ?l27 ?c27 ?k27) (L2.fa_mk ?a28 ?l28 ?c28 ?k28) (L2.fa_mk ?a29 ?l29 ?c29 ?k29) (L2.fa_mk ?a30 ?l30 ?c30 ?k30) (L2.fa_mk ?a31 ?l31 ?c31 ?k31) (L2.fa_mk ?a32 ?l32 ?c32 ?k32) (L2.fa_mk ?a33 ?l33 ?c33 ?k33) (L2.fa_mk ?a34 ?l34 ?c34 ?k34) (L2.fa_mk ?a35 ?l35 ?c35 ?k35) (L2.fa_mk ?a36 ?l36 ?c36 ?k36) (L2.fa_mk ?a37 ?l37 ?c37 ?k37) (L2.fa_mk ?a38 ?l38 ?c38 ?k38) (L2.fa_mk ?a39 ?l39 ?c39 ?k39) (L2.fa_mk ?a40 ?l40 ?c40 ?k40) (L2.fa_mk ?a41 ?l41 ?c41 ?k41) (L2.fa_mk ?a42 ?l42 ?c42 ?k42) (L2.fa_mk ?a43 ?l43 ?c43 ?k43) (L2.fa_mk ?a44 ?l44 ?c44 ?k44) (L2.fa_mk ?a45 ?l45 ?c45 ?k45) ?z_bool ?z_int ?z_isinstance ?z_len ?z_list ?z_max ?z_min ?z_range ?z_str ?z_tuple ?c_MOST_SIGNS ?nt ?td
  case a0 | l0 | c0 | k0 | a1 | l1 | c1 | k1 | a2 | l2 | c2 | k2 | a3 | l3 | c3 | k3 | a4 | l4 | c4 | k4 | a5 | l5 | c5 | k5 | a6 | l6 | c6 | k6 | a7 | l7 | c7 | k7 | a8 | l8 | c8 | k8 | a9 | l9 | c9 | k9 | a10 | l10 | c10 | k10 | a11 | l11 | c11 | k11 | a12 | l12 | c12 | k12 | a13 | l13 | c13 | k13 => k_is
  case tb_21 => kernel_rfl
  case a14 | l14 | c14 | k14 | a15 | l15 | c15 | k15 => k_is
  case tb_16 => kernel_rfl
  case a16 | l16 | c16 | k16 | a17 | l17 | c17 | k17 | a18 | l18 | c18 | k18 | a19 | l19 | c19 | k19 | a20 | l20 | c20 | k20 | a21 | l21 | c21 | k21 | a22 | l22 | c22 | k22 | a23 | l23 | c23 | k23 | a24 | l24 | c24 | k24 | a25 | l25 | c25 | k25 | a26 | l26 | c26 | k26 | a27 | l27 | c27 | k27 | a28 | l28 | c28 | k28 | a29 | l29 | c29 | k29 | a30 | l30 | c30 | k30 | a31 | l31 | c31 | k31 | a32 | l32 | c32 | k32 | a33 | l33 | c33 | k33 | a34 | l34 | c34 | k34 | a35 | l35 | c35 | k35 | a36 | l36 | c36 | k36 | a37 | l37 | c37 | k37 | a38 | l38 | c38 | k38 | a39 | l39 | c39 | k39 | a40 | l40 | c40 | k40 | a41 | l41 | c41 | k41 | a42 | l42 | c42 | k42 | a43 | l43 | c43 | k43 | a44 | l44 | c44 | k44 | a45 | l45 | c45 | k45 | z_bool | z_int | z_isinstance | z_len | z_list | z_max | z_min | z_range | z_str | z_tuple | c_MOST_SIGNS => k_is
  case nt | td => kernel_rfl

import PyProof.Rows.All
import Wide.All
import OpenK.AllK
import Wide.FinOn
import Lean
import PyProof.EqAt
import PyProof.EqKinds
import PyProof.TupleCall
import PyProof.P3In
import KE.KDictLaws
import KE.KTabLook
import PySem.Challenge.RW_rootstamp_k38_whole_papers_of_one_mark_a
set_option Elab.async false
set_option linter.all false
set_option maxRecDepth 100000
set_option maxHeartbeats 4000000
namespace L2
open PySem PySem.Spec PyProof.Rows
abbrev Key := Sum Int Str
def kz : Key → Value → Bool
 | .inl k, v => Value.isInt k v
 | .inr x, v => Value.isStrOf x v
def Hx (w : World) : Key → Int
 | .inl k => hashInt k
 | .inr x => hashStr w x
theorem cI : ∀ {k : Key} {v : Value}, kz k v = true → (∃ i t, k = Sum.inl i ∧ v = Value.int i t) ∨ (∃ x t, k = Sum.inr x ∧ v = Value.str x t)
  | .inl i, v, h => by
    obtain ⟨t, e⟩ := Value.isInt_shape (k := i) (v := v) h
    exact .inl ⟨i, t, rfl, e⟩
  | .inr x, v, h => by
    obtain ⟨t, e⟩ := Value.isStrOf_shape (x := x) (v := v) h
    exact .inr ⟨x, t, rfl, e⟩
theorem uA (i : Int) (t : Tok) : kz (.inl i) (.int i t) = true := by simp [kz, Value.isInt]
theorem uD (x : Str) (t : Tok) : kz (.inr x) (.str x t) = true := by simp [kz, Value.isStrOf]
theorem BN (a b : Int) : decide ((Sum.inl a : Key) = Sum.inl b) = (a == b) := by
 by_cases e : a = b
 · subst e; simp
 · have h : ¬ (Sum.inl a : Key) = Sum.inl b := fun q => e (Sum.inl.inj q)
   rw [decide_eq_false h]
   exact (beq_eq_false_iff_ne.mpr e).symm
theorem AW (a b : Str) : decide ((Sum.inr a : Key) = Sum.inr b) = decide (a = b) := by
 by_cases e : a = b
 · subst e; simp
 · have h : ¬ (Sum.inr a : Key) = Sum.inr b := fun q => e (Sum.inr.inj q)
   rw [decide_eq_false h, decide_eq_false e]
theorem Dg (a : Int) (b : Str) : decide ((Sum.inl a : Key) = Sum.inr b) = false := decide_eq_false (fun q => nomatch q)
theorem Cz (a : Str) (b : Int) : decide ((Sum.inr a : Key) = Sum.inl b) = false := decide_eq_false (fun q => nomatch q)
def cA (prog : Program) (w : World) : PySem.KeyKind prog w Key where
 is := kz
 hash := Hx w
 inj := fun v a b ha hb => by
  rcases cI ha with ⟨i, t, rfl, rfl⟩ | ⟨x, t, rfl, rfl⟩
  · rcases cI hb with ⟨j, u, rfl, e⟩ | ⟨y, u, rfl, e⟩
    · injection e with e1 _; rw [e1]
    · exact nomatch e
  · rcases cI hb with ⟨j, u, rfl, e⟩ | ⟨y, u, rfl, e⟩
    · exact nomatch e
    · injection e with e1 _; rw [e1]
 byValue := fun k v h => by
  rcases cI h with ⟨i, t, rfl, rfl⟩ | ⟨x, t, rfl, rfl⟩ <;> rfl
 pyHash := fun hv h => by
  rcases cI hv with ⟨i, t, rfl, rfl⟩ | ⟨x, t, rfl, rfl⟩
  · exact wpAny_pyHash_int h
  · exact wpAny_pyHash_str h
 eqBool := fun hu hv h => by
  rcases cI hu with ⟨i, t, rfl, rfl⟩ | ⟨x, t, rfl, rfl⟩
  · rcases cI hv with ⟨j, u, rfl, rfl⟩ | ⟨y, u, rfl, rfl⟩
    · rw [BN] at h; exact wpAny_eqBool_int h
    · rw [Dg] at h; exact SeqAt.EqAt.int_str i t y u _ _ _ _ h
  · rcases cI hv with ⟨j, u, rfl, rfl⟩ | ⟨y, u, rfl, rfl⟩
    · rw [Cz] at h; exact SeqAt.EqAt.str_int x t j u _ _ _ _ h
    · rw [AW] at h; exact wpAny_eqBool_str h
 «strs» := fun k x t v h => by
  rcases cI h with ⟨i, u, rfl, e⟩ | ⟨y, u, rfl, e⟩
  · exact nomatch e
  · injection e with e1 _
    subst e1
    cases v <;> rfl
theorem qL (prog : Program) (w : World) (i : Int) (t : Tok) : (cA prog w).is (.inl i) (.int i t) = true := uA i t
theorem qI (prog : Program) (w : World) (x : Str) (t : Tok) : (cA prog w).is (.inr x) (.str x t) = true := uD x t
end L2
namespace L2
open PySem PySem.Spec PyProof.Rows
inductive V where
 | non | bl (b : Bool) | int (i : Int) | str (x : Str) | byt (b : Array UInt8) | flt (b : UInt64) | ref (a : Addr) | ty (n : String)
 deriving DecidableEq
def bh : V → Value → Prop
 | .non, u => u = Value.none
 | .bl b, u => u = Value.bool b
 | .int i, u => ∃ t, u = Value.int i t
 | .str x, u => ∃ t, u = Value.str x t
 | .byt b, u => ∃ t, u = Value.bytes b t
 | .flt b, u => ∃ t, u = Value.float b t
 | .ref a, u => u = Value.ref a
 | .ty n, u => u = Value.type n
abbrev br : List V → List Value → Prop := Paired bh
theorem br.length {xs : List V} {us : List Value} (r : br xs us) : xs.length = us.length := Paired.length r
theorem br.get : ∀ {xs : List V} {us : List Value} {i : Nat} {x : V}, br xs us → xs[i]? = some x → ∃ u, us[i]? = some u ∧ bh x u
  | _, _, _, _, .nil, e => by simp at e
  | _, _, 0, _, .cons r _, e => by simp at e; subst e; exact ⟨_, rfl, r⟩
  | _, _, i + 1, x, .cons _ t, e => by
    obtain ⟨u, h1, h2⟩ := br.get (i := i) (x := x) t (by simpa using e)
    exact ⟨u, by simpa using h1, h2⟩
theorem br.append : ∀ {xs ys : List V} {us ws : List Value}, br xs us → br ys ws → br (xs ++ ys) (us ++ ws)
 | _, _, _, _, .nil, s => s
 | _, _, _, _, .cons r t, s => .cons r (br.append t s)
theorem br.take : ∀ {xs : List V} {us : List Value} (n : Nat), br xs us → br (xs.take n) (us.take n)
 | _, _, 0, _ => .nil
 | _, _, _ + 1, .nil => .nil
 | _, _, n + 1, .cons r t => .cons r (br.take n t)
theorem br.drop : ∀ {xs : List V} {us : List Value} (n : Nat), br xs us → br (xs.drop n) (us.drop n)
 | _, _, 0, r => r
 | _, _, _ + 1, .nil => .nil
 | _, _, n + 1, .cons _ t => br.drop n t
def eO : Option V → Option Value → Prop
 | some v, some u => bh v u
 | none, none => True
 | _, _ => False
def KV {κ : Type} : List (κ × V) → List (κ × Value) → Prop := Paired fun (p : κ × V) (q : κ × Value) => p.1 = q.1 ∧ bh p.2 q.2
def kV : Key → V
 | .inl i => .int i
 | .inr x => .str x
inductive HO where
 | lst (xs : List V)
 | tup (xs : List V)
 | dK (kvs : List (Key × V)) | dT (kvs : List (List Key × V))
 | set (S : Int → Bool) (n : Nat)
 | ins (C dx : Addr) (fs : List (Str × V))
 | own (x : Addr)
 | xd (fs : List (Str × V))
 | met (f x : Addr)
 | rng (lo hi : Int)
 | frz (o : Obj) (u : HO)
 | tbl (ps : Array Value)
 | ext (φ : Heap → Prop)
abbrev Hp := Addr → Option HO
def upd (H : Hp) (a : Addr) (o : HO) : Hp := fun b => if b = a then some o else H b
theorem am {H : Hp} {a : Addr} {o : HO} : upd H a o a = some o := by unfold upd; rw [if_pos rfl]
theorem aK {H : Hp} {a b : Addr} {o : HO} (h : b ≠ a) : upd H a o b = H b := by unfold upd; rw [if_neg h]
theorem zq {H : Hp} {a : Addr} {o u : HO} : upd (upd H a o) a u = upd H a u := by
 funext b; unfold upd; split <;> rfl
theorem kS {H : Hp} {a b : Addr} {o u : HO} (h : H a = some o) (h' : H b = some u) (d : o ≠ u) : a ≠ b := by
 intro e; subst e; rw [h] at h'; exact d (Option.some.inj h')
theorem bj {H : Hp} {a b : Addr} {o : HO} (h : H a = some o) (h' : H b = none) : a ≠ b := by
 intro e; subst e; rw [h] at h'; cases h'
section
variable (P : Program) (w : World)
def bB (H : Hp) (h : Heap) (a : Addr) : HO → Prop
 | .lst xs => xs.length ≤ sizeLine ∧ ∃ (its : List Value) (n : Nat), br xs its ∧ h.get? a = some { cls := .type "list", data := .seq its.toArray n }
 | .tup xs => xs.length ≤ sizeLine ∧ ∃ its : List Value, br xs its ∧ IsTup h a its.toArray
 | .dK kvs => kvs.length ≤ sizeLine ∧ (a == sysModules) = false ∧ ∃ vs, KV kvs vs ∧ h.DictOf (cA P w) a vs
 | .dT kvs => kvs.length ≤ sizeLine ∧ (a == sysModules) = false ∧ ∃ xs : List (List Key × Addr × Value),
  Paired (fun (p : List Key × V) (q : List Key × Addr × Value) => p.1 = q.1 ∧ H q.2.1 = some (.tup (p.1.map kV)) ∧ bh p.2 q.2.2) kvs xs ∧
  ∃ o es ep, h.get? a = some o ∧ o.ExactDict ∧ o.data = .dict es ep ∧ es.toList = xs.map (entryOfKey (tupleKind (cA P w))) ∧ (xs.map (·.1)).Nodup
 | .set S n => h.SetOf (intKind P w) a S n
 | .ins C dx fs => H dx = some (.own a) ∧ fs.length ≤ 1000 ∧ dx ≠ a ∧ h.get? a = some (W.instObj C dx) ∧
  ∃ mA, h.Ns1 dx mA ∧ (∀ f, eO (fs.lookup f) (mA f)) ∧ PySem.Within mA (fs.map (·.1))
 | .own _ => ∃ o, h.get? a = some o
 | .xd fs => ∃ mA, h.Ns1 a mA ∧ ∀ f, eO (fs.lookup f) (mA f)
 | .rng lo hi => ∃ t u v, h.get? a = some { cls := .type "range", data := .fields #[.int lo t, .int hi u, .int 1 v] }
 | .frz o u => h.get? a = some o ∧ bB H h a u
 | .tbl ps => h.get? a = some { cls := .none, data := .fields ps }
 | .met f x => h.get? a = some (W.methodObj (.ref f) (.ref x))
 | .ext φ => φ h ∧ (∃ o, h.get? a = some o) ∧ ∀ h1 h2 : Heap, φ h1 → (∀ o, h1.get? a = some o → h2.get? a = some o) → φ h2
def HOk (H : Hp) (h : Heap) : Prop := ∀ a o, H a = some o → bB P w H h a o
end
section
variable {P : Program} {w : World} {H H' : Hp} {h h' : Heap} {a : Addr} {o : HO}
theorem bB.lt (x : bB P w H h a o) : a < h.objs.size := by
 cases o with
 | lst xs => obtain ⟨_, _, _, _, e⟩ := x; exact Heap.lt_size e
 | tup xs => obtain ⟨_, _, _, p⟩ := x; exact p.lt
 | dK kvs => obtain ⟨_, _, _, _, o, _, _, e, _⟩ := x; exact Heap.lt_size e
 | dT kvs => obtain ⟨_, _, _, _, o, _, _, e, _⟩ := x; exact Heap.lt_size e
 | set S n => obtain ⟨o, _, _, _, e, _⟩ := x; exact Heap.lt_size e
 | ins C dx fs => obtain ⟨_, _, _, e, _⟩ := x; exact Heap.lt_size e
 | own y => obtain ⟨_, e⟩ := x; exact Heap.lt_size e
 | xd fs => obtain ⟨_, ⟨_, _, _, e, _⟩, _⟩ := x; exact Heap.lt_size e
 | rng lo hi => obtain ⟨_, _, _, e⟩ := x; exact Heap.lt_size e
 | frz ob u => obtain ⟨e, _⟩ := x; exact Heap.lt_size e
 | tbl ps => exact Heap.lt_size (show h.get? a = some _ from x)
 | met f y => exact Heap.lt_size (show h.get? a = some _ from x)
 | ext φ => obtain ⟨_, ⟨_, e⟩, _⟩ := x; exact Heap.lt_size e
theorem Paired.mapP {α β : Type} {F G : α → β → Prop} : ∀ {l₁ : List α} {l₂ : List β}, Paired F l₁ l₂ → (∀ a b, F a b → G a b) → Paired G l₁ l₂
 | _, _, .nil, _ => .nil
 | _, _, .cons r t, f => .cons (f _ _ r) (Paired.mapP t f)
theorem Paired.imp' {α β : Type} {F G : α → β → Prop} (f : ∀ a b, F a b → G a b) {l₁ : List α} {l₂ : List β} (r : Paired F l₁ l₂) : Paired G l₁ l₂ := Paired.mapP r f
theorem bB.stay (x : bB P w H h a o) (k : ∀ b u, (b = a ∨ H b = some (.own a)) → h.get? b = some u → h'.get? b = some u)
    (ho : ∀ b, H b = some (.own a) → H' b = some (.own a)) (ht : ∀ b xs, H b = some (.tup xs) → H' b = some (.tup xs)) : bB P w H' h' a o := by
  induction o with
  | lst xs => obtain ⟨z, its, n, r, e⟩ := x; exact ⟨z, its, n, r, k _ _ (.inl rfl) e⟩
  | tup xs => obtain ⟨z, its, r, ob, e, c⟩ := x; exact ⟨z, its, r, ob, k _ _ (.inl rfl) e, c⟩
  | dK kvs => obtain ⟨z, y, vs, r, ob, es, ep, e, c⟩ := x; exact ⟨z, y, vs, r, ob, es, ep, k _ _ (.inl rfl) e, c⟩
  | dT kvs =>
    obtain ⟨z, y, xs, r, ob, es, ep, e, c⟩ := x
    exact ⟨z, y, xs, Paired.mapP r fun p q z => ⟨z.1, ht _ _ z.2.1, z.2.2⟩, ob, es, ep, k _ _ (.inl rfl) e, c⟩
  | set S n => obtain ⟨ob, es, ep, t, e, c⟩ := x; exact ⟨ob, es, ep, t, k _ _ (.inl rfl) e, c⟩
  | ins C dx fs =>
    obtain ⟨d, z, ne, e, mA, ⟨od, es, ep, e2, c⟩, r⟩ := x
    exact ⟨ho _ d, z, ne, k _ _ (.inl rfl) e, mA, ⟨od, es, ep, k _ _ (.inr d) e2, c⟩, r⟩
  | own y => obtain ⟨ob, e⟩ := x; exact ⟨ob, k _ _ (.inl rfl) e⟩
  | xd fs => obtain ⟨mA, ⟨od, es, ep, e, c⟩, r⟩ := x; exact ⟨mA, ⟨od, es, ep, k _ _ (.inl rfl) e, c⟩, r⟩
  | rng lo hi => obtain ⟨t, u, v, e⟩ := x; exact ⟨t, u, v, k _ _ (.inl rfl) e⟩
  | frz ob u ih => obtain ⟨e, q⟩ := x; exact ⟨k _ _ (.inl rfl) e, ih q⟩
  | tbl ps =>
    have e : h.get? a = some { cls := .none, data := .fields ps } := x
    show h'.get? a = some { cls := .none, data := .fields ps }
    exact k a _ (.inl rfl) e
  | met f y =>
    have e : h.get? a = some (W.methodObj (.ref f) (.ref y)) := x
    show h'.get? a = some (W.methodObj (.ref f) (.ref y))
    exact k a _ (.inl rfl) e
  | ext φ => obtain ⟨p, ⟨o, e⟩, st⟩ := x; exact ⟨st _ _ p fun o q => k _ _ (.inl rfl) q, ⟨o, k _ _ (.inl rfl) e⟩, st⟩
theorem HOk.lt (x : HOk P w H h) (e : H a = some o) : a < h.objs.size := (x a o e).lt
theorem HOk.fresh (x : HOk P w H h) (e : h.objs.size ≤ a) : H a = none := by
 cases q : H a with
 | none => rfl
 | some u => exact absurd (Nat.lt_of_lt_of_le (x.lt q) e) (Nat.lt_irrefl _)
theorem HOk.kept (x : HOk P w H h) (k : ∀ b u, h.get? b = some u → h'.get? b = some u) : HOk P w H h' := fun a o e =>
 (x a o e).stay (fun b u _ q => k b u q) (fun _ q => q) fun _ _ q => q
theorem HOk.laid (x : HOk P w H h) (k : ∀ b u, h.get? b = some u → h'.get? b = some u) (hp : h.objs.size ≤ a) (new : bB P w (upd H a o) h' a o) : HOk P w (upd H a o) h' := fun b u e => by
 have hn := x.fresh hp
 by_cases hb : b = a
 · subst hb; rw [am] at e; cases e; exact new
 · rw [aK hb] at e
   exact (x b u e).stay (fun c v _ q => k c v q) (fun c q => by rw [aK (bj q hn)]; exact q) fun c xs q => by rw [aK (bj q hn)]; exact q
end
def Rd (H : Hp) (a : Addr) (u : HO) : Prop := H a = some u ∨ ∃ o, H a = some (.frz o u)
theorem Rd.ok {P : Program} {w : World} {H : Hp} {h : Heap} {a : Addr} {u : HO} (r : Rd H a u) (x : HOk P w H h) : bB P w H h a u := by
 rcases r with r | ⟨o, r⟩
 · exact x a u r
 · obtain ⟨_, q⟩ := x a _ r
   exact q
def Mut : Option HO → Prop
 | some (.lst _) => True
 | some (.dK _) => True
 | some (.dT _) => True
 | some (.set _ _) => True
 | some (.ins _ _ _) => True
 | some (.ext _) => True
 | _ => False
section
variable {P : Program} {w : World} {H : Hp} {h h' : Heap} {x e : Addr} {o' : HO}
theorem HOk.write (ok : HOk P w H h) (mu : Mut (H x)) (he : e = x ∨ H e = some (.own x)) (k : ∀ b u, b ≠ e → h.get? b = some u → h'.get? b = some u) (heo : ∃ u, h'.get? e = some u)
   (new : bB P w (upd H x o') h' x o') : HOk P w (upd H x o') h' := fun b u q => by
 have nown : ∀ c y, H c = some (.own y) → c ≠ x := fun c y r z => by subst z; rw [r] at mu; exact mu
 have ntup : ∀ c xs, H c = some (.tup xs) → c ≠ x := fun c xs r z => by subst z; rw [r] at mu; exact mu
 by_cases hb : b = x
 · subst hb; rw [am] at q; cases q; exact new
 · rw [aK hb] at q
   by_cases hbe : b = e
   · have q' : H b = some (.own x) := by
       rcases he with z | z
       · exact absurd (hbe.trans z) hb
       · rw [hbe]; exact z
     rw [q] at q'; cases q'
     obtain ⟨v, hv⟩ := heo
     exact ⟨v, by rw [hbe]; exact hv⟩
   · refine (ok b u q).stay (fun c v hc r => k c v ?_ r) (fun c r => by rw [aK (nown c b r)]; exact r) fun c xs r => by rw [aK (ntup c xs r)]; exact r
     rcases hc with rfl | hc
     · exact hbe
     · rintro rfl
       rcases he with z | z
       · exact nown c b hc z
       · rw [hc] at z; cases z; exact hb rfl
end
structure Un (fs ex : List Addr) (H H' : Hp) (h h' : Heap) : Prop where
 keep : ∀ b o, h.get? b = some o → H b = none → b ∉ fs → b ∉ ex → h'.get? b = some o
 slot : ∀ b o, h.get? b = some o → H b = none → b ∈ fs → b ∉ ex → ∃ sl, h'.get? b = some { o with slots := sl }
 free : ∀ b o, h.get? b = some o → H b = none → b ∉ ex → H' b = none
 there : ∀ b o, h.get? b = some o → b ∉ ex → ∃ o', h'.get? b = some o'
 tups : ∀ b xs, H b = some (.tup xs) → H' b = some (.tup xs)
 frzs : ∀ b o u, H b = some (.frz o u) → H' b = some (.frz o u)
 tbls : ∀ b ps, H b = some (.tbl ps) → ∃ more, H' b = some (.tbl (ps ++ more))
section
variable {fs fs' ex ex' : List Addr} {H H1 H2 : Hp} {h h1 h2 h' : Heap} {a x e : Addr} {o : HO}
theorem Un.any (u : Un fs ex H H1 h h1) {b : Addr} {ob : Obj} (q : h.get? b = some ob) (n : H b = none) (hx : b ∉ ex) : ∃ sl, h1.get? b = some { ob with slots := sl } := by
 by_cases hb : b ∈ fs
 · exact u.slot b ob q n hb hx
 · exact ⟨ob.slots, u.keep b ob q n hb hx⟩
theorem Un.kept (k : ∀ b u, h.get? b = some u → h'.get? b = some u) : Un fs ex H H h h' :=
 ⟨fun b ob q _ _ _ => k b ob q, fun b ob q _ _ _ => ⟨ob.slots, k b ob q⟩, fun _ _ _ n _ => n, fun b ob q _ => ⟨ob, k b ob q⟩, fun _ _ q => q, fun _ _ _ q => q, fun _ ps q => ⟨#[], by rw [q]; simp⟩⟩
theorem Un.refl : Un fs ex H H h h := Un.kept fun _ _ q => q
theorem Un.laid (k : ∀ b u, h.get? b = some u → h'.get? b = some u) (hp : h.objs.size ≤ a) (hn : H a = none) : Un fs ex H (upd H a o) h h' where
 keep := fun b u q _ _ _ => k b u q
 slot := fun b u q _ _ _ => ⟨u.slots, k b u q⟩
 free := fun b u q n _ => by rw [aK (Nat.ne_of_lt (Nat.lt_of_lt_of_le (Heap.lt_size q) hp))]; exact n
 there := fun b u q _ => ⟨u, k b u q⟩
 tups := fun b xs q => by rw [aK (bj q hn)]; exact q
 frzs := fun b u xs q => by rw [aK (bj q hn)]; exact q
 tbls := fun b ps q => ⟨#[], by rw [aK (bj q hn), q]; simp⟩
theorem Un.write (mu : Mut (H x)) (he : e = x ∨ H e = some (.own x)) (k : ∀ b u, b ≠ e → h.get? b = some u → h'.get? b = some u) (heo : ∃ u, h'.get? e = some u) : Un fs ex H (upd H x o) h h' := by
 have hx : ∀ b, H b = none → b ≠ x := fun b n z => by subst z; rw [n] at mu; exact mu
 have hb : ∀ b, H b = none → b ≠ e := fun b n z => by
   subst z
   rcases he with r | r
   · exact hx b n r
   · rw [n] at r; cases r
 have hm : ∀ b u, H b = some u → ¬ Mut (some u) → b ≠ x := fun b u q nm z => by subst z; rw [q] at mu; exact nm mu
 refine ⟨fun b u q n _ _ => k b u (hb b n) q, fun b u q n _ _ => ⟨u.slots, k b u (hb b n) q⟩, fun b u q n _ => by rw [aK (hx b n)]; exact n, fun b u q _ => ?_,
   fun b xs q => by rw [aK (hm b _ q fun z => z)]; exact q, fun b u xs q => by rw [aK (hm b _ q fun z => z)]; exact q, fun b ps q => ⟨#[], by rw [aK (hm b _ q fun z => z), q]; simp⟩⟩
 by_cases hbe : b = e
 · subst hbe; exact heo
 · exact ⟨u, k b u hbe q⟩
end
def trk (h : Heap) (H : Hp) : List Addr := (List.range h.objs.size).filter fun a => (H a).isSome
def ir (h : Heap) (H : Hp) : Heap := W.hideAll h (trk h H)
theorem tO (h : Heap) (H : Hp) : (ir h H).objs.size = h.objs.size := W.hideAll_size _ _
theorem vx {h : Heap} {H : Hp} {b : Addr} {o : Obj} (e : h.get? b = some o) (n : H b = none) : (ir h H).get? b = some o :=
 W.hideAll_get _ e fun hm => by
  have q : (H b).isSome = true := (List.mem_filter.mp hm).2
  rw [n] at q; simp at q
theorem zF {h : Heap} {H : Hp} {b : Addr} {o : Obj} (e : (ir h H).get? b = some o) : h.get? b = some o ∧ H b = none := by
  have e' : h.get? b = some o := W.of_hideAll (trk h H) e
  refine ⟨e', ?_⟩
  cases q : H b with
  | none => rfl
  | some x =>
    have hm : b ∈ trk h H := List.mem_filter.mpr ⟨List.mem_range.mpr (Heap.lt_size e'), by simp [q]⟩
    have z : (ir h H).get? b = none := W.hideAll_none (trk h H) hm
    rw [z] at e; cases e
def zE (g h : Heap) (L : Addr) : List (Addr × Obj) := (List.range h.objs.size).filterMap fun a => if a = L ∨ (g.get? a).isSome = true then none else (h.get? a).map fun o => (a, o)
def ci (g h : Heap) (L d : Addr) : List (Addr × Obj) := (zE g h L).filter fun p => decide (p.1 ≠ d)
end L2
namespace L2
open PySem PySem.Spec PyProof.Rows
structure Mod (K : W.Frag) (mg : Str → Option Value) (base : Heap) : Prop where
 kin : K.In base
 glob : base.Ns mainGlobals mg
 blt : ∃ mb, base.Ns builtinsNs mb ∧ ∀ x : Str, x ≠ "__name__" → mb x = bootBuiltins x
 nolimit : base.NoLimit
set_option genInjectivity false in
set_option genSizeOf false in
structure Cx where
 prog : Program
 w : World
 K : W.Frag
 mg : Str → Option Value
 base : Heap
 A : Around
 N : List Str
 s₀ : Shared
 H₀ : Hp
 env : Env
 outer : List Env
 stack : List Env
 ex : List Addr
 fn : Str → Bool
 calm : Bool
 pn : List (Addr × Obj)
 xe : Value → Shared → Prop
def frs (l : List Env) : List Addr := l.filterMap (·.frame)
abbrev Cx.fs (X : Cx) : List Addr := frs X.outer
def Vis (sc : Scope) (x : Str) : Prop := sc.names.lookup x = some .local ∨ sc.names.lookup x = some .cell ∨ sc.names.lookup x = some .free
def Loc (sc : Scope) (x : Str) : Prop := sc.names.lookup x = some .local ∨ sc.names.lookup x = some .cell
def CK (env : Env) (h : Heap) (m : Str → Option Value) (x : Str) (u : Value) : Prop :=
 (env.kindOf x = some .local ∧ m x = some u) ∨ ((env.kindOf x = some .cell ∨ env.kindOf x = some .free) ∧ ∃ c, env.cells.lookup x = some c ∧ h.IsCell c (some u))
set_option genInjectivity false in
set_option genSizeOf false in
structure Cx.Ok (X : Cx) : Prop where
 mod : Mod X.K X.mg X.base
 kind : X.env.scope.kind = .function
 glob : X.env.globals = mainGlobals
 blt : X.env.builtins = builtinsNs
 above : X.s₀.heap.objs.size ≤ X.env.locals
 inj : ∀ x y c, X.env.cells.lookup x = some c → X.env.cells.lookup y = some c → x = y
 has : ∀ x, (X.env.kindOf x = some .cell ∨ X.env.kindOf x = some .free) → ∃ c, X.env.cells.lookup x = some c
 cab : ∀ x c, X.fn x = true → X.env.cells.lookup x = some c → X.s₀.heap.objs.size ≤ c
 hd : X.calm = true → X.A.handled = none
 frames : X.A.frames = some X.stack
 stk : X.stack = X.outer ∨ (X.stack = X.env :: X.outer ∧ X.env.frame = some X.env.locals)
 exf : ∀ b ∈ X.ex, b ≠ X.env.locals ∧ ∀ x c, X.env.cells.lookup x = some c → c ≠ b
 bs : ∀ b o, X.base.get? b = some o → X.s₀.heap.get? b = some o ∧ X.H₀ b = none
 bsz : X.base.objs.size ≤ X.s₀.heap.objs.size
 noex : ∀ b o, X.base.get? b = some o → b ∉ X.ex
 exfs : ∀ b ∈ X.ex, b ∉ X.fs
 funs : X.s₀.heap.FunFrames X.base X.outer
 frf : ∀ b ∈ X.fs, X.H₀ b = none
structure Inv (X : Cx) (pins : List (Addr × Obj)) (σ : List (Option V)) (H : Hp) (s : Shared) : Prop where
 ok : X.Ok
 os : s.os = X.s₀.os
 bare : AllBare s.gens
 base : Un X.fs X.ex X.H₀ H X.s₀.heap s.heap
 loc : ∃ m, s.heap.Ns X.env.locals m ∧ ∀ (i : Nat) (x : Str) (v : V), X.N[i]? = some x → σ[i]? = some (some v) → Vis X.env.scope x → ∃ u, bh v u ∧ CK X.env s.heap m x u
 cell : ∀ x c, X.env.cells.lookup x = some c → ∃ v, s.heap.IsCell c v
 free : H X.env.locals = none
 freeC : ∀ x c, X.env.cells.lookup x = some c → H c = none
 pin : ∀ p ∈ X.pn ++ pins, s.heap.get? p.1 = some p.2 ∧ H p.1 = none ∧ p.1 ≠ X.env.locals ∧ p.1 ∉ X.fs ∧ ∀ v, p.2.data ≠ .cell v
 hok : HOk X.prog X.w H s.heap
 len : σ.length = X.N.length
section
variable {X : Cx} {pins : List (Addr × Obj)} {σ : List (Option V)} {H H' : Hp} {s : Shared} {h' : Heap}
theorem Cx.Ok.nofr (ok : X.Ok) {b : Addr} {o : Obj} (e : X.base.get? b = some o) : b ∉ X.fs := fun hb => by
 have := (ok.funs.mem hb).1
 rw [e] at this; cases this
theorem Inv.bs (I : Inv X pins σ H s) : ∀ b o, X.base.get? b = some o → s.heap.get? b = some o ∧ H b = none := fun b o e =>
 ⟨I.base.keep b o (I.ok.bs b o e).1 (I.ok.bs b o e).2 (I.ok.nofr e) (I.ok.noex b o e), I.base.free b o (I.ok.bs b o e).1 (I.ok.bs b o e).2 (I.ok.noex b o e)⟩
theorem Inv.bk (I : Inv X pins σ H s) : ∀ b o, X.base.get? b = some o → s.heap.get? b = some o := fun b o e => (I.bs b o e).1
theorem Inv.mod (I : Inv X pins σ H s) : Mod X.K X.mg X.base := I.ok.mod
theorem Inv.kIn (I : Inv X pins σ H s) : X.K.In s.heap := I.ok.mod.kin.keeps I.bk
theorem Inv.lt (I : Inv X pins σ H s) : X.env.locals < s.heap.objs.size := let ⟨_, hn, _⟩ := I.loc; hn.lt
theorem Inv.sz (I : Inv X pins σ H s) : X.s₀.heap.objs.size ≤ s.heap.objs.size := Nat.le_trans I.ok.above (Nat.le_of_lt I.lt)
theorem Inv.nofs (I : Inv X pins σ H s) {a : Addr} (h : s.heap.objs.size ≤ a) : a ∉ X.fs := fun hb => by
 obtain ⟨_, o, ho, _⟩ := I.ok.funs.mem hb
 exact absurd (Nat.lt_of_lt_of_le (Heap.lt_size ho) (Nat.le_trans I.sz h)) (Nat.lt_irrefl _)
theorem Inv.cne (I : Inv X pins σ H s) : ∀ x c, X.env.cells.lookup x = some c → c ≠ X.env.locals := fun x c e z => by
 obtain ⟨v, o, ho, hd⟩ := I.cell x c e
 obtain ⟨m, ⟨o', es, ep, ho', hd', _⟩, _⟩ := I.loc
 rw [z, ho'] at ho; cases ho; rw [hd'] at hd; cases hd
theorem Inv.funs (I : Inv X pins σ H s) : s.heap.FunFrames X.base X.outer := by
  have all : ∀ (l : List Env), (∀ b ∈ frs l, b ∈ X.fs) → X.s₀.heap.FunFrames X.base l → s.heap.FunFrames X.base l := by
    intro l
    induction l with
    | nil => intro _ _; trivial
    | cons env r ih =>
      intro hs hl
      obtain ⟨hk, ⟨L, o, hf, hn, ho, hd⟩, hr⟩ := hl
      have hL : L ∈ X.fs := hs L (by unfold frs; rw [List.filterMap_cons, hf]; exact List.mem_cons_self)
      obtain ⟨sl, e⟩ := I.base.slot L o ho (I.ok.frf L hL) hL fun z => I.ok.exfs L z hL
      exact ⟨hk, ⟨L, _, hf, hn, e, hd⟩, ih (fun b hb => hs b (by unfold frs; rw [List.filterMap_cons, hf]; exact List.mem_cons_of_mem _ hb)) hr⟩
  exact all X.outer (fun _ hb => hb) I.ok.funs
theorem Inv.stack (I : Inv X pins σ H s) : s.heap.FunFrames X.base X.stack := by
 rcases I.ok.stk with e | ⟨e, hf⟩
 · rw [e]; exact I.funs
 · rw [e]
   obtain ⟨m, hn, _⟩ := I.loc
   refine .cons (by rw [I.ok.kind]; decide) hf hn ?_ I.funs
   exact Heap.get?_none_of_le (Nat.le_trans I.ok.bsz I.ok.above)
theorem Inv.stkSub (I : Inv X pins σ H s) : ∀ b ∈ frs X.stack, b ∈ X.env.locals :: X.fs := fun b hb => by
 rcases I.ok.stk with e | ⟨e, hf⟩
 · rw [e] at hb; exact List.mem_cons_of_mem _ hb
 · rw [e] at hb
   unfold frs at hb
   rw [List.filterMap_cons, hf] at hb
   exact hb
theorem Inv.stkFree (I : Inv X pins σ H s) : ∀ b ∈ frs X.stack, H b = none := fun b hb => by
 rcases List.mem_cons.mp (I.stkSub b hb) with e | hb
 · rw [e]; exact I.free
 · obtain ⟨_, o, ho, _⟩ := I.ok.funs.mem hb
   exact I.base.free b o ho (I.ok.frf b hb) fun z => I.ok.exfs b z hb
theorem Inv.step {g' : Array GenState} {t' : Nat} {d' : Drawn} {ch : List Addr} (I : Inv X pins σ H s)
   (hch : ∀ b ∈ ch, (b ∈ X.ex ∨ X.s₀.heap.objs.size ≤ b) ∧ b ≠ X.env.locals ∧ (∀ x c, X.env.cells.lookup x = some c → c ≠ b) ∧ ∀ p ∈ X.pn ++ pins, p.1 ≠ b)
   (keep : ∀ b o, b ≠ X.env.locals → b ∉ X.fs → b ∉ ch → s.heap.get? b = some o → H b = none → h'.get? b = some o)
   (slot : ∀ b o, b ≠ X.env.locals → b ∈ X.fs → b ∉ ch → s.heap.get? b = some o → H b = none → ∃ sl, h'.get? b = some { o with slots := sl }) (free : ∀ b o, b ∉ ch → s.heap.get? b = some o → H b = none → H' b = none)
   (there : ∀ b o, b ∉ ch → s.heap.get? b = some o → ∃ o', h'.get? b = some o')
   (tups : ∀ b xs, H b = some (.tup xs) → H' b = some (.tup xs)) (frzs : ∀ b o u, H b = some (.frz o u) → H' b = some (.frz o u)) (tbls : ∀ b ps, H b = some (.tbl ps) → ∃ more, H' b = some (.tbl (ps ++ more)))
   (ns : ∀ m, s.heap.Ns X.env.locals m → h'.Ns X.env.locals m) (hok : HOk X.prog X.w H' h') (hg : AllBare g') :
   Inv X pins σ H' { s with heap := h', gens := g', drawn := d', toks := t' } := by
 have neL : ∀ b o, X.s₀.heap.get? b = some o → b ≠ X.env.locals := fun b o e => Nat.ne_of_lt (Nat.lt_of_lt_of_le (Heap.lt_size e) I.ok.above)
 have neC : ∀ b o, X.s₀.heap.get? b = some o → b ∉ X.ex → b ∉ ch := fun b o e hx hb => by
   rcases (hch b hb).1 with z | z
   · exact hx z
   · exact absurd (Nat.lt_of_lt_of_le (Heap.lt_size e) z) (Nat.lt_irrefl _)
 have cellK : ∀ x c, X.env.cells.lookup x = some c → ∀ v, s.heap.IsCell c v → h'.IsCell c v := fun x c e v ⟨o, ho, hd⟩ => by
   have nch : c ∉ ch := fun z => (hch c z).2.2.1 x c e rfl
   by_cases hc : c ∈ X.fs
   · obtain ⟨sl, q⟩ := slot c o (I.cne x c e) hc nch ho (I.freeC x c e)
     exact ⟨_, q, hd⟩
   · exact ⟨o, keep c o (I.cne x c e) hc nch ho (I.freeC x c e), hd⟩
 refine ⟨I.ok, I.os, hg, ⟨fun b o e n hb hx => ?_, fun b o e n hb hx => ?_, fun b o e n hx => ?_, fun b o e hx => ?_, fun b xs e => tups b xs (I.base.tups b xs e), fun b o xs e => frzs b o xs (I.base.frzs b o xs e), fun b ps e => ?_⟩, ?_, fun x c e => ?_, ?_, fun x c e => ?_, fun p hp => ?_, hok, I.len⟩
 · exact keep b o (neL b o e) hb (neC b o e hx) (I.base.keep b o e n hb hx) (I.base.free b o e n hx)
 · obtain ⟨sl, e1⟩ := I.base.slot b o e n hb hx
   obtain ⟨sl', e2⟩ := slot b _ (neL b o e) hb (neC b o e hx) e1 (I.base.free b o e n hx)
   exact ⟨sl', e2⟩
 · obtain ⟨o', e1⟩ := I.base.there b o e hx
   exact free b o' (neC b o e hx) e1 (I.base.free b o e n hx)
 · obtain ⟨o', e1⟩ := I.base.there b o e hx
   exact there b o' (neC b o e hx) e1
 · obtain ⟨m1, e1⟩ := I.base.tbls b ps e
   obtain ⟨m2, e2⟩ := tbls b _ e1
   exact ⟨m1 ++ m2, by rw [e2, Array.append_assoc]⟩
 · obtain ⟨m, hn, hl⟩ := I.loc
   refine ⟨m, ns m hn, fun i x v e1 e2 e3 => ?_⟩
   obtain ⟨u, r, l⟩ := hl i x v e1 e2 e3
   refine ⟨u, r, ?_⟩
   rcases l with l | ⟨k, c, e, z⟩
   · exact .inl l
   · exact .inr ⟨k, c, e, cellK x c e _ z⟩
 · obtain ⟨v, z⟩ := I.cell x c e
   exact ⟨v, cellK x c e v z⟩
 · obtain ⟨m, ⟨o, _, _, ho, _⟩, _⟩ := I.loc
   exact free _ o (fun z => (hch _ z).2.1 rfl) ho I.free
 · obtain ⟨v, o, ho, hd⟩ := I.cell x c e
   exact free c o (fun z => (hch c z).2.2.1 x c e rfl) ho (I.freeC x c e)
 · obtain ⟨e, n, ne, nf, d⟩ := I.pin p hp
   have nch : p.1 ∉ ch := fun z => (hch p.1 z).2.2.2 p hp rfl
   exact ⟨keep p.1 p.2 ne nf nch e n, free p.1 p.2 nch e n, ne, nf, d⟩
theorem Inv.un {t' : Nat} (I : Inv X pins σ H s) (u : Un X.fs [] H H' s.heap h') (hok : HOk X.prog X.w H' h') : Inv X pins σ H' { s with heap := h', toks := t' } := by
 obtain ⟨m, ⟨o, es, ep, ho, r⟩, _⟩ := id I.loc
 obtain ⟨sl, hL⟩ := u.any ho I.free (by simp)
 exact I.step (g' := s.gens) (d' := s.drawn) (ch := []) (fun _ z => nomatch z) (fun b o _ hb _ e n => u.keep b o e n hb (by simp)) (fun b o _ hb _ e n => u.slot b o e n hb (by simp)) (fun b o _ e n => u.free b o e n (by simp)) (fun b o _ e => u.there b o e (by simp)) u.tups u.frzs u.tbls (fun m' hm => by
  obtain ⟨o', es', ep', ho', r'⟩ := hm
  rw [ho] at ho'; cases ho'
  exact ⟨_, es', ep', hL, r'⟩) hok I.bare
theorem Inv.call {g' : Array GenState} {t' : Nat} {d' : Drawn} {ch : List Addr} (I : Inv X pins σ H s) (u : Un (frs X.stack) ch H H' s.heap h') (hok : HOk X.prog X.w H' h') (hg : AllBare g')
  (hch : ∀ b ∈ ch, (b ∈ X.ex ∨ X.s₀.heap.objs.size ≤ b) ∧ b ≠ X.env.locals ∧ (∀ x c, X.env.cells.lookup x = some c → c ≠ b) ∧ ∀ p ∈ X.pn ++ pins, p.1 ≠ b) :
  Inv X pins σ H' { s with heap := h', gens := g', drawn := d', toks := t' } := by
 obtain ⟨m, ⟨o, es, ep, ho, r⟩, _⟩ := id I.loc
 obtain ⟨sl, hL⟩ := u.any ho I.free fun z => (hch _ z).2.1 rfl
 exact I.step (ch := ch) hch (fun b o hL hb hc e n => u.keep b o e n (fun z => (List.mem_cons.mp (I.stkSub b z)).elim hL hb) hc) (fun b o _ _ hc e n => u.any e n hc) (fun b o hc e n => u.free b o e n hc) (fun b o hc e => u.there b o e hc) u.tups u.frzs u.tbls (fun m' hm => by
  obtain ⟨o', es', ep', ho', r'⟩ := hm
  rw [ho] at ho'; cases ho'
  exact ⟨_, es', ep', hL, r'⟩) hok hg
theorem Inv.turned {t' : Nat} {it : Addr} (I : Inv X pins σ H s) (k : ∀ b o, b ≠ it → s.heap.get? b = some o → h'.get? b = some o) (hn : H it = none) (hL : it ≠ X.env.locals)
   (h1 : it ∈ X.ex ∨ X.s₀.heap.objs.size ≤ it) (h2 : ∀ x c, X.env.cells.lookup x = some c → c ≠ it) (h3 : ∀ p ∈ X.pn ++ pins, p.1 ≠ it) : Inv X pins σ H { s with heap := h', toks := t' } := by
 have nit : ∀ b u, H b = some u → b ≠ it := fun b u e z => by rw [z, hn] at e; cases e
 refine I.step (g' := s.gens) (d' := s.drawn) (ch := [it]) (fun b hb => ?_) (fun b o _ _ hc e _ => k b o (fun z => hc (by simp [z])) e) (fun b o _ _ hc e _ => ⟨o.slots, k b o (fun z => hc (by simp [z])) e⟩) (fun _ _ _ _ n => n)
   (fun b o hc e => ⟨o, k b o (fun z => hc (by simp [z])) e⟩) (fun _ _ e => e) (fun _ _ _ e => e) (fun b ps e => ⟨#[], by rw [e]; simp⟩) (fun m hm => ?_) (fun b u e => ?_) I.bare
 · have e : b = it := by simpa using hb
   subst e
   exact ⟨h1, hL, h2, h3⟩
 · obtain ⟨o, es, ep, ho, r⟩ := hm
   exact ⟨o, es, ep, k _ o (Ne.symm hL) ho, r⟩
 · refine (I.hok b u e).stay (fun c v hc q => k c v ?_ q) (fun _ q => q) fun _ _ q => q
   rcases hc with z | z
   · rw [z]; exact nit b u e
   · exact nit c _ z
theorem Inv.tok (I : Inv X pins σ H s) (t : Nat) : Inv X pins σ H { s with toks := t } := I.un (h' := s.heap) (t' := t) Un.refl I.hok
theorem Inv.kept {t' : Nat} (I : Inv X pins σ H s) (k : ∀ b u, s.heap.get? b = some u → h'.get? b = some u) : Inv X pins σ H { s with heap := h', toks := t' } := I.un (Un.kept k) (I.hok.kept k)
theorem Inv.laid {a : Addr} {o : HO} {t' : Nat} (I : Inv X pins σ H s) (k : ∀ b u, s.heap.get? b = some u → h'.get? b = some u) (hp : s.heap.objs.size ≤ a) (new : bB X.prog X.w (upd H a o) h' a o) :
 Inv X pins σ (upd H a o) { s with heap := h', toks := t' } := I.un (Un.laid k hp (I.hok.fresh hp)) (I.hok.laid k hp new)
theorem Inv.write {x e : Addr} {o : HO} {t' : Nat} (I : Inv X pins σ H s) (mu : Mut (H x)) (he : e = x ∨ H e = some (.own x)) (k : ∀ b u, b ≠ e → s.heap.get? b = some u → h'.get? b = some u) (heo : ∃ u, h'.get? e = some u)
 (new : bB X.prog X.w (upd H x o) h' x o) : Inv X pins σ (upd H x o) { s with heap := h', toks := t' } := I.un (Un.write mu he k heo) (I.hok.write mu he k heo new)
theorem Inv.pins_of {pins' : List (Addr × Obj)} (I : Inv X pins σ H s) (h : ∀ p ∈ pins', s.heap.get? p.1 = some p.2 ∧ H p.1 = none ∧ p.1 ≠ X.env.locals ∧ p.1 ∉ X.fs ∧ ∀ v, p.2.data ≠ .cell v) : Inv X pins' σ H s :=
 ⟨I.ok, I.os, I.bare, I.base, I.loc, I.cell, I.free, I.freeC, fun p hp => (List.mem_append.mp hp).elim (fun z => I.pin p (List.mem_append_left _ z)) (h p), I.hok, I.len⟩
theorem qa {N : List Str} (hN : N.Nodup) {i j : Nat} {x : Str} (a : N[i]? = some x) (b : N[j]? = some x) : i = j := by
 obtain ⟨h1, e1⟩ := List.getElem?_eq_some_iff.mp a
 obtain ⟨h2, e2⟩ := List.getElem?_eq_some_iff.mp b
 exact (List.getElem_inj hN).mp (e1.trans e2.symm)
theorem nD {M : Model} {A : Around} {E : Value → Shared → Prop} {i : Nat} {x : Str} {v : V} {u : Value} {Q : Unit → Shared → Prop} (I : Inv X pins σ H s) (hN : X.N.Nodup) (hi : X.N[i]? = some x) (hx : Loc X.env.scope x) (r : bh v u)
   (h : ∀ s', Inv X pins (σ.set i (some v)) H s' → (∃ a, Heap.SameBut a s.heap s'.heap ∧ (a = X.env.locals ∨ X.env.cells.lookup x = some a)) → Q () s') (hf : X.fn x = true ∨ X.env.scope.names.lookup x = some .local := by first | exact .inl rfl | exact .inr rfl | assumption) : wpAny M A (storeName X.env x u) Q E s := by
 obtain ⟨m, hn, hl⟩ := id I.loc
 have hcls : (X.env.scope.kind == .class || (X.env.scope.kind == .module && X.env.locals != X.env.globals)) = false := by rw [I.ok.kind]; rfl
 have hiσ : i < σ.length := by rw [I.len]; exact (List.getElem?_eq_some_iff.mp hi).1
 have cne := I.cne
 have tracked : ∀ {a : Addr} {h' : Heap}, (∃ o, s.heap.get? a = some o ∧ H a = none) → Heap.SameBut a s.heap h' → HOk X.prog X.w H h' := fun {a h'} ha hs b ob e => by
   obtain ⟨_, _, hfree⟩ := ha
   refine (I.hok b ob e).stay (fun c w' hc q => (hs.2 c ?_).trans q) (fun _ q => q) fun _ _ q => q
   rintro rfl
   rcases hc with rfl | hc
   · rw [hfree] at e; cases e
   · rw [hfree] at hc; cases hc
 rcases hx with hk | hk
 · refine wpAny_storeName_local hk hn (fun h' hn' hs => ?_) hcls
   obtain ⟨oL, _, _, hoL, _⟩ := id hn
   refine h _ ⟨I.ok, I.os, I.bare, ⟨fun b o e n hb hx => ?_, fun b o e n hb hx => ?_, I.base.free, fun b o e hx => ?_, I.base.tups, I.base.frzs, I.base.tbls⟩, ⟨_, hn', fun j y v' e1 e2 e3 => ?_⟩, fun y c e => ?_, I.free, I.freeC, fun p hp => ?_, tracked ⟨oL, hoL, I.free⟩ hs, by simpa using I.len⟩ ⟨_, hs, .inl rfl⟩
   · exact (hs.2 b (Nat.ne_of_lt (Nat.lt_of_lt_of_le (Heap.lt_size e) I.ok.above))).trans (I.base.keep b o e n hb hx)
   · obtain ⟨sl, e1⟩ := I.base.slot b o e n hb hx
     exact ⟨sl, (hs.2 b (Nat.ne_of_lt (Nat.lt_of_lt_of_le (Heap.lt_size e) I.ok.above))).trans e1⟩
   · obtain ⟨o', e1⟩ := I.base.there b o e hx
     exact ⟨o', (hs.2 b (Nat.ne_of_lt (Nat.lt_of_lt_of_le (Heap.lt_size e) I.ok.above))).trans e1⟩
   · by_cases hj : j = i
     · subst hj
       rw [hi] at e1; cases e1
       rw [List.getElem?_set_self hiσ] at e2
       cases e2
       exact ⟨u, r, .inl ⟨hk, by simp⟩⟩
     · rw [List.getElem?_set_ne (Ne.symm hj)] at e2
       obtain ⟨u', r', q⟩ := hl j y v' e1 e2 e3
       refine ⟨u', r', ?_⟩
       rcases q with ⟨k, e⟩ | ⟨k, c, e, z⟩
       · refine .inl ⟨k, ?_⟩
         have : y ≠ x := fun e => hj (qa hN e1 (e ▸ hi))
         simp [this, e]
       · exact .inr ⟨k, c, e, z.sameBut hs (cne y c e)⟩
   · obtain ⟨w', z⟩ := I.cell y c e
     exact ⟨w', z.sameBut hs (cne y c e)⟩
   · obtain ⟨e, n, ne, nf, d⟩ := I.pin p hp
     exact ⟨(hs.2 p.1 ne).trans e, n, ne, nf, d⟩
 · have hfn : X.fn x = true := by
     rcases hf with z | z
     · exact z
     · rw [z] at hk; cases hk
   obtain ⟨c, hc⟩ := I.ok.has x (.inl hk)
   obtain ⟨w', z⟩ := I.cell x c hc
   refine wpAny_storeName_cell I.ok.kind hk hc z (fun h' hc' hs => ?_)
   obtain ⟨oc, hoc, hocd⟩ := id z
   refine h { s with heap := h' } ⟨I.ok, I.os, I.bare, ⟨fun b o e n hb hx => ?_, fun b o e n hb hx => ?_, I.base.free, fun b o e hx => ?_, I.base.tups, I.base.frzs, I.base.tbls⟩, ⟨m, hn.sameBut hs (Ne.symm (cne x c hc)), fun j y v' e1 e2 e3 => ?_⟩, fun y c' e => ?_, I.free, I.freeC, fun p hp => ?_, tracked ⟨oc, hoc, I.freeC x c hc⟩ hs, by simpa using I.len⟩ ⟨c, hs, .inr hc⟩
   · exact (hs.2 b (Nat.ne_of_lt (Nat.lt_of_lt_of_le (Heap.lt_size e) (I.ok.cab x c hfn hc)))).trans (I.base.keep b o e n hb hx)
   · obtain ⟨sl, e1⟩ := I.base.slot b o e n hb hx
     exact ⟨sl, (hs.2 b (Nat.ne_of_lt (Nat.lt_of_lt_of_le (Heap.lt_size e) (I.ok.cab x c hfn hc)))).trans e1⟩
   · obtain ⟨o', e1⟩ := I.base.there b o e hx
     exact ⟨o', (hs.2 b (Nat.ne_of_lt (Nat.lt_of_lt_of_le (Heap.lt_size e) (I.ok.cab x c hfn hc)))).trans e1⟩
   · by_cases hj : j = i
     · subst hj
       rw [hi] at e1; cases e1
       rw [List.getElem?_set_self hiσ] at e2
       cases e2
       exact ⟨u, r, .inr ⟨.inl hk, c, hc, hc'⟩⟩
     · rw [List.getElem?_set_ne (Ne.symm hj)] at e2
       obtain ⟨u', r', q⟩ := hl j y v' e1 e2 e3
       refine ⟨u', r', ?_⟩
       rcases q with q | ⟨k, c', e, z'⟩
       · exact .inl q
       · refine .inr ⟨k, c', e, z'.sameBut hs ?_⟩
         rintro rfl
         exact hj (qa hN e1 (I.ok.inj _ _ _ e hc ▸ hi))
   · by_cases hcc : c' = c
     · subst hcc; exact ⟨_, hc'⟩
     · obtain ⟨w2, z2⟩ := I.cell y c' e
       exact ⟨w2, z2.sameBut hs hcc⟩
   · obtain ⟨e, n, ne, nf, d⟩ := I.pin p hp
     refine ⟨(hs.2 p.1 ?_).trans e, n, ne, nf, d⟩
     intro q
     rw [q, hoc] at e
     have q' : oc = p.2 := Option.some.inj e
     exact d w' (by rw [← q']; exact hocd)
theorem fR {M : Model} {A : Around} {E : Value → Shared → Prop} {i : Nat} {x : Str} {v : V} {u : Value} {Q : Unit → Shared → Prop} (I : Inv X pins σ H s) (hN : X.N.Nodup) (hi : X.N[i]? = some x) (hx : Loc X.env.scope x) (r : bh v u)
  (h : ∀ s', Inv X pins (σ.set i (some v)) H s' → Q () s') (hf : X.fn x = true ∨ X.env.scope.names.lookup x = some .local := by first | exact .inl rfl | exact .inr rfl | assumption) : wpAny M A (storeName X.env x u) Q E s :=
 nD I hN hi hx r (fun s' I' _ => h s' I') hf
theorem Inv.call' {s' : Shared} {ch : List Addr} (I : Inv X pins σ H s) (ho : s'.os = s.os) (u : Un (frs X.stack) ch H H' s.heap s'.heap) (hok : HOk X.prog X.w H' s'.heap) (hg : AllBare s'.gens)
  (hch : ∀ b ∈ ch, (b ∈ X.ex ∨ X.s₀.heap.objs.size ≤ b) ∧ b ≠ X.env.locals ∧ (∀ x c, X.env.cells.lookup x = some c → c ≠ b) ∧ ∀ p ∈ X.pn ++ pins, p.1 ≠ b) : Inv X pins σ H' s' := by
 obtain ⟨h', g', d', t', o'⟩ := s'
 have e : o' = s.os := ho
 subst e
 exact I.call (g' := g') (t' := t') (d' := d') u hok hg hch
end
abbrev XK := Value → Option Addr → Hp → Prop
abbrev St := List (Option V)
abbrev VK := V → Hp → Prop
abbrev TE := St → Hp → VK → Prop
abbrev TT := St → Hp → (Bool → Hp → Prop) → Prop
abbrev TA := St → Hp → (List V → Hp → Prop) → Prop
structure iv where
 nx : St → Hp → Prop
 rt : VK
 bk : St → Hp → Prop := fun _ _ => False
 ct : St → Hp → Prop := fun _ _ => False
abbrev TS := iv → St → Hp → Prop
def EP (X : Cx) (pins : List (Addr × Obj)) (σ : St) (Q : VK) (u : Value) (s' : Shared) : Prop := ∃ v H', Inv X pins σ H' s' ∧ bh v u ∧ Q v H'
def TP (X : Cx) (pins : List (Addr × Obj)) (σ : St) (Q : Bool → Hp → Prop) (b : Bool) (s' : Shared) : Prop := ∃ H', Inv X pins σ H' s' ∧ Q b H'
def AP (X : Cx) (pins : List (Addr × Obj)) (σ : St) (Q : List V → Hp → Prop) (us : List Value) (s' : Shared) : Prop := ∃ vs H', Inv X pins σ H' s' ∧ br vs us ∧ Q vs H'
def SP (X : Cx) (pins : List (Addr × Obj)) (D : iv) (f : Flow) (s' : Shared) : Prop :=
 match f with
 | .next => ∃ σ' H', Inv X pins σ' H' s' ∧ D.nx σ' H'
 | .brk => ∃ σ' H', Inv X pins σ' H' s' ∧ D.bk σ' H'
 | .cont => ∃ σ' H', Inv X pins σ' H' s' ∧ D.ct σ' H'
 | .ret u => ∃ v σ' H', Inv X pins σ' H' s' ∧ bh v u ∧ D.rt v H'
def PE (X : Cx) (e : Expr) (t : TE) : Prop :=
 ∀ (pins : List (Addr × Obj)) (s : Shared) (σ : St) (H : Hp) (Q : VK), Inv X pins σ H s → t σ H Q → wpAny (model X.prog X.w) X.A (eval e X.env) (EP X pins σ Q) X.xe s
def PT (X : Cx) (e : Expr) (t : TT) : Prop :=
 ∀ (pins : List (Addr × Obj)) (s : Shared) (σ : St) (H : Hp) (Q : Bool → Hp → Prop), Inv X pins σ H s → t σ H Q → wpAny (model X.prog X.w) X.A (isTrue e X.env (eval e X.env)) (TP X pins σ Q) X.xe s
def PW (X : Cx) (e : Expr) (t : TT) : Prop :=
 ∀ (whole : Sem Value) (pins : List (Addr × Obj)) (s : Shared) (σ : St) (H : Hp) (Q : Bool → Hp → Prop), Inv X pins σ H s → t σ H Q → wpAny (model X.prog X.w) X.A (isTrue e X.env whole) (TP X pins σ Q) X.xe s
theorem PW.pt {X : Cx} {e : Expr} {t : TT} (h : PW X e t) : PT X e t := h _
def PA (X : Cx) (es : List Expr) (t : TA) : Prop :=
 ∀ (pos : Pos) (pins : List (Addr × Obj)) (s : Shared) (σ : St) (H : Hp) (Q : List V → Hp → Prop), Inv X pins σ H s → t σ H Q → wpAny (model X.prog X.w) X.A (spliced (backTo pos (starEach es X.env))) (AP X pins σ Q) X.xe s
def PS (X : Cx) (st : Stmt) (t : TS) : Prop :=
 ∀ (pins : List (Addr × Obj)) (s : Shared) (σ : St) (H : Hp) (D : iv), Inv X pins σ H s → t D σ H → wpAny (model X.prog X.w) X.A (exec st X.env) (SP X pins D) X.xe s
def PSs (X : Cx) (st : List Stmt) (t : TS) : Prop :=
 ∀ (pins : List (Addr × Obj)) (s : Shared) (σ : St) (H : Hp) (D : iv), Inv X pins σ H s → t D σ H → wpAny (model X.prog X.w) X.A (execs st X.env) (SP X pins D) X.xe s
theorem thn {α : Type} {t : Sem α} {Q Q' : α → Shared → Prop} {M : Model} {A : Around} {E : Value → Shared → Prop} {s : Shared} (h : wpAny M A t Q E s) (hQ : ∀ a s, Q a s → Q' a s) : wpAny M A t Q' E s := wpAny_mono h hQ fun _ _ x => x
end L2
namespace L2
open PySem PySem.Spec PyProof.Rows
section
variable {X : Cx}
def Ic (i : Nat) : TE := fun σ H Q => ∃ v, σ[i]? = some (some v) ∧ Q v H
def tC (v : V) : TE := fun _ H Q => Q v H
theorem Ck {i : Nat} {x : Str} {pos : Pos} (hN : X.N[i]? = some x) (hv : Vis X.env.scope x) (hd : (x == ("__debug__" : Str)) = false := by decide) (hcd : (x == ("__classdict__" : Str)) = false := by decide) : PE X (.Name x pos) (Ic i) := by
 intro pins s σ H Q I h
 obtain ⟨v, e, h⟩ := h
 obtain ⟨m, hn, hl⟩ := I.loc
 obtain ⟨u, r, l⟩ := hl i x v hN e hv
 have fin : EP X pins σ Q u s := ⟨v, H, I, r, h⟩
 rcases l with ⟨hk, hm⟩ | ⟨hk, c, hc, hcell⟩
 · exact wpAny_Name (wpAny_loadName_local I.ok.kind hk hn hm fin) hd
 · rcases hk with hk | hk
   · exact wpAny_Name (wpAny_loadName_cell I.ok.kind hk hc hcell fin) hd
   · exact wpAny_Name (wpAny_loadName_free I.ok.kind hk hc hcell fin hcd) hd
theorem Cr {i j pos} : PE X (.Constant (.int i) j pos) (tC (.int i)) := fun _ _ _ H _ I h => wpAny_Constant_int ⟨.int i, H, I.tok _, ⟨_, rfl⟩, h⟩
theorem Ea {b j pos} : PE X (.Constant (.bool b) j pos) (tC (.bl b)) := fun _ _ _ H _ I h => Constant_bool ⟨.bl b, H, I, rfl, h⟩
theorem BI {j pos} : PE X (.Constant .none j pos) (tC .non) := fun _ _ _ H _ I h => Constant_none ⟨.non, H, I, rfl, h⟩
theorem AB {x j pos} : PE X (.Constant (.str x) j pos) (tC (.str x)) := fun _ _ _ H _ I h => Calls.Constant_str ⟨.str x, H, I.tok _, ⟨_, rfl⟩, h⟩
def Gl (X : Cx) (x : Str) : Prop := X.env.kindOf x = some .globalImplicit
theorem rA {E : Value → Shared → Prop} {pins : List (Addr × Obj)} {s : Shared} {σ : St} {H : Hp} {x : Str} {u : Value} {pos : Pos} {Q : Value → Shared → Prop} (I : Inv X pins σ H s) (hg : Gl X x) (hm : X.mg x = some u) (h : Q u s)
  (hd : (x == ("__debug__" : Str)) = false := by decide) : wpAny (model X.prog X.w) X.A (eval (.Name x pos) X.env) Q E s :=
 Calls.Name_function_global I.ok.kind hg (Calls.loadGlobal_global (by rw [I.ok.glob]; exact I.mod.glob.keeps I.bk) hm h) hd
theorem jW {E : Value → Shared → Prop} {pins : List (Addr × Obj)} {s : Shared} {σ : St} {H : Hp} {x : Str} {u : Value} {pos : Pos} {Q : Value → Shared → Prop} (I : Inv X pins σ H s) (hg : Gl X x) (hm : X.mg x = none) (hv : bootBuiltins x = some u) (h : Q u s)
  (hn : x ≠ "__name__" := by decide) (hd : (x == ("__debug__" : Str)) = false := by decide) : wpAny (model X.prog X.w) X.A (eval (.Name x pos) X.env) Q E s := by
 obtain ⟨mb, h1, h2⟩ := I.mod.blt
 exact Calls.Name_function_global I.ok.kind hg (Calls.loadGlobal_builtin (by rw [I.ok.glob]; exact I.mod.glob.keeps I.bk) hm (by rw [I.ok.blt]; exact h1.keeps I.bk) ((h2 x hn).trans hv) h) hd
theorem zn {x : Str} {v : V} {u : Value} {pos : Pos} (hg : Gl X x) (hm : X.mg x = some u) (r : bh v u) (hd : (x == ("__debug__" : Str)) = false := by decide) : PE X (.Name x pos) (tC v) :=
 fun _ _ _ H _ I h => rA I hg hm ⟨v, H, I, r, h⟩ hd
theorem zy {x : Str} {v : V} {u : Value} {pos : Pos} (hg : Gl X x) (hm : X.mg x = none) (hv : bootBuiltins x = some u) (r : bh v u) (hn : x ≠ "__name__" := by decide) (hd : (x == ("__debug__" : Str)) = false := by decide) : PE X (.Name x pos) (tC v) :=
 fun _ _ _ H _ I h => jW I hg hm hv ⟨v, H, I, r, h⟩ hn hd
variable {a b : Expr} {ta tb : TE} {pos : Pos}
variable {tA tB' : TT} {ci : List Expr}
def bT (t : TT) : TT := fun σ H Q => t σ H fun c H1 => Q (!c) H1
theorem zZ (ha : PT X a tA) : PW X (.BoolOp .And [a] pos) tA := by
 intro wh pins s σ H Q I h
 refine isTrue_and (thn (ha pins s σ H Q I h) fun c s1 e => ?_)
 cases c with
 | true => exact isTrue_and_nil e
 | false => exact e
theorem Ca (ha : PT X a tA) : PW X (.BoolOp .Or [a] pos) tA := by
 intro wh pins s σ H Q I h
 refine isTrue_or (thn (ha pins s σ H Q I h) fun c s1 e => ?_)
 cases c with
 | false => exact isTrue_or_nil e
 | true => exact e
theorem BK (ha : PT X a tA) : PT X (.UnaryOp .Not a pos) (bT tA) := by
 intro pins s σ H Q I h
 exact isTrue_not (ha pins s σ H (fun c H1 => Q (!c) H1) I h)
theorem BR {op} {t : TE} (h : PE X a t) : PE X (.BoolOp op [a] pos) t := fun pins s σ H Q I hw => BoolOp_one (h pins s σ H Q I hw)
end
end L2
namespace L2
open PySem PySem.Spec PyProof.Rows
def SqL (K : W.Frag) (H : Hp) (a : Addr) (xs : List V) : Prop :=
 Rd H a (.lst xs) ∨
  ∃ (o : Obj) (its : Array Value) (n : Nat), K.lookup a = some o ∧ o.cls = .type "list" ∧ o.dict = none ∧ o.data = .seq its n ∧ its.size ≤ sizeLine ∧ br xs its.toList
def SqT (K : W.Frag) (H : Hp) (a : Addr) (xs : List V) : Prop :=
 Rd H a (.tup xs) ∨
  ∃ (o : Obj) (its : Array Value) (n : Nat), K.lookup a = some o ∧ o.cls = .type "tuple" ∧ o.data = .seq its n ∧ its.size ≤ sizeLine ∧ br xs its.toList
def Hm : Value → Option V
 | .none => some .non
 | .bool b => some (.bl b)
 | .int i _ => some (.int i)
 | .str x _ => some (.str x)
 | .bytes b _ => some (.byt b)
 | .float b _ => some (.flt b)
 | .ref a => some (.ref a)
 | .type n => some (.ty n)
 | _ => none
theorem bh.abs {x : V} {u : Value} (r : bh x u) : Hm u = some x := by
 cases x with
 | non => cases r; rfl
 | bl _ => cases r; rfl
 | int _ => obtain ⟨t, rfl⟩ := r; rfl
 | str _ => obtain ⟨t, rfl⟩ := r; rfl
 | byt _ => obtain ⟨t, rfl⟩ := r; rfl
 | flt _ => obtain ⟨t, rfl⟩ := r; rfl
 | ref _ => cases r; rfl
 | ty _ => cases r; rfl
theorem bh.inj {x y : V} {u : Value} (r : bh x u) (q : bh y u) : x = y := Option.some.inj (r.abs.symm.trans q.abs)
theorem br.inj : ∀ {xs ys : List V} {us : List Value}, br xs us → br ys us → xs = ys
 | _, _, _, .nil, .nil => rfl
 | _, _, _, .cons r t, .cons r' t' => by rw [r.inj r', br.inj t t']
section
variable {X : Cx} {pins : List (Addr × Obj)} {σ : St} {H : Hp} {s : Shared} {a : Addr} {xs ys : List V}
theorem SqL.of {K : W.Frag} (h : H a = some (.lst xs)) : SqL K H a xs := .inl (.inl h)
theorem SqT.of {K : W.Frag} (h : H a = some (.tup xs)) : SqT K H a xs := .inl (.inl h)
theorem Inv.list (I : Inv X pins σ H s) (h : SqL X.K H a xs) : ∃ its : List Value, br xs its ∧ PlainL s.heap a its.toArray ∧ xs.length ≤ sizeLine := by
 rcases h with h | ⟨o, its, n, hk, hc, hd, hs, hz, r⟩
 · obtain ⟨z, its, n, r, e⟩ := h.ok I.hok
   exact ⟨its, r, ⟨_, n, e, rfl, rfl, rfl⟩, z⟩
 · refine ⟨its.toList, r, ⟨o, n, I.kIn a o hk, hc, hd, by simpa using hs⟩, ?_⟩
   have e := r.length
   simp only [Array.length_toList] at e
   omega
theorem Inv.tuple (I : Inv X pins σ H s) (h : SqT X.K H a xs) : ∃ its : List Value, br xs its ∧ IsTup s.heap a its.toArray ∧ xs.length ≤ sizeLine := by
 rcases h with h | ⟨o, its, n, hk, hc, hs, hz, r⟩
 · obtain ⟨z, its, r, p⟩ := h.ok I.hok
   exact ⟨its, r, p, z⟩
 · refine ⟨its.toList, r, ⟨o, I.kIn a o hk, hc, n, by simpa using hs⟩, ?_⟩
   have e := r.length
   simp only [Array.length_toList] at e
   omega
theorem Inv.list_inj (I : Inv X pins σ H s) (h : SqL X.K H a xs) (h' : SqL X.K H a ys) : xs = ys := by
 obtain ⟨its, r, ⟨o, n, e, _, _, d⟩, _⟩ := I.list h
 obtain ⟨its', r', ⟨o', n', e', _, _, d'⟩, _⟩ := I.list h'
 rw [e] at e'; cases e'
 rw [d] at d'
 injection d' with d1 _
 have : its = its' := by simpa using congrArg Array.toList d1
 subst this
 exact r.inj r'
theorem Inv.tuple_inj (I : Inv X pins σ H s) (h : SqT X.K H a xs) (h' : SqT X.K H a ys) : xs = ys := by
 obtain ⟨its, r, ⟨o, e, _, n, d⟩, _⟩ := I.tuple h
 obtain ⟨its', r', ⟨o', e', _, n', d'⟩, _⟩ := I.tuple h'
 rw [e] at e'; cases e'
 rw [d] at d'
 injection d' with d1 _
 have : its = its' := by simpa using congrArg Array.toList d1
 subst this
 exact r.inj r'
end
abbrev Cx.wish (X : Cx) (E : Value → Shared → Prop) : Cx := { X with xe := E }
abbrev Cx.nox (X : Cx) : Cx := X.wish fun _ _ => False
theorem Cx.Ok.wish {X : Cx} (ok : X.Ok) (E : Value → Shared → Prop) : (X.wish E).Ok :=
 ⟨ok.mod, ok.kind, ok.glob, ok.blt, ok.above, ok.inj, ok.has, ok.cab, ok.hd, ok.frames, ok.stk, ok.exf, ok.bs, ok.bsz, ok.noex, ok.exfs, ok.funs, ok.frf⟩
theorem Cx.Ok.unwish {X : Cx} {E : Value → Shared → Prop} (ok : (X.wish E).Ok) : X.Ok :=
 ⟨ok.mod, ok.kind, ok.glob, ok.blt, ok.above, ok.inj, ok.has, ok.cab, ok.hd, ok.frames, ok.stk, ok.exf, ok.bs, ok.bsz, ok.noex, ok.exfs, ok.funs, ok.frf⟩
section
variable {X : Cx} {pins : List (Addr × Obj)} {σ : St} {H : Hp} {s : Shared} {E : Value → Shared → Prop}
theorem Inv.wish (I : Inv X pins σ H s) (E : Value → Shared → Prop) : Inv (X.wish E) pins σ H s := ⟨I.ok.wish E, I.os, I.bare, I.base, I.loc, I.cell, I.free, I.freeC, I.pin, I.hok, I.len⟩
theorem Inv.unwish (I : Inv (X.wish E) pins σ H s) : Inv X pins σ H s := ⟨I.ok.unwish, I.os, I.bare, I.base, I.loc, I.cell, I.free, I.freeC, I.pin, I.hok, I.len⟩
theorem SP.unwish {D : iv} {f : Flow} {s' : Shared} (h : SP (X.wish E) pins D f s') : SP X pins D f s' := by
 cases f with
 | next => obtain ⟨σ', H', I, q⟩ := h; exact ⟨σ', H', I.unwish, q⟩
 | brk => obtain ⟨σ', H', I, q⟩ := h; exact ⟨σ', H', I.unwish, q⟩
 | cont => obtain ⟨σ', H', I, q⟩ := h; exact ⟨σ', H', I.unwish, q⟩
 | ret u => obtain ⟨v, σ', H', I, r, q⟩ := h; exact ⟨v, σ', H', I.unwish, r, q⟩
theorem PSs.nox {st : List Stmt} {t : TS} (h : PSs X.nox st t) : PSs X st t := fun pins s σ H D I hw =>
 wpAny_mono (h pins s σ H D (I.wish _) hw) (fun _ _ q => q.unwish) fun _ _ z => False.elim z
end
section
variable {X : Cx} {st : Stmt} {ci : List Stmt} {t u : TS} {e : Expr} {te : TE} {pos : Pos}
def aI : TS := fun D σ H => D.nx σ H
def ao (t u : TS) : TS := fun D σ H => t { D with nx := u D } σ H
theorem zD : PSs X [] aI := fun _ _ σ H _ I h => wpAny_execs_nil ⟨σ, H, I, h⟩
theorem wb (h1 : PS X st t) (h2 : PSs X ci u) : PSs X (st :: ci) (ao t u) := by
  intro pins s σ H D I h
  refine wpAny_execs_cons (thn (h1 pins s σ H { D with nx := u D } I h) fun f s1 q => ?_)
  cases f with
  | next =>
    obtain ⟨σ', H', I', q⟩ := q
    exact h2 pins s1 σ' H' D I' q
  | ret v => exact q
  | brk => exact q
  | cont => exact q
theorem zv (h1 : PS X st t) : PSs X [st] t := by
 intro pins s σ H D I h
 refine wpAny_execs_cons (thn (h1 pins s σ H D I h) fun f s1 q => ?_)
 cases f with
 | next => exact wpAny_execs_nil q
 | ret v => exact q
 | brk => exact q
 | cont => exact q
theorem Inv.quiet {pins : List (Addr × Obj)} {σ : St} {H : Hp} {s : Shared} (I : Inv X pins σ H s) : interactive X.env = false := by simp [interactive, I.ok.kind]
def cH (te : TE) : TS := fun D σ H => te σ H fun _ H1 => D.nx σ H1
theorem zW (he : PE X e te) (hs : swapsWith e none pos.line X.env = pure false := by rfl) : PS X (.Expr e pos) (cH te) := by
 intro pins s σ H D I h
 exact wpAny_Expr_any (thn (he pins s σ H _ I h) fun v s1 ⟨x, H1, I1, r1, q1⟩ => ⟨σ, H1, I1, q1⟩) I.quiet hs
def aA (te : TE) : TS := fun D σ H => te σ H D.rt
theorem Bw (he : PE X e te) : PS X (.Return (some e) pos) (aA te) := by
 intro pins s σ H D I h
 exact wpAny_Return_some (thn (he pins s σ H _ I h) fun v s1 ⟨x, H1, I1, r1, q1⟩ => ⟨x, σ, H1, I1, r1, q1⟩)
def eS : TS := fun _ _ _ => False
theorem vN : PS X st eS := fun _ _ _ _ _ _ h => h.elim
end
abbrev TG := V → St → Hp → (St → Hp → Prop) → Prop
abbrev TGs := List V → St → Hp → (St → Hp → Prop) → Prop
def PG (X : Cx) (target : Expr) (t : TG) : Prop :=
 ∀ (pins : List (Addr × Obj)) (s : Shared) (σ : St) (H : Hp) (v : V) (u : Value) (Q : St → Hp → Prop), Inv X pins σ H s → bh v u → t v σ H Q →
  wpAny (model X.prog X.w) X.A (assign target X.env u) (fun _ s' => ∃ σ' H', Inv X pins σ' H' s' ∧ Q σ' H') X.xe s
def PGs (X : Cx) (ts : List Expr) (t : TGs) : Prop :=
 ∀ (pins : List (Addr × Obj)) (s : Shared) (σ : St) (H : Hp) (vs : List V) (us : List Value) (Q : St → Hp → Prop), Inv X pins σ H s → br vs us → t vs σ H Q →
  wpAny (model X.prog X.w) X.A (assignInOrder ((assignEach ts X.env).map (·.2)) us) (fun _ s' => ∃ σ' H', Inv X pins σ' H' s' ∧ Q σ' H') X.xe s
section
variable {X : Cx} {pos : Pos}
def ar (i : Nat) : TG := fun v σ H Q => Q (σ.set i (some v)) H
theorem ig {i : Nat} {x : Str} (hN : X.N.Nodup) (hi : X.N[i]? = some x) (hx : Loc X.env.scope x) (hf : X.fn x = true ∨ X.env.scope.names.lookup x = some .local := by first | exact .inl rfl | exact .inr rfl | assumption) : PG X (.Name x pos) (ar i) := by
 intro pins s σ H v u Q I r h
 exact wpAny_assign_Name (fR I hN hi hx r (fun s' I' => ⟨_, H, I', h⟩) hf)
def nw : TGs := fun vs σ H Q => vs = [] ∧ Q σ H
def eH (t : TG) (u : TGs) : TGs := fun vs σ H Q => ∃ v r, vs = v :: r ∧ t v σ H fun σ' H' => u r σ' H' Q
theorem rl : PGs X [] nw := by
 intro pins s σ H vs us Q I r h
 obtain ⟨e, h⟩ := h
 subst e
 cases r
 exact assignInOrder_nil ⟨σ, H, I, h⟩
theorem iD {e : Expr} {es : List Expr} {t : TG} {u : TGs} (h1 : PG X e t) (h2 : PGs X es u)
    (hs : (assignEach (e :: es) X.env).map (·.2) = assign e X.env :: (assignEach es X.env).map (·.2) := by rfl) : PGs X (e :: es) (eH t u) := by
  intro pins s σ H vs us Q I r h
  obtain ⟨v, vr, e1, h⟩ := h
  subst e1
  cases r with
  | cons r rr =>
    rw [hs]
    refine assignInOrder_cons (thn (h1 pins s σ H _ _ _ I r h) fun _ s1 ⟨σ1, H1, I1, q1⟩ => ?_)
    exact h2 pins s1 σ1 H1 _ _ Q I1 rr q1
def nB (K : W.Frag) (n : Nat) (t : TGs) : TG := fun v σ H Q => ∃ a xs, v = .ref a ∧ SqT K H a xs ∧ xs.length = n ∧ t xs σ H Q
theorem tR {es : List Expr} {k : Nat} {t : TGs} {n : Nat} (hc : X.calm = true) (h : PGs X es t)
  (hn : (assignEach es X.env).length = n := by rfl) (hst : (assignEach es X.env).findIdx? (·.1) = none := by rfl) : PG X (.Tuple es k pos) (nB X.K n t) := by
 intro pins s σ H v u Q I r hw
 obtain ⟨a, xs, e1, hq, hl, hw⟩ := hw
 subst e1
 cases r
 obtain ⟨its, rv, ht, hz⟩ := I.tuple hq
 refine assign_Tuple_tuple (I.ok.hd hc) ht (by simp [hn, ← hl, rv.length]) hst fun h' hx => ?_
 have I1 : Inv X pins σ H { s with heap := h' } := I.kept (t' := s.toks) fun b o e => hx b o (Nat.ne_of_lt (Heap.lt_size e)) e
 exact h pins _ σ H xs _ Q I1 (by simpa using rv) hw
def aB (te : TE) (g : TG) : TS := fun D σ H => te σ H fun x H1 => g x σ H1 D.nx
theorem CY {tg e : Expr} {te : TE} {g : TG} (he : PE X e te) (hg : PG X tg g) (hs : swapsWithSole [tg] e pos.line X.env = pure false := by rfl) (hw : swappedStores [tg] e X.env = pure none := by rfl)
  (h1 : (assignEach [tg] X.env).map (·.2) = [assign tg X.env] := by rfl) : PS X (.Assign [tg] e pos) (aB te g) := by
 intro pins s σ H D I h
 refine wpAny_Assign_stores (thn (he pins s σ H _ I h) fun v s1 ⟨x, H1, I1, r1, q1⟩ => ?_) hs hw
 rw [h1]
 exact thn (hg pins s1 σ H1 x v _ I1 r1 q1) fun _ s2 q => q
theorem BC {i : Nat} {x : Str} {e : Expr} {te : TE} {pos' : Pos} (hN : X.N.Nodup) (hi : X.N[i]? = some x) (hx : Loc X.env.scope x) (he : PE X e te) (hs : swapsWith e (some (.Name x pos')) pos.line X.env = pure false := by rfl) (hf : X.fn x = true ∨ X.env.scope.names.lookup x = some .local := by first | exact .inl rfl | exact .inr rfl | assumption) :
  PS X (.Assign [.Name x pos'] e pos) (aB te (ar i)) := by
 intro pins s σ H D I h
 refine wpAny_Assign_Name (thn (he pins s σ H _ I h) fun v s1 ⟨y, H1, I1, r1, q1⟩ => ?_) hs
 exact fR I1 hN hi hx r1 (fun s2 I2 => ⟨_, H1, I2, q1⟩) hf
def mP (i j : Nat) (ta : TA) : TS := fun D σ H => ta σ H fun vs H1 => ∃ v w, vs = [v, w] ∧ D.nx ((σ.set i (some v)).set j (some w)) H1
theorem Cu {i j : Nat} {x y : Str} {a b : Expr} {ta : TA} {px py pt : Pos} {kt k2 pt2} (hc : X.calm = true) (hN : X.N.Nodup) (hi : X.N[i]? = some x) (hj : X.N[j]? = some y) (hij : i ≠ j)
    (hx : X.env.scope.names.lookup x = some .local) (hy : X.env.scope.names.lookup y = some .local) (ha : PA X [a, b] ta)
    (hw : swappedStores [.Tuple [.Name x px, .Name y py] kt pt] (.Tuple [a, b] k2 pt2) X.env = pure (some [x, y]))
    (hs : swapsWithSole [.Tuple [.Name x px, .Name y py] kt pt] (.Tuple [a, b] k2 pt2) pos.line X.env = pure false := by rfl) :
    PS X (.Assign [.Tuple [.Name x px, .Name y py] kt pt] (.Tuple [a, b] k2 pt2) pos) (mP i j ta) := by
  intro pins s σ H D I h
  rw [exec_Assign_arm]
  refine wpAny_bind (wpAny_standAt ?_)
  rw [hs]
  refine wpAny_bind (wpAny_pure ?_)
  rw [if_neg (by decide)]
  refine wpAny_bind (Tuple_ (thn (ha _ pins s σ H _ I h) fun us s1 ⟨vs, H1, I1, r1, q1⟩ => ?_))
  obtain ⟨v, w, e1, q1⟩ := q1
  subst e1
  obtain ⟨u1, u2, rfl, rv, rw'⟩ : ∃ u1 u2, us = [u1, u2] ∧ bh v u1 ∧ bh w u2 := by
    cases r1 with
    | cons p q =>
      cases q with
      | cons p' q' =>
        cases q'
        exact ⟨_, _, rfl, p, p'⟩
  refine wpAny_newObj_type ?_ (by show 2 ≤ sizeLine; decide)
  have I2 : Inv X pins σ H1 { s1 with heap := s1.heap.push { cls := .type "tuple", data := .seq [u1, u2].toArray } } := I1.kept (t' := s1.toks) fun b o e => Heap.get?_push_of_some _ e
  rw [hw]
  refine wpAny_bind (wpAny_pure ?_)
  show wpAny (model X.prog X.w) X.A (do rule "assign.swapped-stores"; let items ← unpackItems (.ref s1.heap.objs.size) 2 none; assignInOrder [fun v => bindName X.env y v, fun v => bindName X.env x v] items.reverse; pure Flow.next) _ _ _
  refine wpAny_bind (wpAny_rule (wpAny_bind (unpackItems_tuple (items := #[u1, u2]) (I.ok.hd hc) (IsTup.new s1.heap _) fun h' hx' => ?_)))
  have I3 := I2.kept (h' := h') (t' := s1.toks) fun b o e => hx' b o (Nat.ne_of_lt (Heap.lt_size e)) e
  show wpAny _ _ (assignInOrder [fun v => bindName X.env y v, fun v => bindName X.env x v] [u2, u1] >>= fun _ => pure Flow.next) _ _ _
  refine wpAny_bind (assignInOrder_cons (wpAny_bindName (fR I3 hN hj (.inl hy) rw' (fun s2 I4 => ?_) (.inr hy))))
  refine assignInOrder_cons (wpAny_bindName (fR I4 hN hi (.inl hx) rv (fun s3 I5 => assignInOrder_nil (wpAny_pure ?_)) (.inr hx)))
  rw [List.set_comm _ _ (Ne.symm hij)] at I5
  exact ⟨_, H1, I5, q1⟩
end
section
variable {X : Cx} {pos : Pos}
def mi (c : TT) (tb : TS) : TS := fun D σ H => ∃ W : Nat → St → Hp → Prop, (∃ m, W m σ H) ∧ ∀ m σ H, W m σ H →
 c σ H fun b H1 => if b = true then ∃ N : St → Hp → Prop, (∀ σ' H', N σ' H' → ∃ m', m' < m ∧ W m' σ' H') ∧ tb { D with nx := N, ct := N, bk := D.nx } σ H1 else D.nx σ H1
theorem wM {c : Expr} {body : List Stmt} {tc : TT} {tb : TS} (hp : PassesOwn (model X.prog X.w) X.A X.env X.xe) (hc : PT X c tc) (hb : PSs X body tb) : PS X (.While c body [] pos) (mi tc tb) := by
  intro pins s σ H D I h
  obtain ⟨W, ⟨m0, w0⟩, turn⟩ := h
  refine wpAny_While (codeAny_whileLoop (fun n s' => ∃ σ' H', Inv X pins σ' H' s' ∧ W n σ' H') ?_ m0 ⟨σ, H, I, w0⟩)
  rintro n s1 ⟨σ1, H1, I1, w1⟩
  refine wpAny_passesOwn hp (thn (hc pins s1 σ1 H1 _ I1 (turn n σ1 H1 w1)) fun b s2 ⟨H2, I2, q2⟩ => ?_)
  cases b with
  | true =>
    obtain ⟨N, hN, q2⟩ := q2
    rw [if_pos rfl]
    refine wpAny_passesOwn hp (thn (hb pins s2 σ1 H2 _ I2 q2) fun f s3 q3 => ?_)
    cases f with
    | next =>
      obtain ⟨σ3, H3, I3, n3⟩ := q3
      obtain ⟨m', hm, w3⟩ := hN σ3 H3 n3
      exact ⟨m', hm, σ3, H3, I3, w3⟩
    | cont =>
      obtain ⟨σ3, H3, I3, n3⟩ := q3
      obtain ⟨m', hm, w3⟩ := hN σ3 H3 n3
      exact ⟨m', hm, σ3, H3, I3, w3⟩
    | brk => exact q3
    | ret v => exact q3
  | false =>
    rw [if_neg Bool.false_ne_true]
    exact wpAny_execs_nil ⟨σ1, H2, I2, q2⟩
end
structure It where
 go : Nat → Hp → Prop
 yld : Nat → Hp → V → Hp → Prop
 stop : Nat → Hp → Prop
def kg (X : Cx) (pins : List (Addr × Obj)) (H : Hp) (b : Addr) : Prop :=
 H b = none ∧ b ≠ X.env.locals ∧ b ∉ X.fs ∧ (b ∈ X.ex ∨ X.s₀.heap.objs.size ≤ b) ∧ (∀ x c, X.env.cells.lookup x = some c → c ≠ b) ∧ ∀ p ∈ X.pn ++ pins, p.1 ≠ b
theorem Inv.fpOk {X : Cx} {pins : List (Addr × Obj)} {σ : St} {H H' : Hp} {s : Shared} {b : Addr} (I : Inv X pins σ H s) (hb : s.heap.objs.size ≤ b) (hn : H' b = none) : kg X pins H' b := by
 refine ⟨hn, Nat.ne_of_gt (Nat.lt_of_lt_of_le I.lt hb), I.nofs hb, .inr (Nat.le_trans I.sz hb), fun x c e z => ?_, fun p hp z => ?_⟩
 · obtain ⟨v, q⟩ := I.cell x c e
   exact absurd (Nat.lt_of_lt_of_le q.lt (by rw [z]; exact hb)) (Nat.lt_irrefl _)
 · exact absurd (Nat.lt_of_lt_of_le (Heap.lt_size (I.pin p hp).1) (by rw [z]; exact hb)) (Nat.lt_irrefl _)
structure lF (P : Program) (w : World) (K : W.Frag) (tg : Expr) (J : It) (fp : List Addr) (it : Addr) (tn : Nat → Heap → Prop) : Prop where
 mem : it ∈ fp
 obj : ∀ i h, tn i h → ∀ b ∈ fp, ∃ o, h.get? b = some o ∧ ∀ v, o.data ≠ .cell v
 keep : ∀ i h h', tn i h → (∀ b ∈ fp, ∀ o, h.get? b = some o → h'.get? b = some o) → tn i h'
 item : ∀ (X : Cx), X.prog = P → X.w = w → X.K = K → X.calm = true → ∀ (i : Nat) (pins : List (Addr × Obj)) (s : Shared) (σ : St) (H : Hp) (E : Value → Shared → Prop), Inv X pins σ H s → (∀ b ∈ fp, kg X pins H b) → tn i s.heap → J.go i H →
  wpAny (model P w) X.A (pyNext (.ref it)) (fun r s1 => ∃ u, r = some u ∧
   wpAny (model P w) X.A (letOwnedTupleGo tg (.ref it) u) (fun _ s2 => ∃ x H', Inv X pins σ H' s2 ∧ bh x u ∧ J.yld i H x H' ∧ tn (i + 1) s2.heap ∧ ∀ b ∈ fp, H' b = none) E s1) E s
 done : ∀ (X : Cx), X.prog = P → X.w = w → X.K = K → X.calm = true → ∀ (i : Nat) (pins : List (Addr × Obj)) (s : Shared) (σ : St) (H : Hp) (E : Value → Shared → Prop), Inv X pins σ H s → (∀ b ∈ fp, kg X pins H b) → tn i s.heap → J.stop i H →
  wpAny (model P w) X.A (pyNext (.ref it)) (fun r s1 => r = none ∧ Inv X pins σ H s1) E s
 self : ∀ (A : Around) (i : Nat) (s : Shared) (Q : Value → Shared → Prop) (E : Value → Shared → Prop), tn i s.heap → Q (.ref it) s → wpAny (model P w) A (pyIter (.ref it)) Q E s
abbrev TI := St → Hp → (It → Hp → Prop) → Prop
def PIE (X : Cx) (pins : List (Addr × Obj)) (σ : St) (tg : Expr) (R : It → Hp → Prop) (itv : Value) (s2 : Shared) : Prop :=
 ∃ (it : Addr) (fp : List Addr) (tn : Nat → Heap → Prop) (J : It) (H' : Hp), itv = .ref it ∧ Inv X pins σ H' s2 ∧ lF X.prog X.w X.K tg J fp it tn ∧ tn 0 s2.heap ∧ (∀ b ∈ fp, kg X pins H' b) ∧ R J H'
def PI (X : Cx) (tg iter : Expr) (wi : TI) : Prop :=
 ∀ (pins : List (Addr × Obj)) (s : Shared) (σ : St) (H : Hp) (R : It → Hp → Prop), Inv X pins σ H s → wi σ H R →
  wpAny (model X.prog X.w) X.A (eval iter X.env) (fun v s1 => wpAny (model X.prog X.w) X.A (pyIter v) (PIE X pins σ tg R) X.xe s1) X.xe s
theorem mE {M : Model} {A : Around} {E : Value → Shared → Prop} {s : Shared} {tg : Expr} {it : Addr} {u : Value} {o : Obj} {n : String} {vs : Array Value} {Q : Unit → Shared → Prop} (ho : s.heap.get? it = some o) (hc : o.cls = .type n) (hd : o.data = .fields vs)
    (hn : ["enumerate", "zip", "dict_itemiterator", "dict_reverseitemiterator", "odict_iterator", "itertools.zip_longest", "itertools.pairwise"].contains n = false) (hQ : Q () s) : wpAny M A (letOwnedTupleGo tg (.ref it) u) Q E s := by
  unfold letOwnedTupleGo
  cases tg <;> first
    | exact wpAny_pure hQ
    | (cases u <;> first
        | exact wpAny_pure hQ
        | (refine wpAny_bind (wpAny_load ho ?_)
           rw [hc, hd]
           show wpAny M A (if (["enumerate", "zip", "dict_itemiterator", "dict_reverseitemiterator", "odict_iterator", "itertools.zip_longest", "itertools.pairwise"].contains n && vs[0]? == some (rawInt _)) = true then _ else _) Q E s
           rw [if_neg (by intro h; rw [hn, Bool.false_and] at h; cases h)]
           exact wpAny_pure hQ))
def Itl (K : W.Frag) (a : Addr) : It :=
 ⟨fun i H => ∃ xs x, SqL K H a xs ∧ xs[i]? = some x, fun i H x H' => H' = H ∧ ∀ xs, SqL K H a xs → xs[i]? = some x, fun i H => ∃ xs, SqL K H a xs ∧ xs.length ≤ i⟩
def Itt (K : W.Frag) (a : Addr) : It :=
 ⟨fun i H => ∃ xs x, SqT K H a xs ∧ xs[i]? = some x, fun i H x H' => H' = H ∧ ∀ xs, SqT K H a xs → xs[i]? = some x, fun i H => ∃ xs, SqT K H a xs ∧ xs.length ≤ i⟩
def Itr (lo : Int) (n : Nat) : It := ⟨fun i _ => i < n, fun i H x H' => H' = H ∧ x = .int (lo + i), fun i _ => n ≤ i⟩
theorem tM {P : Program} {w : World} {K : W.Frag} {tg : Expr} (a it : Addr) : lF P w K tg (Itl K a) [it] it (fun i h => h.IsListIter it a i) where
 mem := by simp
 obj := fun i h st b hb => by
  have e : b = it := by simpa using hb
  subst e
  obtain ⟨o, e, c, d⟩ := st
  exact ⟨o, e, fun v z => by rw [d] at z; cases z⟩
 keep := fun i h h' st k => st.at fun o e => k it (by simp) o e
 item := by
  intro X hP hw hK hc i pins s σ H E I hf st hg
  subst hP hw hK
  obtain ⟨xs, x, hq, hx⟩ := hg
  obtain ⟨its, rv, p, hz⟩ := I.list hq
  obtain ⟨u, hu, ru⟩ := rv.get hx
  obtain ⟨f0, f1, f2, f3, f4, f5⟩ := hf it (by simp)
  refine wpAny_pyNext_list_item st p.isList (x := u) (by simpa using hu) fun h' st' sb => ?_
  have I1 : Inv X pins σ H { s with heap := h' } := I.turned (t' := s.toks) (fun b o hb e => (sb.2 b hb).trans e) f0 f1 f3 f4 f5
  obtain ⟨o, e, c, d⟩ := id st'
  exact ⟨u, rfl, mE (s := { s with heap := h' }) e c d (by decide) ⟨x, H, I1, ru, ⟨rfl, fun ys hy => by rw [I.list_inj hy hq]; exact hx⟩, st', fun b hb => (hf b hb).1⟩⟩
 done := by
  intro X hP hw hK hc i pins s σ H E I hf st hg
  subst hP hw hK
  obtain ⟨xs, hq, hx⟩ := hg
  obtain ⟨its, rv, p, hz⟩ := I.list hq
  obtain ⟨f0, f1, f2, f3, f4, f5⟩ := hf it (by simp)
  have hl := rv.length
  exact wpAny_pyNext_list_end (I.ok.hd hc) st p.isList (by simp; omega) fun h' eb => ⟨rfl, I.turned (t' := s.toks) (fun b o hb e => eb b o hb e) f0 f1 f3 f4 f5⟩
 self := fun _ _ _ _ _ st h => wpAny_pyIter_listiter st h
theorem rT {P : Program} {w : World} {K : W.Frag} {tg : Expr} (a it : Addr) : lF P w K tg (Itt K a) [it] it (fun i h => h.IsTupleIter it a i) where
 mem := by simp
 obj := fun i h st b hb => by
  have e : b = it := by simpa using hb
  subst e
  obtain ⟨o, e, c, d⟩ := st
  exact ⟨o, e, fun v z => by rw [d] at z; cases z⟩
 keep := fun i h h' st k => st.at fun o e => k it (by simp) o e
 item := by
  intro X hP hw hK hc i pins s σ H E I hf st hg
  subst hP hw hK
  obtain ⟨xs, x, hq, hx⟩ := hg
  obtain ⟨its, rv, p, hz⟩ := I.tuple hq
  obtain ⟨u, hu, ru⟩ := rv.get hx
  obtain ⟨f0, f1, f2, f3, f4, f5⟩ := hf it (by simp)
  refine wpAny_pyNext_tuple_item st (show s.heap.IsTuple a its.toArray from p) (x := u) (by simpa using hu) fun h' st' sb => ?_
  have I1 : Inv X pins σ H { s with heap := h' } := I.turned (t' := s.toks) (fun b o hb e => (sb.2 b hb).trans e) f0 f1 f3 f4 f5
  obtain ⟨o, e, c, d⟩ := id st'
  exact ⟨u, rfl, mE (s := { s with heap := h' }) e c d (by decide) ⟨x, H, I1, ru, ⟨rfl, fun ys hy => by rw [I.tuple_inj hy hq]; exact hx⟩, st', fun b hb => (hf b hb).1⟩⟩
 done := by
  intro X hP hw hK hc i pins s σ H E I hf st hg
  subst hP hw hK
  obtain ⟨xs, hq, hx⟩ := hg
  obtain ⟨its, rv, p, hz⟩ := I.tuple hq
  obtain ⟨f0, f1, f2, f3, f4, f5⟩ := hf it (by simp)
  have hl := rv.length
  exact wpAny_pyNext_tuple_end (I.ok.hd hc) st (show s.heap.IsTuple a its.toArray from p) (by simp; omega) fun h' eb => ⟨rfl, I.turned (t' := s.toks) (fun b o hb e => eb b o hb e) f0 f1 f3 f4 f5⟩
 self := fun _ _ _ _ _ st h => wpAny_pyIter_tupleiter st h
theorem rL {P : Program} {w : World} {K : W.Frag} {tg : Expr} (it : Addr) (lo : Int) (n : Nat) : lF P w K tg (Itr lo n) [it] it (fun i h => IsRangeIter h it (lo + (i : Nat) * 1) ((n : Int) - (i : Nat)) 1) where
 mem := by simp
 obj := fun i h st b hb => by
  have e : b = it := by simpa using hb
  subst e
  exact ⟨_, st, fun v z => by
   have z' : Data.fields _ = Data.cell v := z
   cases z'⟩
 keep := fun i h h' st k => k it (by simp) _ st
 item := by
  intro X hP hw hK hc i pins s σ H E I hf st hg
  subst hP hw hK
  obtain ⟨f0, f1, f2, f3, f4, f5⟩ := hf it (by simp)
  have W := Walks.range (prog := X.prog) (w := X.w) (I.ok.hd hc) it lo 1 n
  refine W.item i s _ _ hg st fun v h' tk hv st' kk => ?_
  obtain ⟨t, rfl⟩ := hv
  have I1 : Inv X pins σ H { s with heap := h', toks := tk } := I.turned (fun b o hb e => kk b o (by simpa using hb) e) f0 f1 f3 f4 f5
  refine ⟨_, rfl, mE (s := { s with heap := h', toks := tk }) (n := "range_iterator") st' rfl rfl (by decide) ⟨.int (lo + i), H, I1, ⟨t, ?_⟩, ⟨rfl, rfl⟩, st', fun b hb => (hf b hb).1⟩⟩
  rw [Int.mul_one]
 done := by
  intro X hP hw hK hc i pins s σ H E I hf st hg
  subst hP hw hK
  obtain ⟨f0, f1, f2, f3, f4, f5⟩ := hf it (by simp)
  exact wpAny_pyNext_range_end (I.ok.hd hc) st (by have : n ≤ i := hg; omega) fun h' eb => ⟨rfl, I.turned (t' := s.toks) (fun b o hb e => eb b o hb e) f0 f1 f3 f4 f5⟩
 self := fun _ _ _ _ _ st h => wpAny_pyIter_rangeiter st h
end L2
namespace L2
open PySem PySem.Spec PyProof.Rows
section
variable {X : Cx} {tg : Expr}
theorem vW {pins : List (Addr × Obj)} {σ : St} {H : Hp} {s : Shared} {R : It → Hp → Prop} {E : Value → Shared → Prop} {lo hi : Int} {t u v : Tok} {tk : Nat} (I : Inv X pins σ H s) (h1 : -(2 ^ 62) ≤ lo) (h2 : lo < 2 ^ 62) (h3 : -(2 ^ 62) ≤ hi) (h4 : hi < 2 ^ 62)
   (q : R (Itr lo (hi - lo).toNat) H) : wpAny (model X.prog X.w) X.A (pyIter (.ref s.heap.objs.size)) (PIE X pins σ tg R) E { s with heap := s.heap.push { cls := .type "range", data := .fields #[.int lo t, .int hi u, .int 1 v] }, toks := tk } := by
 refine wpAny_pyIter_range (IsRange.new ..) (small_one h1 h2 h3 h4) ?_
 have I1 : Inv X pins σ H { s with heap := s.heap.push { cls := .type "range", data := .fields #[.int lo t, .int hi u, .int 1 v] }, toks := tk } := I.kept fun b o e => Heap.get?_push_of_some _ e
 refine ⟨(s.heap.push { cls := .type "range", data := .fields #[.int lo t, .int hi u, .int 1 v] }).objs.size, [(s.heap.push { cls := .type "range", data := .fields #[.int lo t, .int hi u, .int 1 v] }).objs.size], _, _, H, rfl,
   I1.kept (t' := tk) fun b o e => Heap.get?_push_of_some _ e, rL _ lo (hi - lo).toNat, ?_, fun b hb => ?_, q⟩
 · have e1 : lo + ((0 : Nat) : Int) * 1 = lo := by simp
   have e2 : (((hi - lo).toNat : Nat) : Int) - ((0 : Nat) : Int) = Builtin.Range.rangeSize lo hi 1 := by rw [rangeSize_one]; split <;> omega
   show IsRangeIter _ _ (lo + ((0 : Nat) : Int) * 1) ((((hi - lo).toNat : Nat) : Int) - ((0 : Nat) : Int)) 1
   rw [e1, e2]
   exact Heap.get?_push_size _ rfl
 · have e : b = (s.heap.push { cls := .type "range", data := .fields #[.int lo t, .int hi u, .int 1 v] }).objs.size := by simpa using hb
   subst e
   exact I1.fpOk (Nat.le_refl _) (I1.hok.fresh (Nat.le_refl _))
def iE (ta : TA) : TI := fun σ H R => ta σ H fun vs H1 => ∃ j : Int, vs = [.int j] ∧ -(2 ^ 62) ≤ j ∧ j < 2 ^ 62 ∧ R (Itr 0 j.toNat) H1
theorem uV {a : Expr} {ta : TA} {p pos : Pos} (hg : Gl X "range") (hm : X.mg "range" = none) (ha : PA X [a] ta) (hs : starEach [a] X.env = [(false, eval a X.env)] := by rfl) : PI X tg (.Call (.Name "range" p) [a] [] pos) (iE ta) := by
  intro pins s σ H R I h
  refine Call_ (jW I hg hm boot_range (PyProof.Rows.callWith_type1 (thn (ha pos pins s σ H _ I h) fun us s1 ⟨vs, H1, I1, r1, q1⟩ => ?_) hs rfl))
  obtain ⟨j, e, q1, q2, q⟩ := q1
  subst e
  cases r1 with
  | cons r rr =>
    cases rr
    obtain ⟨t, rfl⟩ := r
    exact call_range_1 (vW I1 (by omega) (by omega) q1 q2 (by simpa using q))
def eU (wi : TI) (g : TG) (tb : TS) : TS := fun D σ H => wi σ H fun J H1 => ∃ W : Nat → Nat → St → Hp → Prop, (∃ m, W 0 m σ H1) ∧ ∀ i m σ H, W i m σ H →
 (J.stop i H ∧ D.nx σ H) ∨ (J.go i H ∧ ∃ N : St → Hp → Prop, (∀ σ' H', N σ' H' → ∃ m', m' < m ∧ W (i + 1) m' σ' H') ∧ ∀ x H', J.yld i H x H' → g x σ H' fun σ2 H2 => tb { D with nx := N, ct := N, bk := D.nx } σ2 H2)
def ki (fp : List Addr) (h : Heap) : List (Addr × Obj) := fp.filterMap fun b => (h.get? b).map fun o => (b, o)
theorem hV {fp : List Addr} {h : Heap} {b : Addr} {o : Obj} (hb : b ∈ fp) (e : h.get? b = some o) : (b, o) ∈ ki fp h := List.mem_filterMap.mpr ⟨b, hb, by rw [e]; rfl⟩
theorem uC {fp : List Addr} {h : Heap} {p : Addr × Obj} (hp : p ∈ ki fp h) : p.1 ∈ fp ∧ h.get? p.1 = some p.2 := by
  obtain ⟨b, hb, e⟩ := List.mem_filterMap.mp hp
  cases q : h.get? b with
  | none => rw [q] at e; cases e
  | some o =>
    rw [q] at e
    have e' : (b, o) = p := Option.some.inj e
    subst e'
    exact ⟨hb, q⟩
theorem Inv.pinned {pins : List (Addr × Obj)} {σ : St} {H : Hp} {s : Shared} {fp : List Addr} (I : Inv X pins σ H s) (hf : ∀ b ∈ fp, kg X pins H b) (ho : ∀ b ∈ fp, ∃ o, s.heap.get? b = some o ∧ ∀ v, o.data ≠ .cell v) : Inv X (pins ++ ki fp s.heap) σ H s :=
 I.pins_of fun p hp => (List.mem_append.mp hp).elim (fun z => I.pin p (List.mem_append_right _ z)) fun z => by
  obtain ⟨hb, e⟩ := uC z
  obtain ⟨f0, f1, f2, _⟩ := hf p.1 hb
  obtain ⟨o, e', d⟩ := ho p.1 hb
  rw [e] at e'; cases e'
  exact ⟨e, f0, f1, f2, d⟩
theorem Inv.unpinned {pins pl : List (Addr × Obj)} {σ : St} {H : Hp} {s : Shared} (I : Inv X (pins ++ pl) σ H s) : Inv X pins σ H s := I.pins_of fun p hp => I.pin p (List.mem_append_right _ (List.mem_append_left _ hp))
theorem uF {iter : Expr} {body : List Stmt} {wi : TI} {g : TG} {tb : TS} {pos : Pos} (hp : PassesOwn (model X.prog X.w) X.A X.env X.xe) (hc : X.calm = true) (hi : PI X tg iter wi) (hg : PG X tg g) (hb : PSs X body tb)
   (hs : ∀ x, foldedSetIterable iter X.env x = pure x := by intro _; rfl) : PS X (.For tg iter body [] pos) (eU wi g tb) := by
 intro pins s σ H D I h
 refine wpAny_For (thn (hi pins s σ H _ I h) fun v s1 h1 => thn h1 fun itv s2 h2 => ?_) hs
 obtain ⟨it, fp, tn, J, H2, e, I2, T, st2, f2, W, ⟨m0, w0⟩, turn⟩ := h2
 subst e
 have stat : ∀ {H' : Hp}, (∀ b ∈ fp, H' b = none) → ∀ b ∈ fp, kg X pins H' b := fun hn b hb => ⟨hn b hb, (f2 b hb).2⟩
 refine codeAny_forLoop_any (fun n s' => ∃ i σ' H', Inv X pins σ' H' s' ∧ tn i s'.heap ∧ (∀ b ∈ fp, H' b = none) ∧ W i n σ' H') ?_ m0 ⟨0, σ, H2, I2, st2, fun b hb => (f2 b hb).1, w0⟩
 rintro n s3 ⟨i, σ3, H3, I3, st3, fr3, w3⟩
 rcases turn i n σ3 H3 w3 with ⟨stop, qn⟩ | ⟨go, N, hN, step⟩
 · refine wpAny_passesOwn hp (thn (T.done X rfl rfl rfl hc i pins s3 σ3 H3 X.xe I3 (stat fr3) st3 stop) fun r s4 ⟨hr, I4⟩ => ?_)
   subst hr
   exact wpAny_execs_nil ⟨σ3, H3, I4, qn⟩
 · refine wpAny_passesOwn hp (thn (T.item X rfl rfl rfl hc i pins s3 σ3 H3 X.xe I3 (stat fr3) st3 go) fun r s4 ⟨u, hr, h4⟩ => ?_)
   subst hr
   refine wpAny_passesOwn hp (thn h4 fun _ s5 ⟨x, H5, I5, r5, y5, st5, fr5⟩ => ?_)
   have I5' := I5.pinned (stat fr5) (T.obj _ _ st5)
   refine wpAny_passesOwn hp (thn (hg _ s5 σ3 H5 x u _ I5' r5 (step x H5 y5)) fun _ s6 ⟨σ6, H6, I6, q6⟩ => ?_)
   refine wpAny_passesOwn hp (thn (hb _ s6 σ6 H6 _ I6 q6) fun f s7 q7 => ?_)
   have again : ∀ {σ7 : St} {H7 : Hp}, Inv X (pins ++ ki fp s5.heap) σ7 H7 s7 → N σ7 H7 → ∃ m, m < n ∧ ∃ i σ' H', Inv X pins σ' H' s7 ∧ tn i s7.heap ∧ (∀ b ∈ fp, H' b = none) ∧ W i m σ' H' := fun {σ7 H7} I7 n7 => by
    obtain ⟨m', hm, w7⟩ := hN σ7 H7 n7
    refine ⟨m', hm, i + 1, σ7, H7, I7.unpinned, T.keep _ _ _ st5 fun b hb o e => (I7.pin (b, o) (List.mem_append_right _ (List.mem_append_right _ (hV hb e)))).1, fun b hb => ?_, w7⟩
    obtain ⟨o, e, d⟩ := T.obj _ _ st5 b hb
    exact (I7.pin (b, o) (List.mem_append_right _ (List.mem_append_right _ (hV hb e)))).2.1
   cases f with
   | next => obtain ⟨σ7, H7, I7, n7⟩ := q7; exact again I7 n7
   | cont => obtain ⟨σ7, H7, I7, n7⟩ := q7; exact again I7 n7
   | brk => obtain ⟨σ7, H7, I7, q7⟩ := q7; exact ⟨σ7, H7, I7.unpinned, q7⟩
   | ret v => obtain ⟨x7, σ7, H7, I7, r7, q7⟩ := q7; exact ⟨x7, σ7, H7, I7.unpinned, r7, q7⟩
end
theorem jy {K : W.Frag} {a : Addr} {xs : List V} {g : TG} {tb : TS} {D : iv} {σ : St} {H : Hp} (Pv : Nat → St → Hp → Prop) (h0 : Pv 0 σ H) (hl : ∀ i σ H, i ≤ xs.length → Pv i σ H → SqL K H a xs)
   (hs : ∀ i x σ H, xs[i]? = some x → Pv i σ H → g x σ H fun σ2 H2 => tb { D with nx := Pv (i + 1), ct := Pv (i + 1), bk := D.nx } σ2 H2) (hd : ∀ σ H, Pv xs.length σ H → D.nx σ H) :
   ∃ W : Nat → Nat → St → Hp → Prop, (∃ m, W 0 m σ H) ∧ ∀ i m σ H, W i m σ H →
    ((Itl K a).stop i H ∧ D.nx σ H) ∨ ((Itl K a).go i H ∧ ∃ N : St → Hp → Prop, (∀ σ' H', N σ' H' → ∃ m', m' < m ∧ W (i + 1) m' σ' H') ∧ ∀ x H', (Itl K a).yld i H x H' → g x σ H' fun σ2 H2 => tb { D with nx := N, ct := N, bk := D.nx } σ2 H2) := by
 refine ⟨fun i m σ H => m = xs.length - i ∧ i ≤ xs.length ∧ Pv i σ H, ⟨xs.length, by simp, Nat.zero_le _, h0⟩, ?_⟩
 rintro i m σ H ⟨rfl, hi, p⟩
 have q := hl i σ H hi p
 by_cases hlt : i < xs.length
 · refine .inr ⟨⟨xs, xs[i], q, by simp [hlt]⟩, Pv (i + 1), fun σ' H' p' => ⟨xs.length - (i + 1), by omega, rfl, hlt, p'⟩, fun x H' y => ?_⟩
   obtain ⟨e, y⟩ := y
   subst e
   exact hs i x σ _ (y xs q) p
 · have e : i = xs.length := by omega
   subst e
   exact .inl ⟨⟨xs, q, Nat.le_refl _⟩, hd σ H p⟩
theorem zj {K : W.Frag} {a : Addr} {xs : List V} {g : TG} {tb : TS} {D : iv} {σ : St} {H : Hp} (Pv : Nat → St → Hp → Prop) (h0 : Pv 0 σ H) (hl : ∀ i σ H, i ≤ xs.length → Pv i σ H → SqT K H a xs)
   (hs : ∀ i x σ H, xs[i]? = some x → Pv i σ H → g x σ H fun σ2 H2 => tb { D with nx := Pv (i + 1), ct := Pv (i + 1), bk := D.nx } σ2 H2) (hd : ∀ σ H, Pv xs.length σ H → D.nx σ H) :
   ∃ W : Nat → Nat → St → Hp → Prop, (∃ m, W 0 m σ H) ∧ ∀ i m σ H, W i m σ H →
    ((Itt K a).stop i H ∧ D.nx σ H) ∨ ((Itt K a).go i H ∧ ∃ N : St → Hp → Prop, (∀ σ' H', N σ' H' → ∃ m', m' < m ∧ W (i + 1) m' σ' H') ∧ ∀ x H', (Itt K a).yld i H x H' → g x σ H' fun σ2 H2 => tb { D with nx := N, ct := N, bk := D.nx } σ2 H2) := by
 refine ⟨fun i m σ H => m = xs.length - i ∧ i ≤ xs.length ∧ Pv i σ H, ⟨xs.length, by simp, Nat.zero_le _, h0⟩, ?_⟩
 rintro i m σ H ⟨rfl, hi, p⟩
 have q := hl i σ H hi p
 by_cases hlt : i < xs.length
 · refine .inr ⟨⟨xs, xs[i], q, by simp [hlt]⟩, Pv (i + 1), fun σ' H' p' => ⟨xs.length - (i + 1), by omega, rfl, hlt, p'⟩, fun x H' y => ?_⟩
   obtain ⟨e, y⟩ := y
   subst e
   exact hs i x σ _ (y xs q) p
 · have e : i = xs.length := by omega
   subst e
   exact .inl ⟨⟨xs, q, Nat.le_refl _⟩, hd σ H p⟩
theorem iM {lo : Int} {n : Nat} {g : TG} {tb : TS} {D : iv} {σ : St} {H : Hp} (Pv : Nat → St → Hp → Prop) (h0 : Pv 0 σ H)
   (hs : ∀ i σ H, i < n → Pv i σ H → g (.int (lo + i)) σ H fun σ2 H2 => tb { D with nx := Pv (i + 1), ct := Pv (i + 1), bk := D.nx } σ2 H2) (hd : ∀ σ H, Pv n σ H → D.nx σ H) :
   ∃ W : Nat → Nat → St → Hp → Prop, (∃ m, W 0 m σ H) ∧ ∀ i m σ H, W i m σ H →
    ((Itr lo n).stop i H ∧ D.nx σ H) ∨ ((Itr lo n).go i H ∧ ∃ N : St → Hp → Prop, (∀ σ' H', N σ' H' → ∃ m', m' < m ∧ W (i + 1) m' σ' H') ∧ ∀ x H', (Itr lo n).yld i H x H' → g x σ H' fun σ2 H2 => tb { D with nx := N, ct := N, bk := D.nx } σ2 H2) := by
 refine ⟨fun i m σ H => m = n - i ∧ i ≤ n ∧ Pv i σ H, ⟨n, by simp, Nat.zero_le _, h0⟩, ?_⟩
 rintro i m σ H ⟨rfl, hi, p⟩
 by_cases hlt : i < n
 · refine .inr ⟨hlt, Pv (i + 1), fun σ' H' p' => ⟨n - (i + 1), by omega, rfl, hlt, p'⟩, fun x H' y => ?_⟩
   obtain ⟨e, y⟩ := y
   subst e y
   exact hs i σ _ hlt p
 · have e : i = n := by omega
   subst e
   exact .inl ⟨Nat.le_refl _, hd σ H p⟩
end L2
namespace L2
open PySem PySem.Spec PyProof.Rows
abbrev R2 := V → V → Hp → VK → Prop
def OpR (X : Cx) (f : Value → Value → Sem Value) (r : R2) : Prop :=
 ∀ (pins : List (Addr × Obj)) (s : Shared) (σ : St) (H : Hp) (x y : V) (v u : Value) (Q : VK), Inv X pins σ H s → bh x v → bh y u → r x y H Q →
  wpAny (model X.prog X.w) X.A (f v u) (EP X pins σ Q) X.xe s
def UnR (X : Cx) (f : Value → Sem Value) (r : V → Hp → VK → Prop) : Prop :=
 ∀ (pins : List (Addr × Obj)) (s : Shared) (σ : St) (H : Hp) (x : V) (v : Value) (Q : VK), Inv X pins σ H s → bh x v → r x H Q →
  wpAny (model X.prog X.w) X.A (f v) (EP X pins σ Q) X.xe s
def cm (X : Cx) (f : Value) (r : List V → Hp → VK → Prop) : Prop :=
 ∀ (pins : List (Addr × Obj)) (s : Shared) (σ : St) (H : Hp) (xs : List V) (us : List Value) (Q : VK), Inv X pins σ H s → br xs us → r xs H Q →
  wpAny (model X.prog X.w) X.A (call f us) (EP X pins σ Q) X.xe s
def Gv (X : Cx) (r : V → Hp → (Bool → Hp → Prop) → Prop) : Prop :=
 ∀ (pins : List (Addr × Obj)) (s : Shared) (σ : St) (H : Hp) (x : V) (v : Value) (Q : Bool → Hp → Prop), Inv X pins σ H s → bh x v → r x H Q →
  wpAny (model X.prog X.w) X.A (truthy v) (TP X pins σ Q) X.xe s
def tOp (r : R2) (ta tb : TE) : TE := fun σ H Q => ta σ H fun x H1 => tb σ H1 fun y H2 => r x y H2 Q
def tUn (r : V → Hp → VK → Prop) (ta : TE) : TE := fun σ H Q => ta σ H fun x H1 => r x H1 Q
def rI (C : Int → Int → Prop) (g : Int → Int → V) : R2 := fun x y H Q => ∃ i j, x = .int i ∧ y = .int j ∧ C i j ∧ Q (g i j) H
def rI0 (g : Int → Int → V) : R2 := fun x y H Q => ∃ i j, x = .int i ∧ y = .int j ∧ Q (g i j) H
def rU (g : Int → V) : V → Hp → VK → Prop := fun x H Q => ∃ i, x = .int i ∧ Q (g i) H
section
variable {X : Cx} {a b c : Expr} {ta tb tc : TE} {pos : Pos}
theorem xR (ha : PE X a ta) (hb : PE X b tb) {pins : List (Addr × Obj)} {s : Shared} {σ : St} {H : Hp} {R : V → V → Hp → Prop} (I : Inv X pins σ H s)
  (h : ta σ H fun x H1 => tb σ H1 fun y H2 => R x y H2) {Q : Value → Shared → Prop} {f : Value → Value → Sem Value}
  (hf : ∀ v u s2 x y H2, Inv X pins σ H2 s2 → bh x v → bh y u → R x y H2 → wpAny (model X.prog X.w) X.A (f v u) Q X.xe s2) :
  wpAny (model X.prog X.w) X.A (eval a X.env) (fun v s₁ => wpAny (model X.prog X.w) X.A (eval b X.env) (fun u s₂ => wpAny (model X.prog X.w) X.A (f v u) Q X.xe s₂) X.xe s₁) X.xe s := by
 refine thn (ha pins s σ H _ I h) fun v s1 ⟨x, H1, I1, r1, q1⟩ => ?_
 refine thn (hb pins s1 σ H1 _ I1 q1) fun u s2 ⟨y, H2, I2, r2, q2⟩ => ?_
 exact hf v u s2 x y H2 I2 r1 r2 q2
theorem Ee {op : Operator} {r : R2} (ho : OpR X (binaryOp op) r) (ha : PE X a ta) (hb : PE X b tb) : PE X (.BinOp a op b pos) (tOp r ta tb) := by
 intro pins s σ H Q I h
 exact wpAny_BinOp (xR ha hb I h fun v u s2 x y H2 I2 rx ry q => ho pins s2 σ H2 x y v u Q I2 rx ry q)
theorem FE {op : UnaryOp} {r : V → Hp → VK → Prop} (ho : UnR X (unaryOp op) r) (ha : PE X a ta) : PE X (.UnaryOp op a pos) (tUn r ta) := by
 intro pins s σ H Q I h
 exact UnaryOp_ (thn (ha pins s σ H _ I h) fun v s1 ⟨x, H1, I1, r1, q1⟩ => ho pins s1 σ H1 x v Q I1 r1 q1)
theorem opI {f : Value → Value → Sem Value} {C : Int → Int → Prop} {g : Int → Int → Int}
  (rule : ∀ (i j : Int) (t u : Tok) (s : Shared) (Q : Value → Shared → Prop) (E : Value → Shared → Prop), C i j → Q (.int (g i j) s.toks) { s with toks := s.toks + 1 } → wpAny (model X.prog X.w) X.A (f (.int i t) (.int j u)) Q E s) :
  OpR X f (rI C fun i j => .int (g i j)) := by
 intro pins s σ H x y v u Q I rx ry h
 obtain ⟨i, j, rfl, rfl, hc, q⟩ := h
 obtain ⟨t, rfl⟩ := rx
 obtain ⟨t', rfl⟩ := ry
 exact rule i j t t' s _ _ hc ⟨.int (g i j), H, I.tok _, ⟨_, rfl⟩, q⟩
theorem rY {f : Value → Value → Sem Value} {g : Int → Int → Int}
  (rule : ∀ (i j : Int) (t u : Tok) (s : Shared) (Q : Value → Shared → Prop) (E : Value → Shared → Prop), Q (.int (g i j) s.toks) { s with toks := s.toks + 1 } → wpAny (model X.prog X.w) X.A (f (.int i t) (.int j u)) Q E s) :
  OpR X f (rI0 fun i j => .int (g i j)) := by
 intro pins s σ H x y v u Q I rx ry h
 obtain ⟨i, j, rfl, rfl, q⟩ := h
 obtain ⟨t, rfl⟩ := rx
 obtain ⟨t', rfl⟩ := ry
 exact rule i j t t' s _ _ ⟨.int (g i j), H, I.tok _, ⟨_, rfl⟩, q⟩
theorem wW {f : Value → Value → Sem Value} {g : Int → Int → Bool}
  (rule : ∀ (i j : Int) (t u : Tok) (s : Shared) (Q : Value → Shared → Prop) (E : Value → Shared → Prop), Q (.bool (g i j)) s → wpAny (model X.prog X.w) X.A (f (.int i t) (.int j u)) Q E s) :
  OpR X f (rI0 fun i j => .bl (g i j)) := by
 intro pins s σ H x y v u Q I rx ry h
 obtain ⟨i, j, rfl, rfl, q⟩ := h
 obtain ⟨t, rfl⟩ := rx
 obtain ⟨t', rfl⟩ := ry
 exact rule i j t t' s _ _ ⟨.bl (g i j), H, I, rfl, q⟩
def Ch (i j : Int) : Prop := 0 ≤ j ∧ j ≤ 1000000 ∧ i.natAbs < 2 ^ 64
theorem sV (k : Nat) : (0 : Int) ≤ 2 ^ k := by
 rw [two_pow_cast]
 exact Int.natCast_nonneg _
theorem Cy : OpR X (binaryOp .Add) (rI0 fun i j => .int (i + j)) := rY fun _ _ _ _ _ _ _ q => add_int q
theorem Af : OpR X (binaryOp .Sub) (rI0 fun i j => .int (i - j)) := rY fun _ _ _ _ _ _ _ q => sub_int q
theorem BX : OpR X (binaryOp .Mod) (rI (fun _ j => 0 < j) fun i j => .int (i % j)) := opI fun i j _ _ _ _ _ hc q => by
 have h1 : (0 : Int) < j := hc
 exact mod_int' (by omega) (by rw [Int.fmod_eq_emod_of_nonneg i (by omega)]; exact q)
theorem BD : OpR X (binaryOp .Pow) (rI Ch fun i j => .int (i ^ j.toNat)) := opI fun _ _ _ _ _ _ _ hc q => pow_int_small hc.1 hc.2.1 hc.2.2 q
theorem Bm : OpR X (binaryOp .LShift) (rI Ch fun i j => .int (i * 2 ^ j.toNat)) := opI fun _ _ _ _ _ _ _ hc q => lshift_int_small hc.1 hc.2.1 hc.2.2 q
theorem BV : OpR X (binaryOp .RShift) (rI (fun _ j => 0 ≤ j) fun i j => .int (i / 2 ^ j.toNat)) := opI fun i j _ _ _ _ _ hc q =>
 rshift_int hc (by rw [Int.fdiv_eq_ediv_of_nonneg i (sV _)]; exact q)
theorem AE : OpR X (binaryOp .BitAnd) (rI0 fun i j => .int (Builtin.bitAnd i j)) := rY fun _ _ _ _ _ _ _ q => and_int q
theorem BY : OpR X (binaryOp .BitXor) (rI0 fun i j => .int (Builtin.bitXor i j)) := rY fun _ _ _ _ _ _ _ q => xor_int q
theorem unI {f : Value → Sem Value} {g : Int → Int}
  (rule : ∀ (i : Int) (t : Tok) (s : Shared) (Q : Value → Shared → Prop) (E : Value → Shared → Prop), Q (.int (g i) s.toks) { s with toks := s.toks + 1 } → wpAny (model X.prog X.w) X.A (f (.int i t)) Q E s) :
  UnR X f (rU fun i => .int (g i)) := by
 intro pins s σ H x v Q I rx h
 obtain ⟨i, rfl, q⟩ := h
 obtain ⟨t, rfl⟩ := rx
 exact rule i t s _ _ ⟨.int (g i), H, I.tok _, ⟨_, rfl⟩, q⟩
theorem Aa : UnR X (unaryOp .USub) (rU fun i => .int (-i)) := unI fun _ _ _ _ _ q => neg_int q
end
def Bt : V → V → Bool
 | .non, .non => true | .non, .int _ => true | .int _, .non => true | .non, .bl _ => true | .bl _, .non => true | .non, .str _ => true | .str _, .non => true
 | .int _, .int _ => true | .bl _, .bl _ => true | .str _, .str _ => true | .byt _, .byt _ => true
 | .int _, .str _ => true | .str _, .int _ => true | .bl _, .str _ => true | .str _, .bl _ => true
 | _, _ => false
def rEq : R2 := fun x y H Q => Bt x y = true ∧ Q (.bl (decide (x = y))) H
def rNe : R2 := fun x y H Q => Bt x y = true ∧ Q (.bl (!decide (x = y))) H
theorem rz {i j : Int} : decide (V.int i = V.int j) = (i == j) := by
 rw [Bool.eq_iff_iff]
 simp
theorem uE {i j : Bool} : decide (V.bl i = V.bl j) = (i == j) := by
 rw [Bool.eq_iff_iff]
 simp
theorem qR {i j : Str} : decide (V.str i = V.str j) = (i == j) := by
 rw [Bool.eq_iff_iff]
 simp
theorem qY {i j : Array UInt8} : decide (V.byt i = V.byt j) = (i.toList == j.toList) := by
 rw [Bool.eq_iff_iff]
 cases i
 cases j
 simp
section
variable {X : Cx} {a b c : Expr} {ta tb tc : TE} {pos : Pos}
theorem bz {pins : List (Addr × Obj)} {σ : St} {H : Hp} {s : Shared} {Q : VK} {k k' : Bool} (I : Inv X pins σ H s) (q : Q (.bl k) H) (e : k = k') : EP X pins σ Q (.bool k') s := by
 subst e
 exact ⟨.bl k, H, I, rfl, q⟩
theorem DH : OpR X (compareOp .Eq) rEq := by
  intro pins s σ H x y v u Q I rx ry h
  obtain ⟨hs, q⟩ := h
  cases x with
  | non =>
    cases rx
    cases y with
    | non => cases ry; exact PySem.EqNone.eq_none_none (bz I q (by simp))
    | bl j => cases ry; exact PySem.EqNone.eq_none_bool (bz I q (by simp))
    | int j => obtain ⟨t', rfl⟩ := ry; exact PySem.EqNone.eq_none_int (bz I q (by simp))
    | str j => obtain ⟨t', rfl⟩ := ry; exact PySem.EqNone.eq_none_str (bz I q (by simp))
    | _ => exact absurd (show false = true from hs) Bool.false_ne_true
  | bl i =>
    cases rx
    cases y with
    | non => cases ry; exact PySem.EqNone.eq_bool_none (bz I q (by simp))
    | bl j => cases ry; exact eq_bool (bz I q uE)
    | str j => obtain ⟨t', rfl⟩ := ry; exact PySem.EqMixed.eq_bool_str (bz I q (by simp))
    | _ => exact absurd (show false = true from hs) Bool.false_ne_true
  | int i =>
    obtain ⟨t, rfl⟩ := rx
    cases y with
    | non => cases ry; exact PySem.EqNone.eq_int_none (bz I q (by simp))
    | int j => obtain ⟨t', rfl⟩ := ry; exact eq_int (bz I q rz)
    | str j => obtain ⟨t', rfl⟩ := ry; exact PySem.EqMixed.eq_int_str (bz I q (by simp))
    | _ => exact absurd (show false = true from hs) Bool.false_ne_true
  | str i =>
    obtain ⟨t, rfl⟩ := rx
    cases y with
    | non => cases ry; exact PySem.EqNone.eq_str_none (bz I q (by simp))
    | bl j => cases ry; exact PySem.EqMixed.eq_str_bool (bz I q (by simp))
    | int j => obtain ⟨t', rfl⟩ := ry; exact PySem.EqMixed.eq_str_int (bz I q (by simp))
    | str j => obtain ⟨t', rfl⟩ := ry; exact eq_str (bz I q qR)
    | _ => exact absurd (show false = true from hs) Bool.false_ne_true
  | byt i =>
    obtain ⟨t, rfl⟩ := rx
    cases y with
    | byt j => obtain ⟨t', rfl⟩ := ry; exact W.eq_bytes (bz I q qY)
    | _ => exact absurd (show false = true from hs) Bool.false_ne_true
  | _ => cases y <;> exact absurd (show false = true from hs) Bool.false_ne_true
theorem DR : OpR X (compareOp .NotEq) rNe := by
  intro pins s σ H x y v u Q I rx ry h
  obtain ⟨hs, q⟩ := h
  cases x with
  | non =>
    cases rx
    cases y with
    | non => cases ry; exact PySem.EqNone.ne_none_none (bz I q (by simp))
    | bl j => cases ry; exact PySem.EqNone.ne_none_bool (bz I q (by simp))
    | int j => obtain ⟨t', rfl⟩ := ry; exact PySem.EqNone.ne_none_int (bz I q (by simp))
    | str j => obtain ⟨t', rfl⟩ := ry; exact PySem.EqNone.ne_none_str (bz I q (by simp))
    | _ => exact absurd (show false = true from hs) Bool.false_ne_true
  | bl i =>
    cases rx
    cases y with
    | non => cases ry; exact PySem.EqNone.ne_bool_none (bz I q (by simp))
    | bl j => cases ry; exact ne_bool (bz I q (congrArg not uE))
    | str j => obtain ⟨t', rfl⟩ := ry; exact PySem.EqMixed.ne_bool_str (bz I q (by simp))
    | _ => exact absurd (show false = true from hs) Bool.false_ne_true
  | int i =>
    obtain ⟨t, rfl⟩ := rx
    cases y with
    | non => cases ry; exact PySem.EqNone.ne_int_none (bz I q (by simp))
    | int j => obtain ⟨t', rfl⟩ := ry; exact ne_int (bz I q (congrArg not rz))
    | str j => obtain ⟨t', rfl⟩ := ry; exact PySem.EqMixed.ne_int_str (bz I q (by simp))
    | _ => exact absurd (show false = true from hs) Bool.false_ne_true
  | str i =>
    obtain ⟨t, rfl⟩ := rx
    cases y with
    | non => cases ry; exact PySem.EqNone.ne_str_none (bz I q (by simp))
    | bl j => cases ry; exact PySem.EqMixed.ne_str_bool (bz I q (by simp))
    | int j => obtain ⟨t', rfl⟩ := ry; exact PySem.EqMixed.ne_str_int (bz I q (by simp))
    | str j => obtain ⟨t', rfl⟩ := ry; exact ne_str (bz I q (congrArg not qR))
    | _ => exact absurd (show false = true from hs) Bool.false_ne_true
  | byt i =>
    obtain ⟨t, rfl⟩ := rx
    cases y with
    | byt j => obtain ⟨t', rfl⟩ := ry; exact W.ne_bytes (bz I q (congrArg not qY))
    | _ => exact absurd (show false = true from hs) Bool.false_ne_true
  | _ => cases y <;> exact absurd (show false = true from hs) Bool.false_ne_true
theorem EW : OpR X (compareOp .Lt) (rI0 fun i j => .bl (decide (i < j))) := wW fun _ _ _ _ _ _ _ q => lt_int q
theorem Dw : OpR X (compareOp .LtE) (rI0 fun i j => .bl (decide (i ≤ j))) := wW fun _ _ _ _ _ _ _ q => le_int q
theorem FC : OpR X (compareOp .Gt) (rI0 fun i j => .bl (decide (j < i))) := wW fun _ _ _ _ _ _ _ q => gt_int q
theorem vd : OpR X (compareOp .In) (fun x y H Q => ∃ i j, x = .str i ∧ y = .str j ∧ Q (.bl (!(Builtin.Str.occurrences j i 0 j.length 1).isEmpty)) H) := by
 intro pins s σ H x y v u Q I rx ry h
 obtain ⟨i, j, rfl, rfl, q⟩ := h
 obtain ⟨t, rfl⟩ := rx
 obtain ⟨t', rfl⟩ := ry
 exact in_str (bz I q rfl)
theorem Bu : OpR X (compareOp .Is) (fun x y H Q => y = .non ∧ Q (.bl (decide (x = .non))) H) := by
 intro pins s σ H x y v u Q I rx ry h
 obtain ⟨rfl, q⟩ := h
 cases ry
 refine is_none_gen (bz I q ?_)
 cases x <;> first
  | (cases rx; rfl)
  | (obtain ⟨t, rfl⟩ := rx; rfl)
theorem OpR.or {f : Value → Value → Sem Value} {r r' : R2} (h : OpR X f r) (h' : OpR X f r') : OpR X f (fun x y H Q => r x y H Q ∨ r' x y H Q) := by
 intro pins s σ H x y v u Q I rx ry q
 rcases q with q | q
 · exact h pins s σ H x y v u Q I rx ry q
 · exact h' pins s σ H x y v u Q I rx ry q
theorem mn (b : Expr) {op : CmpOp} (h : op ≠ .In := by decide) (h2 : op ≠ .NotIn := by decide) : behindInMarks op b = false := by
 have e1 : (op == CmpOp.In) = false := by cases op <;> first | rfl | exact absurd rfl h
 have e2 : (op == CmpOp.NotIn) = false := by cases op <;> first | rfl | exact absurd rfl h2
 cases b <;> simp [behindInMarks, e1, e2]
theorem zb {op : CmpOp} {r : R2} (ho : OpR X (compareOp op) r) (ha : PE X a ta) (hb : PE X b tb) (hm : behindInMarks op b = false) : PE X (.Compare a [op] [b] pos) (tOp r ta tb) := by
 intro pins s σ H Q I h
 exact wpAny_Compare1 (xR ha hb I h fun v u s2 x y H2 I2 rx ry q => ho pins s2 σ H2 x y v u Q I2 rx ry q) hm
def Dt (K : W.Frag) (x : V) (H : Hp) (k : Bool) : Prop :=
 match x with
 | .non => k = false
 | .bl b => k = b
 | .int i => k = (i != 0)
 | .str y => y.length ≤ sizeLine ∧ k = ((y.length : Int) != 0)
 | .byt y => y.size ≤ sizeLine ∧ k = ((y.size : Int) != 0)
 | .ref p => (∃ xs, SqL K H p xs ∧ k = !xs.isEmpty) ∨ (∃ xs, SqT K H p xs ∧ k = !xs.isEmpty) ∨ ∃ kvs, H p = some (.dK kvs) ∧ k = !kvs.isEmpty
 | _ => False
theorem tm {κ : Type} {kvs : List (κ × V)} {vs : List (κ × Value)} (r : KV kvs vs) : (!vs.isEmpty) = !kvs.isEmpty := by
 cases r <;> rfl
theorem mz {xs : List V} {its : List Value} (r : br xs its) : (!its.toArray.isEmpty) = !xs.isEmpty := by
 cases r <;> simp
theorem jR : (sizeLine : Nat) < 2 ^ 63 := by rw [sizeLine_eq]; decide
theorem Bg : Gv X (fun x H Q => ∃ k, Dt X.K x H k ∧ Q k H) := by
  intro pins s σ H x v Q I rx h
  obtain ⟨k, e, q⟩ := h
  have hl := jR
  have hs : sizeLine = 16777216 := sizeLine_eq
  cases x with
  | non =>
    cases rx
    have e' : k = false := e
    subst e'
    exact truthy_none ⟨H, I, q⟩
  | bl b =>
    cases rx
    have e' : k = b := e
    subst e'
    exact wpAny_truthy_bool ⟨H, I, q⟩
  | int i =>
    obtain ⟨t, rfl⟩ := rx
    have e' : k = (i != 0) := e
    subst e'
    exact PySem.P.truthy_int ⟨H, I, q⟩
  | str y =>
    obtain ⟨t, rfl⟩ := rx
    obtain ⟨hy, e'⟩ : y.length ≤ sizeLine ∧ k = ((y.length : Int) != 0) := e
    subst e'
    exact PySem.P.truthy_str (by omega) ⟨H, I.tok _, q⟩
  | byt y =>
    obtain ⟨t, rfl⟩ := rx
    obtain ⟨hy, e'⟩ : y.size ≤ sizeLine ∧ k = ((y.size : Int) != 0) := e
    subst e'
    exact W.truthy_bytes (by omega) ⟨H, I.tok _, q⟩
  | ref p =>
    cases rx
    have e' : (∃ xs, SqL X.K H p xs ∧ k = !xs.isEmpty) ∨ (∃ xs, SqT X.K H p xs ∧ k = !xs.isEmpty) ∨ ∃ kvs, H p = some (.dK kvs) ∧ k = !kvs.isEmpty := e
    rcases e' with ⟨xs, hx, e'⟩ | ⟨xs, hx, e'⟩ | ⟨kvs, hx, e'⟩
    · subst e'
      obtain ⟨its, r, pl, hz⟩ := I.list hx
      have hlen := r.length
      exact wpAny_truthy_list pl.isList (by simp only [List.size_toArray]; omega) ⟨H, I.tok _, by rw [mz r]; exact q⟩
    · subst e'
      obtain ⟨its, r, pl, hz⟩ := I.tuple hx
      have hlen := r.length
      exact truthy_tuple pl (by simp only [List.size_toArray]; omega) ⟨H, I.tok _, by rw [mz r]; exact q⟩
    · subst e'
      obtain ⟨hz, hS, vs, r, m⟩ : kvs.length ≤ sizeLine ∧ (p == sysModules) = false ∧ ∃ vs, KV kvs vs ∧ s.heap.DictOf (cA X.prog X.w) p vs := I.hok p _ hx
      have hlen : kvs.length = vs.length := Paired.length r
      exact wpAny_truthy_dict hS m (by omega) ⟨H, I.tok _, by rw [tm r]; exact q⟩
  | _ => exact (show False from e).elim
theorem sU : OpR X (binaryOp .Add) (fun x y H Q => ∃ i j, x = .str i ∧ y = .str j ∧ i.length + j.length ≤ sizeLine ∧ Q (.str (i ++ j)) H) := by
 intro pins s σ H x y v u Q I rx ry h
 obtain ⟨i, j, rfl, rfl, hz, q⟩ := h
 obtain ⟨t, rfl⟩ := rx
 obtain ⟨t', rfl⟩ := ry
 exact add_str (fun t' tk => ⟨.str (i ++ j), H, I.tok _, ⟨_, rfl⟩, q⟩) hz
theorem kL {x : V} {us : List Value} (r : br [x] us) : ∃ u, us = [u] ∧ bh x u := by
 cases r with
 | cons r1 r2 => cases r2; exact ⟨_, rfl, r1⟩
theorem oX {x y : V} {us : List Value} (r : br [x, y] us) : ∃ u w', us = [u, w'] ∧ bh x u ∧ bh y w' := by
  cases r with
  | cons r1 r2 =>
    cases r2 with
    | cons r3 r4 => cases r4; exact ⟨_, _, rfl, r1, r3⟩
theorem vi (hc : X.calm = true) : cm X (.builtin "max") (fun xs H Q => ∃ i j, xs = [.int i, .int j] ∧ Q (.int (if j > i then j else i)) H) := by
 intro pins s σ H xs us Q I r h
 obtain ⟨i, j, rfl, q⟩ := h
 obtain ⟨u, w', rfl, ⟨t, rfl⟩, ⟨t', rfl⟩⟩ := oX r
 refine max_two_ints (I.ok.hd hc) fun h' tk k => ⟨_, H, I.kept k, ?_, q⟩
 by_cases hj : j > i
 · rw [if_pos hj, if_pos hj]; exact ⟨_, rfl⟩
 · rw [if_neg hj, if_neg hj]; exact ⟨_, rfl⟩
theorem uY (hc : X.calm = true) : cm X (.builtin "min") (fun xs H Q => ∃ i j, xs = [.int i, .int j] ∧ Q (.int (if j < i then j else i)) H) := by
 intro pins s σ H xs us Q I r h
 obtain ⟨i, j, rfl, q⟩ := h
 obtain ⟨u, w', rfl, ⟨t, rfl⟩, ⟨t', rfl⟩⟩ := oX r
 refine min_two_ints (I.ok.hd hc) fun h' tk k => ⟨_, H, I.kept k, ?_, q⟩
 by_cases hj : j < i
 · rw [if_pos hj, if_pos hj]; exact ⟨_, rfl⟩
 · rw [if_neg hj, if_neg hj]; exact ⟨_, rfl⟩
theorem qj : cm X (.type "str") (fun xs H Q => ∃ i, xs = [.int i] ∧ i.natAbs.log2 < 1920 ∧ Q (.str (toString i)) H) := by
 intro pins s σ H xs us Q I r h
 obtain ⟨i, rfl, hz, q⟩ := h
 obtain ⟨u, rfl, t, rfl⟩ := kL r
 exact PySem.P.str_of_int hz ⟨.str _, H, I.tok _, ⟨_, rfl⟩, q⟩
def GJ (K : W.Frag) (x : V) (H : Hp) (n : Nat) : Prop :=
 match x with
 | .str y => y.length ≤ sizeLine ∧ n = y.length
 | .byt y => y.size ≤ sizeLine ∧ n = y.size
 | .ref p => (∃ xs, SqL K H p xs ∧ n = xs.length) ∨ ∃ xs, SqT K H p xs ∧ n = xs.length
 | _ => False
theorem lK : cm X (.builtin "len") (fun xs H Q => ∃ x n, xs = [x] ∧ GJ X.K x H n ∧ Q (.int n) H) := by
  intro pins s σ H xs us Q I r h
  obtain ⟨x, n, rfl, e, q⟩ := h
  obtain ⟨u, rfl, rx⟩ := kL r
  have hl := jR
  have hs : sizeLine = 16777216 := sizeLine_eq
  cases x with
  | str y =>
    obtain ⟨t, rfl⟩ := rx
    obtain ⟨hy, e'⟩ : y.length ≤ sizeLine ∧ n = y.length := e
    subst e'
    exact len_str (by omega) ⟨.int _, H, I.tok _, ⟨_, rfl⟩, q⟩
  | byt y =>
    obtain ⟨t, rfl⟩ := rx
    obtain ⟨hy, e'⟩ : y.size ≤ sizeLine ∧ n = y.size := e
    subst e'
    exact W.len_bytes (by omega) ⟨.int _, H, I.tok _, ⟨_, rfl⟩, q⟩
  | ref p =>
    cases rx
    have e' : (∃ xs, SqL X.K H p xs ∧ n = xs.length) ∨ ∃ xs, SqT X.K H p xs ∧ n = xs.length := e
    rcases e' with ⟨xs, hx, e'⟩ | ⟨xs, hx, e'⟩
    · subst e'
      obtain ⟨its, r', pl, hz⟩ := I.list hx
      have hlen := r'.length
      exact Calls.call_len_list pl.isList (by simp only [List.size_toArray]; omega) ⟨.int xs.length, H, I.tok _, ⟨_, by simp only [List.size_toArray]; rw [hlen]⟩, q⟩
    · subst e'
      obtain ⟨its, r', pl, hz⟩ := I.tuple hx
      have hlen := r'.length
      exact len_tuple pl (by simp only [List.size_toArray]; omega) ⟨.int xs.length, H, I.tok _, ⟨_, by simp only [List.size_toArray]; rw [hlen]⟩, q⟩
  | _ => exact (show False from e).elim
end
end L2
namespace L2
open PySem PySem.Spec PyProof.Rows
structure xV (h : Heap) (x dx C : Addr) (mA : Str → Option Value) : Prop where
 obj : h.get? x = some (W.instObj C dx)
 ns : h.Ns1 dx mA
 ne : dx ≠ x
theorem ux {h : Heap} {dx : Addr} {mA : Str → Option Value} (n : h.Ns1 dx mA) : ∃ od, h.get? dx = some od ∧ ∀ name, W.lookIn name od = some (mA name) := by
 obtain ⟨o, es, ep, ho, hd, hk, _, hm⟩ := n
 refine ⟨o, ho, fun name => ?_⟩
 have e := hm name
 unfold nsFind findBy at e
 rw [← Array.find?_toList] at e
 unfold W.lookIn
 rw [hd]
 dsimp only
 split
 · rename_i y q
   rw [q] at e
   exact congrArg some e
 · rename_i q
   rw [q] at e
   have a : es.toList.any (·.refKey) = false := by
    rw [List.any_eq_false]
    intro y hy
    obtain ⟨z, t, hkey⟩ := hk y (Array.mem_toList_iff.mp hy)
    simp [DictEntry.refKey, hkey]
   have a' : ¬ es.toList.any (·.refKey) = true := by rw [a]; exact Bool.false_ne_true
   rw [if_neg a']
   exact congrArg some e
theorem xV.look {h : Heap} {x dx C : Addr} {mA : Str → Option Value} (I : xV h x dx C mA) : ∃ od, W.InstAt h x (W.instObj C dx) C (some od) ∧ ∀ name, W.lookIn name od = some (mA name) :=
 let ⟨od, ho, hl⟩ := ux I.ns
 ⟨od, ⟨I.obj, rfl, rfl, ho⟩, hl⟩
section
variable {prog : Program} {w : World} {A : Around} {E : Value → Shared → Prop} {s : Shared} {K : W.Frag} {x dx C f : Addr} {mA : Str → Option Value} {name : Str} {v : Value}
end
theorem eO.some_of {v : V} {o : Option Value} (r : eO (some v) o) : ∃ u, o = some u ∧ bh v u := by
 cases o with
 | none => exact (show False from r).elim
 | some u => exact ⟨u, rfl, r⟩
theorem eO.none_of {o : Option Value} (r : eO none o) : o = none := by
 cases o with
 | none => rfl
 | some u => exact (show False from r).elim
section
variable {P : Program} {w : World} {H H' : Hp} {h h' : Heap} {a C dx : Addr} {fs fs' : List (Str × V)}
theorem zQ (hok : HOk P w H h) (e : H a = some (.ins C dx fs)) : ∃ mA, xV h a dx C mA ∧ (∀ f, eO (fs.lookup f) (mA f)) ∧ PySem.Within mA (fs.map (·.1)) ∧ fs.length ≤ 1000 ∧ H dx = some (.own a) := by
 obtain ⟨d, z, ne, ob, mA, n, r, q⟩ := (show bB P w H h a (.ins C dx fs) from hok a _ e)
 exact ⟨mA, ⟨ob, n, ne⟩, r, q, z, d⟩
end
structure Cls (K : W.Frag) (C : Addr) : Prop where
 pg : W.plainGet K C Str.empty = true
 hd : W.hasDictIn K C = true
 po : W.plainOver K C = true
 sa : W.findIn K (.ref C) "__setattr__" = some (some (.builtin "object.__setattr__"))
theorem Cls.get {K : W.Frag} {C : Addr} (c : Cls K C) (f : Str) : W.plainGet K C f = true := c.pg
section
variable {X : Cx} {pins : List (Addr × Obj)} {σ : St} {H : Hp} {s : Shared} {a C dx : Addr} {fs : List (Str × V)} {f : Str} {v : V} {A : Around} {E : Value → Shared → Prop}
end
section
variable {X : Cx} {o e value : Expr} {f : Str} {pos pos' tpos : Pos} {ta tv : TE}
end
section
variable {X : Cx} {pins : List (Addr × Obj)} {σ : St} {H : Hp} {s : Shared} {A : Around} {E : Value → Shared → Prop} {Q : Value → Shared → Prop} {c : Value} {b : Bool}
inductive gD (K : W.Frag) (H : Hp) : V → Value → Prop where
 | non : gD K H .non (.type "NoneType")
 | bl (x : Bool) : gD K H (.bl x) (.type "bool")
 | int (i : Int) : gD K H (.int i) (.type "int")
 | str (x : Str) : gD K H (.str x) (.type "str")
 | flt (x : UInt64) : gD K H (.flt x) (.type "float")
 | lst {a : Addr} {xs : List V} (e : H a = some (.lst xs)) : gD K H (.ref a) (.type "list")
 | frz {a : Addr} {o : Obj} {xs : List V} (e : H a = some (.frz o (.lst xs))) : gD K H (.ref a) (.type "list")
 | tup {a : Addr} {xs : List V} (e : H a = some (.tup xs)) : gD K H (.ref a) (.type "tuple")
 | dK {a : Addr} {kvs : List (Key × V)} (e : H a = some (.dK kvs)) : gD K H (.ref a) (.type "dict")
 | dT {a : Addr} {kvs : List (List Key × V)} (e : H a = some (.dT kvs)) : gD K H (.ref a) (.type "dict")
 | ins {a C dx : Addr} {fs : List (Str × V)} (e : H a = some (.ins C dx fs)) (cl : Cls K C) (ha : W.findIn K (.ref C) "__class__" = some (some (.builtin "object.__class__")))
  (hn : W.specialIn K (.builtin "object.__class__") "__get__" = some (some (.builtin "getset_descriptor.__get__"))) (htk : W.takesIn K (.builtin "object.__class__") = some true)
  (hm : W.mroIn K C (.type "object") = some true) : gD K H (.ref a) (.ref C)
theorem uR {x : V} {u t : Value} (I : Inv X pins σ H s) (rx : bh x u) (ty : gD X.K H x t) (e : W.kitOne X.K t c = some b) (h : ∀ tk, Q (.bool b) { s with toks := tk }) :
    wpAny (model X.prog X.w) A (call (.builtin "isinstance") [u, c]) Q E s := by
  cases ty with
  | non => cases (show u = Value.none from rx); exact W.kia_one W.kitx_none I.kIn True.intro e (fun z => nomatch z) h
  | bl y => cases (show u = Value.bool y from rx); exact W.kia_one W.kitx_bool I.kIn True.intro e (fun z => nomatch z) h
  | int i => obtain ⟨t, q⟩ := (show ∃ t, u = Value.int i t from rx); cases q; exact W.kia_one W.kitx_int I.kIn True.intro e (fun z => nomatch z) h
  | str y => obtain ⟨t, q⟩ := (show ∃ t, u = Value.str y t from rx); cases q; exact W.kia_one W.kitx_str I.kIn True.intro e (fun z => nomatch z) h
  | flt y => obtain ⟨t, q⟩ := (show ∃ t, u = Value.float y t from rx); cases q; exact W.kia_one W.kitx_float I.kIn True.intro e (fun z => nomatch z) h
  | @lst a xs ea =>
    cases (show u = Value.ref a from rx)
    obtain ⟨_, _, n, _, h1⟩ := (show bB X.prog X.w H s.heap a (.lst xs) from I.hok a _ ea)
    exact W.kia_one W.kitx_list I.kIn ⟨_, h1, rfl⟩ e (fun z => nomatch z) h
  | @frz a ob xs ea =>
    cases (show u = Value.ref a from rx)
    obtain ⟨_, _, _, n, _, h1⟩ := (show bB X.prog X.w H s.heap a (.frz ob (.lst xs)) from I.hok a _ ea)
    exact W.kia_one W.kitx_list I.kIn ⟨_, h1, rfl⟩ e (fun z => nomatch z) h
  | @tup a xs ea =>
    cases (show u = Value.ref a from rx)
    obtain ⟨_, _, _, p⟩ := (show bB X.prog X.w H s.heap a (.tup xs) from I.hok a _ ea)
    obtain ⟨o, h1, h2, _⟩ := p
    exact W.kia_one W.kitx_tuple I.kIn ⟨o, h1, h2⟩ e (fun z => nomatch z) h
  | @dK a kvs ea =>
    cases (show u = Value.ref a from rx)
    obtain ⟨_, _, vs, _, p⟩ := (show bB X.prog X.w H s.heap a (.dK kvs) from I.hok a _ ea)
    obtain ⟨o, es, ep, h1, h2, _⟩ := p
    exact W.kia_one W.kitx_dict I.kIn ⟨o, h1, h2.1⟩ e (fun z => nomatch z) h
  | @dT a kvs ea =>
    cases (show u = Value.ref a from rx)
    obtain ⟨_, _, xs, _, o, es, ep, h1, h2, _⟩ := (show bB X.prog X.w H s.heap a (.dT kvs) from I.hok a _ ea)
    exact W.kia_one W.kitx_dict I.kIn ⟨o, h1, h2.1⟩ e (fun z => nomatch z) h
  | @ins a C dx fs ea cl ha hn htk hm =>
    cases (show u = Value.ref a from rx)
    obtain ⟨mA, O, _⟩ := zQ I.hok ea
    obtain ⟨od, J, _⟩ := O.look
    exact W.kia_one (W.kitx_own (cl.get _) cl.hd ha hn htk hm) I.kIn J e (fun z => nomatch z) h
end
end L2
namespace L2
open PySem PySem.Spec PyProof.Rows
structure bR (k : Nat) (A : Around) : Prop where
 hd : A.handled = none
 dp : A.depth + 3 * k + 5 < recursionLimit
 un : A.units + 16 * k + 200 < cLine
theorem bR.mono {j k : Nat} {A : Around} (r : bR k A) (h : j ≤ k) : bR j A := ⟨r.hd, by have := r.dp; omega, by have := r.un; omega⟩
theorem bR.deeper {k : Nat} {A : Around} (r : bR (k + 1) A) (env : Env) : bR k (A.deeper env) :=
 ⟨r.hd, by have := r.dp; show A.depth + 1 + 3 * k + 5 < _; omega, by have := r.un; show A.units + 3 + 16 * k + 200 < _; omega⟩
theorem bR.depth {k : Nat} {A : Around} (r : bR k A) : A.depth < recursionLimit := by have := r.dp; omega
def af : TA := fun _ H Q => Q [] H
def aa (ta : TE) (tr : TA) : TA := fun σ H Q => ta σ H fun x H1 => tr σ H1 fun xs H2 => Q (x :: xs) H2
section
variable {X : Cx} {e : Expr} {es : List Expr} {te : TE} {t : TA} {pos : Pos}
theorem CL : PA X [] af := fun _ _ _ _ H Q I h => Calls.spliced_nil ⟨[], H, I, .nil, h⟩
theorem zg (ha : PE X e te) (hr : PA X es t) (hs : starEach (e :: es) X.env = (false, eval e X.env) :: starEach es X.env := by rfl) : PA X (e :: es) (aa te t) := by
 intro pos pins s σ H Q I h
 rw [hs]
 show wpAny _ _ (spliced ((false, eval e X.env) :: backTo pos (starEach es X.env))) _ _ s
 refine Calls.spliced_cons (thn (ha pins s σ H _ I h) fun u s1 ⟨x, H1, I1, r1, q1⟩ => ?_)
 exact thn (hr pos pins s1 σ H1 _ I1 q1) fun us s2 ⟨xs, H2, I2, r2, q2⟩ => ⟨x :: xs, H2, I2, .cons r1 r2, q2⟩
def bH (t : TA) : TE := fun σ H Q => t σ H fun xs H1 => xs.length ≤ sizeLine ∧ ∀ p, H1 p = none → Q (.ref p) (upd H1 p (.tup xs))
def cp (t : TA) : TE := fun σ H Q => t σ H fun xs H1 => xs.length ≤ sizeLine ∧ ∀ p, H1 p = none → Q (.ref p) (upd H1 p (.lst xs))
theorem BS {x1} (h : PA X es t) : PE X (.Tuple es x1 pos) (bH t) := by
 intro pins s σ H Q I hq
 refine wpAny_Tuple_spliced (thn (h pos pins s σ H _ I hq) fun us s1 ⟨xs, H1, I1, r, z, q⟩ => ⟨by rw [← r.length]; exact z, ?_⟩)
 have hf : H1 s1.heap.objs.size = none := I1.hok.fresh (Nat.le_refl _)
 refine ⟨.ref s1.heap.objs.size, upd H1 s1.heap.objs.size (.tup xs), I1.laid (t' := s1.toks) (fun b u e => Heap.get?_push_of_some _ e) (Nat.le_refl _) ?_, rfl, q _ hf⟩
 exact ⟨z, us, r, ⟨_, Heap.get?_push_size _ rfl, rfl, _, rfl⟩⟩
theorem BT (h : PA X es t) : PE X (.List es pos) (cp t) := by
 intro pins s σ H Q I hq
 refine wpAny_List_spliced (thn (h pos pins s σ H _ I hq) fun us s1 ⟨xs, H1, I1, r, z, q⟩ => ⟨by rw [← r.length]; exact z, ?_⟩)
 have hf : H1 s1.heap.objs.size = none := I1.hok.fresh (Nat.le_refl _)
 refine ⟨.ref s1.heap.objs.size, upd H1 s1.heap.objs.size (.lst xs), I1.laid (t' := s1.toks) (fun b u e => Heap.get?_push_of_some _ e) (Nat.le_refl _) ?_, rfl, q _ hf⟩
 exact ⟨z, us, 0, r, Heap.get?_push_size _ rfl⟩
end
abbrev Sp := List V → Hp → VK → XK → Prop
abbrev CXT := List Env → Hp → Shared → XK → Value → Shared → Prop
structure mZ (P : Program) (w : World) (K : W.Frag) (mg : Str → Option Value) (base : Heap) (A : Around) (outer : List Env) (s : Shared) (H : Hp) : Prop where
 frames : A.frames = some outer
 mod : Mod K mg base
 bs : ∀ b o, base.get? b = some o → s.heap.get? b = some o ∧ H b = none
 bsz : base.objs.size ≤ s.heap.objs.size
 funs : s.heap.FunFrames base outer
 frf : ∀ b ∈ frs outer, H b = none
 hok : HOk P w H s.heap
 bare : AllBare s.gens
def CE (outer : List Env) (P : Program) (w : World) (H : Hp) (s : Shared) (Q : VK) (u : Value) (s' : Shared) : Prop :=
 ∃ v H', s'.os = s.os ∧ AllBare s'.gens ∧ Un (frs outer) [] H H' s.heap s'.heap ∧ HOk P w H' s'.heap ∧ bh v u ∧ Q v H'
def CR (CX : CXT) (outer : List Env) (P : Program) (w : World) (H : Hp) (s : Shared) (Q : VK) (E : XK) (r : Result) (s' : Shared) : Prop :=
 match r with
 | .ok (.ret u) => CE outer P w H s Q u s'
 | .ok _ => False
 | .error e => CX outer H s E e s'
structure aZ (P : Program) (w : World) (K : W.Frag) (mg : Str → Option Value) (base : Heap) (CX : CXT) (k : Nat) (f : Addr) (fd : FuncData) (ps : List Str) (sp : Sp) : Prop where
 len : ∀ vs H Q E, sp vs H Q E → vs.length = ps.length
 run : ∀ (A : Around) (outer : List Env) (s : Shared) (H : Hp) (args : Args) (us : List Value) (vs : List V) (Q : VK) (E : XK), bR k A → mZ P w K mg base A outer s H → BindsTo s fd args (ps.zip us) → br vs us → sp vs H Q E →
  codeAny (model P w) A (.call (.ref f) args) (CR CX outer P w H s Q E) s
section
variable {X : Cx} {pins : List (Addr × Obj)} {σ : St} {H : Hp} {s s' : Shared}
theorem Inv.env0 (I : Inv X pins σ H s) : mZ X.prog X.w X.K X.mg X.base X.A X.stack s H :=
 ⟨I.ok.frames, I.ok.mod, I.bs, Nat.le_trans I.ok.bsz I.sz, I.stack, I.stkFree, I.hok, I.bare⟩
theorem Inv.after {Q : VK} {u : Value} (I : Inv X pins σ H s) (h : CE X.stack X.prog X.w H s Q u s') : EP X pins σ Q u s' := by
 obtain ⟨v, H', os, bare, un, hok, r, q⟩ := h
 obtain ⟨hh, g, d, t, os'⟩ := s'
 obtain rfl : os' = s.os := os
 exact ⟨v, H', I.call (h' := hh) (g' := g) (d' := d) (t' := t) (ch := []) un hok bare (fun b z => absurd z (by simp)), r, q⟩
end
def eG (K : W.Frag) (fd : FuncData) (ps : List Str) (ds : List Value) : Prop :=
 ∀ (s : Shared) (us : List Value), K.In s.heap → (us ++ ds).length = ps.length → BindsTo s fd ⟨us, []⟩ (ps.zip (us ++ ds))
theorem eG.all {K : W.Frag} {fd : FuncData} {ps : List Str} (h : ∀ us : List Value, us.length = ps.length → bindArgs fd ⟨us, []⟩ = pure (ps.zip us)) : eG K fd ps [] := fun s us _ hl => by
 rw [List.append_nil] at hl ⊢
 exact .of_eq (h us hl)
section
variable {X : Cx} {CX : CXT} {k : Nat} {f C : Addr} {fd : FuncData} {ps : List Str} {sp : Sp} {dvs : List V} {ds : List Value} {E : XK} {x m : Str} {p pos apos : Pos} {e o : Expr} {es : List Expr} {ta : TE} {t : TA}
end
def PK (X : Cx) (kws : List Keyword) (t : TA) : Prop :=
 ∀ (pos : Pos) (pins : List (Addr × Obj)) (s : Shared) (σ : St) (H : Hp) (Q : List V → Hp → Prop), Inv X pins σ H s → t σ H Q → wpAny (model X.prog X.w) X.A (evalAll ((backToKw pos (keywordEach kws X.env)).map (·.2))) (AP X pins σ Q) X.xe s
section
variable {X : Cx} {CX : CXT} {k : Nat} {f C : Addr} {fd : FuncData} {ps ks : List Str} {sp : Sp} {E : XK} {x m : Str} {p pos apos kpos : Pos} {e o : Expr} {es : List Expr} {kws : List Keyword} {te ta : TE} {t tk : TA} {nm : Option Str}
variable {g : List Value → List Value → List Value} {gV : List V → List V → List V}
end
structure aF (N P : List Str) (sc : Scope) : Prop where
 kind : sc.kind = .function
 co : sc.isCoroutine = false
 gen : sc.isGenerator = false
 nd : N.Nodup
 pre : N.take P.length = P
 par : ∀ x ∈ P, sc.names.lookup x = some .local ∨ sc.names.lookup x = some .cell
 nofree : ∀ y ∈ sc.names, y.2 ≠ .free
theorem nM {kindOf : Str → Option NameKind} {x : Str} : ∀ {binds : List (Str × Value)} {m : Str → Option Value}, (∀ v, (x, v) ∉ binds) → bindL kindOf binds m x = m x
  | [], _, _ => rfl
  | (n, v) :: r, m, h => by
    unfold bindL
    rw [nM fun w hw => h w (List.mem_cons_of_mem _ hw)]
    split
    · have : x ≠ n := by rintro rfl; exact h v List.mem_cons_self
      simp [this]
    · rfl
theorem nF {kindOf : Str → Option NameKind} {x : Str} : ∀ {binds : List (Str × Value)} {m : Str → Option Value}, (∀ v, (x, v) ∉ binds) → bindC kindOf binds m x = m x
  | [], _, _ => rfl
  | (n, v) :: r, m, h => by
    unfold bindC
    rw [nF fun w hw => h w (List.mem_cons_of_mem _ hw)]
    split
    · rfl
    · have : x ≠ n := by rintro rfl; exact h v List.mem_cons_self
      simp [this]
theorem nN {kindOf : Str → Option NameKind} {x : Str} {v : Value} : ∀ {P : List Str} {vs : List Value} {i : Nat} {m : Str → Option Value}, P.Nodup → P[i]? = some x → vs[i]? = some v → kindOf x = some .local →
    bindL kindOf (P.zip vs) m x = some v
  | [], _, _, _, _, h, _, _ => by simp at h
  | _ :: _, [], _, _, _, _, h, _ => by simp at h
  | p :: P, w :: vs, 0, m, nd, h1, h2, hk => by
    simp at h1 h2; subst h1; subst h2
    show bindL kindOf ((p, w) :: P.zip vs) m p = _
    unfold bindL
    rw [nM fun v hv => (List.nodup_cons.mp nd).1 (List.of_mem_zip hv).1, if_pos hk]
    simp
  | p :: P, w :: vs, i + 1, m, nd, h1, h2, hk => by
    show bindL kindOf ((p, w) :: P.zip vs) m x = _
    unfold bindL
    exact nN (i := i) (List.nodup_cons.mp nd).2 (by simpa using h1) (by simpa using h2) hk
theorem oh {kindOf : Str → Option NameKind} {x : Str} {v : Value} : ∀ {P : List Str} {vs : List Value} {i : Nat} {m : Str → Option Value}, P.Nodup → P[i]? = some x → vs[i]? = some v → kindOf x ≠ some .local →
    bindC kindOf (P.zip vs) m x = some v
  | [], _, _, _, _, h, _, _ => by simp at h
  | _ :: _, [], _, _, _, _, h, _ => by simp at h
  | p :: P, w :: vs, 0, m, nd, h1, h2, hk => by
    simp at h1 h2; subst h1; subst h2
    show bindC kindOf ((p, w) :: P.zip vs) m p = _
    unfold bindC
    rw [nF fun v hv => (List.nodup_cons.mp nd).1 (List.of_mem_zip hv).1, if_neg hk]
    simp
  | p :: P, w :: vs, i + 1, m, nd, h1, h2, hk => by
    show bindC kindOf ((p, w) :: P.zip vs) m x = _
    unfold bindC
    exact oh (i := i) (List.nodup_cons.mp nd).2 (by simpa using h1) (by simpa using h2) hk
def dk (N : List Str) (vs : List V) : St := vs.map some ++ List.replicate (N.length - vs.length) none
def gR (CX : CXT) (P : Program) (w : World) (K : W.Frag) (mg : Str → Option Value) (base : Heap) (N : List Str) (qual : Str) (scope : Scope) (f : Addr) (cd : Value) (A : Around) (outer : List Env) (s : Shared) (H : Hp) (E : XK) : Cx where
 prog := P
 w := w
 K := K
 mg := mg
 base := base
 A := A.deeper (envOfC qual scope s.heap.objs.size f cd)
 N := N
 s₀ := s
 H₀ := H
 env := envOfC qual scope s.heap.objs.size f cd
 outer := outer
 stack := envOfC qual scope s.heap.objs.size f cd :: outer
 ex := []
 calm := true
 fn := fun _ => true
 pn := []
 xe := fun e s' => wpAny (model P w) (A.deeper (envOfC qual scope s.heap.objs.size f cd)) (leaving (envOfC qual scope s.heap.objs.size f cd) e) (fun _ s'' => CX outer H s E e s'') (fun e' s'' => CX outer H s E e' s'') s'
theorem qB {sc : Scope} {n : Nat} {x : Str} (h : sc.names.lookup x = some .cell) : ∃ c, (cellsFrom n sc.names []).lookup x = some c := by
 have q := W.cellsFrom_some sc.names n [] (.inl h)
 exact Option.isSome_iff_exists.mp q
theorem nG {CX : CXT} {P : Program} {w : World} {K : W.Frag} {mg : Str → Option Value} {base : Heap} {N ps : List Str} {qual : Str} {scope : Scope} {f : Addr} {cd : Value} {A : Around} {outer : List Env} {s s1 : Shared} {H : Hp} {E : XK} {us : List Value} {vs : List V}
   (S : aF N ps scope) (hd : A.handled = none) (e0 : mZ P w K mg base A outer s H) (hl : vs.length = ps.length) (r : br vs us)
   (x : InCallC s s.heap.objs.size (bindL (envOfC qual scope s.heap.objs.size f cd).kindOf (ps.zip us) fun _ => none) (cellsFrom (s.heap.objs.size + 1) scope.names []) (bindC (envOfC qual scope s.heap.objs.size f cd).kindOf (ps.zip us) fun _ => none) s1) :
   Inv (gR CX P w K mg base N qual scope f cd A outer s H E) [] (dk N vs) H s1 := by
 have hpl : ps.length ≤ N.length := by have := congrArg List.length S.pre; rw [List.length_take] at this; omega
 obtain ⟨h1, tk, rfl, hk⟩ := x.done
 have noA : ∀ b : Addr, b ∉ (gR CX P w K mg base N qual scope f cd A outer s H E).ex := fun b z => absurd (show b ∈ ([] : List Addr) from z) (by simp)
 refine ⟨⟨e0.mod, S.kind, rfl, rfl, Nat.le_refl _, fun y z c h1 h2 => ?_, fun y hy => ?_, fun y c _ h => ?_, fun _ => hd, Around.frames_deeper e0.frames, .inr ⟨rfl, rfl⟩, fun b z => absurd z (noA b), e0.bs, e0.bsz, fun b _ _ => noA b, fun b z => absurd z (noA b), e0.funs, e0.frf⟩,
   rfl, e0.bare, Un.kept hk, ⟨_, x.toInCall.ns, fun i y v h1 h2 h3 => ?_⟩, fun y c h => ⟨_, x.cell y c h⟩, e0.hok.fresh (Nat.le_refl _), fun y c h => ?_, fun p hp => absurd (show p ∈ ([] : List (Addr × Obj)) from hp) (by simp), e0.hok.kept hk, ?_⟩
 · exact name_of_addr x.apart (PySem.mem_of_lookup h1) (PySem.mem_of_lookup h2)
 · have hy : scope.names.lookup y = some .cell ∨ scope.names.lookup y = some .free := hy
   rcases hy with hy | hy
   · exact qB hy
   · exact absurd rfl (S.nofree _ (PySem.mem_of_lookup hy))
 · exact Nat.le_of_lt (x.above y c (PySem.mem_of_lookup h))
 · have hi : i < vs.length := by
     unfold dk at h2
     by_cases hi : i < vs.length
     · exact hi
     · rw [List.getElem?_append_right (by simpa using hi)] at h2
       rw [List.getElem?_replicate] at h2
       split at h2 <;> cases h2
   have ha : vs[i]? = some v := by
     unfold dk at h2
     rw [List.getElem?_append_left (by simpa using hi), List.getElem?_map] at h2
     cases e : vs[i]? with
     | none => rw [e] at h2; cases h2
     | some a => rw [e] at h2; cases h2; rfl
   obtain ⟨u, hu, rv⟩ := r.get ha
   have hp : ps[i]? = some y := by
     rw [← S.pre, List.getElem?_take_of_lt (by omega)]; exact h1
   have ndP : ps.Nodup := by rw [← S.pre]; exact S.nd.sublist (List.take_sublist _ _)
   refine ⟨u, rv, ?_⟩
   rcases S.par y (List.mem_of_getElem? hp) with k | k
   · exact .inl ⟨k, nN ndP hp hu k⟩
   · obtain ⟨c, e⟩ := qB (n := s.heap.objs.size + 1) k
     refine .inr ⟨.inl k, c, e, ?_⟩
     have q := x.cell y c e
     rw [oh ndP hp hu (by show scope.names.lookup y ≠ _; rw [k]; decide)] at q
     exact q
 · exact e0.hok.fresh (Nat.le_of_lt (x.above y c (PySem.mem_of_lookup h)))
 · unfold dk
   show _ = N.length
   rw [List.length_append, List.length_map, List.length_replicate]
   omega
theorem EO {CX : CXT} {P : Program} {w : World} {K : W.Frag} {mg : Str → Option Value} {base : Heap} {k : Nat} {f : Addr} {name qual : Str} {params : Arguments} {body : List Stmt} {scope : Scope} {dV kV doc pm cdv ct oc : Value} {an od : Option Addr}
    {osl : Array (Option Value)} {N ps : List Str} {sp : Sp} (lk : K.lookup f = some ⟨oc, od, .func (W.fnOf name qual params body scope dV kV doc pm an cdv ct), osl⟩) (hcd : W.codeIn K cdv qual = true) (S : aF N ps scope)
    (len : ∀ vs H Q E, sp vs H Q E → vs.length = ps.length)
    (hbody : ∀ (A : Around) (outer : List Env) (s : Shared) (H : Hp) (vs : List V) (Q : VK) (E : XK), bR k (A.deeper (envOfC qual scope s.heap.objs.size f cdv)) → sp vs H Q E →
      ∃ t, PSs (gR CX P w K mg base N qual scope f cdv A outer s H E) body t ∧ t { nx := fun _ H' => Q .non H', rt := Q } (dk N vs) H) :
    aZ P w K mg base CX (k + 1) f (W.fnOf name qual params body scope dV kV doc pm an cdv ct) ps sp := by
  refine ⟨len, fun A outer s H args us vs Q E hr e0 hb r hsp => ?_⟩
  have hl := len _ _ _ _ hsp
  have KX : K.In s.heap := e0.mod.kin.keeps fun b o e => (e0.bs b o e).1
  have lim : s.heap.NoLimit := e0.mod.nolimit.keeps fun b o e => (e0.bs b o e).1
  have hkind : ∀ y ∈ ps.zip us, scope.names.lookup y.1 = some .local ∨ (scope.names.lookup y.1 = some .cell ∧ ((cellsFrom (s.heap.objs.size + 1) scope.names []).lookup y.1).isSome = true) := fun ⟨n, v⟩ hy => by
    rcases S.par n (List.of_mem_zip hy).1 with q | q
    · exact .inl q
    · exact .inr ⟨q, W.cellsFrom_some _ _ _ (.inl q)⟩
  refine codeAny_call_function hr.depth (KX _ _ lk) rfl S.co S.gen rfl (W.codeRec_of KX hcd) (hb _ _ _ _ ?_)
  refine wpAny_newFunctionEnv_cells S.kind hkind fun env he s1 x => ?_
  subst he
  refine ⟨lim.keeps x.toInCall.keep, codeAny_func ?_⟩
  obtain ⟨t, ht, hq⟩ := hbody A outer s H vs Q E (hr.deeper _) hsp
  have I : Inv (gR CX P w K mg base N qual scope f cdv A outer s H E) [] (dk N vs) H s1 := nG S hr.hd e0 hl r x
  refine wpAny_mono (ht [] s1 (dk N vs) H _ I hq) (fun fl s' hs => ?_) fun e s' hs => hs
  have fin : ∀ {σ' : St} {H' : Hp} {v : V} {u : Value}, Inv (gR CX P w K mg base N qual scope f cdv A outer s H E) [] σ' H' s' → bh v u → Q v H' → CE outer P w H s Q u s' :=
    fun {σ' H' v u} J rv q => ⟨v, H', J.os, J.bare, J.base, J.hok, rv, q⟩
  cases fl with
  | ret u =>
    obtain ⟨v, σ', H', J, rv, q⟩ := hs
    exact fin J rv q
  | next =>
    obtain ⟨σ', H', J, q⟩ := hs
    exact fin (v := V.non) (u := Value.none) J rfl q
  | brk =>
    obtain ⟨_, _, _, q⟩ := hs
    exact False.elim q
  | cont =>
    obtain ⟨_, _, _, q⟩ := hs
    exact False.elim q
end L2
namespace L2
open PySem PySem.Spec PyProof.Rows
section
variable {X : Cx} {x : Str} {p pos : Pos} {e : Expr} {es : List Expr} {t : TA} {id T : String} {r : List V → Hp → VK → Prop}
def tCB (r : List V → Hp → VK → Prop) (t : TA) : TE := fun σ H Q => t σ H fun vs H1 => r vs H1 Q
theorem xM (hc : cm X (.builtin id) r) (hg : Gl X x) (hm : X.mg x = none) (hv : bootBuiltins x = some (.builtin id)) (ha : PA X (e :: es) t) (hn : x ≠ "__name__" := by decide) (hdb : (x == ("__debug__" : Str)) = false := by decide)
  (he : starEach (e :: es) X.env = (false, eval e X.env) :: starEach es X.env := by rfl) (hpl : (backTo pos (starEach es X.env)).any (·.1) = false := by rfl) : PE X (.Call (.Name x p) (e :: es) [] pos) (tCB r t) := by
 intro pins s σ H Q I h
 refine wpAny_Call_Name_kw (jW I hg hm hv ?_ hn hdb)
 exact PyProof.Rows.callWith_builtin1 (thn (ha pos pins s σ H _ I h) fun us s1 ⟨vs, H1, I1, r1, q1⟩ => hc pins s1 σ H1 vs us Q I1 r1 q1) he hpl
theorem uh (hc : cm X (.type T) r) (hg : Gl X x) (hm : X.mg x = none) (hv : bootBuiltins x = some (.type T)) (ha : PA X (e :: es) t) (hn : x ≠ "__name__" := by decide) (hdb : (x == ("__debug__" : Str)) = false := by decide)
  (he : starEach (e :: es) X.env = (false, eval e X.env) :: starEach es X.env := by rfl) (hpl : (backTo pos (starEach es X.env)).any (·.1) = false := by rfl) : PE X (.Call (.Name x p) (e :: es) [] pos) (tCB r t) := by
 intro pins s σ H Q I h
 refine wpAny_Call_Name_kw (jW I hg hm hv ?_ hn hdb)
 exact PyProof.Rows.callWith_type1 (thn (ha pos pins s σ H _ I h) fun us s1 ⟨vs, H1, I1, r1, q1⟩ => hc pins s1 σ H1 vs us Q I1 r1 q1) he hpl
end
end L2
namespace HT
open PySem PyProof.Rows
section
open PySem.SeqAt
open PySem.AutoSeq1 (wpAny_loadPart')
open PySem.MeetsSeq PySem.MeetsSeq2 PySem.MeetsSeq3
end
section
variable {prog : Program} {w : World} {A : Around} {E : Value → Shared → Prop} {s : Shared}
theorem yX {t b : Addr} {vs ws : List Value} {Q : Value → Shared → Prop} (ht : IsTup s.heap t vs.toArray) (hb : IsTup s.heap b ws.toArray) (hv : vs ≠ [])
   (h1 : ws = [] → Q (.ref t) s) (h2 : ws ≠ [] → Q (.ref s.heap.objs.size) { s with heap := s.heap.push { cls := .type "tuple", data := .seq (vs ++ ws).toArray } })
   (hsz : vs.length + ws.length ≤ sizeLine) : wpAny (model prog w) A (binaryOp .Add (.ref t) (.ref b)) Q E s := by
 obtain ⟨⟨cls, dd, data, sl⟩, ho, hc, n, hd⟩ := id ht
 obtain ⟨⟨cls2, dd2, data2, sl2⟩, ho2, hc2, n2, hd2⟩ := id hb
 simp only at hc hd hc2 hd2
 subst hc hd hc2 hd2
 have e : vs.toArray ++ ws.toArray = (vs ++ ws).toArray := by simp
 by_cases hw : ws = []
 · exact concat_meets ⟨_, ho, rfl⟩ ⟨_, ho2, rfl⟩ noFill_tuple_add seq_tuple_add PySem.F.slot_tuple_add PySem.F.entry_tuple_add (PySem.F.args_tuple_add_2 _ _)
    (tuple_addW1 t b vs.toArray ws.toArray n n2 dd dd2 sl sl2 (by simpa using hv) (by simp [hw])) ⟨ho, ho2, h1 hw⟩
 · refine concat_meets ⟨_, ho, rfl⟩ ⟨_, ho2, rfl⟩ noFill_tuple_add seq_tuple_add PySem.F.slot_tuple_add PySem.F.entry_tuple_add (PySem.F.args_tuple_add_2 _ _)
    (tuple_addW2 t b vs.toArray ws.toArray n n2 dd dd2 sl sl2 (by simpa using hv) (by simpa using hw) (by rw [List.size_toArray, List.size_toArray]; exact hsz)) ⟨ho, ho2, ?_⟩
   rw [e]
   exact h2 hw
def sIx (n d : Nat) : Option Int → Nat
 | none => d
 | some v => if v < 0 then (v + (n : Int)).toNat else min v.toNat n
theorem pV (n d : Nat) : sIx n d none = d := rfl
theorem mT (n d k : Nat) : sIx n d (some (k : Int)) = min k n := by
 show (if (k : Int) < 0 then ((k : Int) + (n : Int)).toNat else min (k : Int).toNat n) = min k n
 rw [if_neg (by omega), Int.toNat_natCast]
theorem AX (n d : Nat) (hd : d ≤ n) (o : Option Int) : sIx n d o ≤ n := by
  cases o with
  | none => exact hd
  | some v =>
    show (if v < 0 then (v + (n : Int)).toNat else min v.toNat n) ≤ n
    by_cases hv : v < 0
    · rw [if_pos hv]; omega
    · rw [if_neg hv]; exact Nat.min_le_right _ _
theorem rh (v : Int) (n d : Nat) : (if v < 0 then max (v + (n : Int)) 0 else min v (n : Int)) = ((sIx n d (some v) : Nat) : Int) := by
 show (if v < 0 then max (v + (n : Int)) 0 else min v (n : Int)) = (((if v < 0 then (v + (n : Int)).toNat else min v.toNat n) : Nat) : Int)
 by_cases hv : v < 0
 · simp only [if_pos hv]; omega
 · simp only [if_neg hv]; omega
theorem rQ (lo hi : Option Int) (n : Nat) : Builtin.Slice.sliceAdjust lo hi 1 (n : Int) = (((sIx n 0 lo : Nat) : Int), ((sIx n n hi : Nat) : Int)) := by
 have h1 : ¬ ((1 : Int) < 0) := by omega
 unfold Builtin.Slice.sliceAdjust
 simp only [h1, if_false]
 refine Prod.ext ?_ ?_
 · cases lo with
   | none => rfl
   | some v => exact rh v n 0
 · cases hi with
   | none => rfl
   | some v => exact rh v n n
theorem rZ (i j : Nat) : Builtin.Slice.slicePlaces (i : Int) (j : Int) 1 = j - i := by
 unfold Builtin.Slice.slicePlaces
 have h1 : (1 : Int) > 0 := by omega
 simp only [h1, if_true, Int.ediv_one]
 split <;> omega
theorem mw {v : Value} {o : Option Int} {Q : Option Int → Shared → Prop} (p : IsPart v o) (h : Q o s) : wpAny (model prog w) A (Builtin.Slice.slicePartIndex v) Q E s := by
 cases p with
 | none => exact slicePart_none h
 | int i t => exact slicePart_int h
theorem io {sl : Addr} {vl vu : Value} {lo hi : Option Int} {n : Nat} {Q : Int × Int × Nat → Shared → Prop} (hs : s.heap.IsSliceOf sl vl vu .none) (pl : IsPart vl lo) (pu : IsPart vu hi)
  (h : Q (((sIx n 0 lo : Nat) : Int), 1, sIx n n hi - sIx n 0 lo) s) : wpAny (model prog w) A (Builtin.Slice.sliceApplied (.ref sl) (pure (n : Int))) Q E s := by
 obtain ⟨os, hos, hcs, hds⟩ := id hs
 unfold Builtin.Slice.sliceApplied Builtin.Slice.sliceFields
 refine wpAny_bind (wpAny_bind (wpAny_field hos hds (x := vl) rfl (wpAny_bind (wpAny_field hos hds (x := vu) rfl (wpAny_bind (wpAny_field hos hds (x := .none) rfl (wpAny_pure ?_)))))))
 refine wpAny_bind (slicePart_none ?_)
 show wpAny _ _ (if ((1 : Int) == 0) = true then _ else _) _ _ s
 rw [if_neg (by decide)]
 refine wpAny_bind (mw pl (wpAny_bind (mw pu (wpAny_bind (wpAny_pure ?_)))))
 show wpAny _ _ (match Builtin.Slice.sliceAdjust lo hi 1 (n : Int) with | (lo, hi) => pure (lo, (1 : Int), Builtin.Slice.slicePlaces lo hi 1)) _ _ s
 rw [rQ lo hi n]
 show wpAny _ _ (pure (((sIx n 0 lo : Nat) : Int), (1 : Int), Builtin.Slice.slicePlaces ((sIx n 0 lo : Nat) : Int) ((sIx n n hi : Nat) : Int) 1)) _ _ s
 rw [rZ]
 exact wpAny_pure h
theorem xq (xs : Array Value) (i k : Nat) : ((List.range k).filterMap fun (m : Nat) => xs[((i : Int) + (m : Int) * 1).toNat]?).toArray = ((xs.toList.drop i).take k).toArray := by
 have e : (fun (m : Nat) => xs[((i : Int) + (m : Int) * 1).toNat]?) = fun m => xs[i + m]? := by
  funext m
  have : ((i : Int) + (m : Int) * 1).toNat = i + m := by omega
  rw [this]
 rw [e]
 have := pick_run xs i k
 rw [List.filterMap_map] at this
 have e2 : ((fun x => xs[x]?) ∘ fun x => i + x) = fun m => xs[i + m]? := rfl
 rw [e2] at this
 rw [this]
theorem kW {t sl : Addr} {items : Array Value} {vl vu : Value} {lo hi : Option Int} {Q : Value → Shared → Prop} (ht : IsTup s.heap t items) (hs : s.heap.IsSliceOf sl vl vu .none) (pl : IsPart vl lo) (pu : IsPart vu hi)
  (hw : ¬ (sIx items.size 0 lo = 0 ∧ sIx items.size items.size hi = items.size))
  (h : Q (.ref s.heap.objs.size) { s with heap := s.heap.push { cls := .type "tuple", data := .seq ((items.toList.drop (sIx items.size 0 lo)).take (sIx items.size items.size hi - sIx items.size 0 lo)).toArray } })
  (hsz : items.size ≤ sizeLine) : wpAny (model prog w) A (getItem (.ref t) (.ref sl)) Q E s := by
 have htake : sizeOk (.seq ((items.toList.drop (sIx items.size 0 lo)).take (sIx items.size items.size hi - sIx items.size 0 lo)).toArray) := by
  show ((items.toList.drop (sIx items.size 0 lo)).take (sIx items.size items.size hi - sIx items.size 0 lo)).toArray.size ≤ sizeLine
  rw [List.size_toArray, List.length_take, List.length_drop, Array.length_toList]
  omega
 have hj : sIx items.size items.size hi ≤ items.size := AX _ _ (Nat.le_refl _) hi
 obtain ⟨os, hos, hcs, hds⟩ := id hs
 have hTs : s.TypeIs (.ref sl) "slice" := ⟨os, hos, hcs⟩
 unfold getItem
 try with_reducible refine wpAny_holding ?_
 first | refine wpAny_bind (wpAny_pure ?_) | skip
 refine wpAny_bind (wpAny_sequenceKey ht.typeIs (by decide) ?_)
 refine wpAny_bind (wpAny_callSpecial?_slot (name := Str.ofString "__getitem__") ht.typeIs PyProof.Rows.slot_tuple_getitem
  (wpAny_call_entry PyProof.Rows.slot_tuple_getitem ht.typeIs entry_tuple_getitem ?_ (args_tuple_getitem _ _)))
 show wpAny _ _ (Builtin.Tuple.tupleItemsOf (.ref t) >>= _) _ _ s
 refine wpAny_bind (tupleItemsOf_ ht ?_)
 refine wpAny_bind (wpAny_typeOf hTs ?_)
 rw [if_pos (by decide)]
 refine wpAny_bind (io hs pl pu ?_)
 have hno : ¬ ((((sIx items.size 0 lo : Nat) : Int) == 0 && (1 : Int) == 1 && (sIx items.size items.size hi - sIx items.size 0 lo) == items.size) = true) := by
  intro q
  rw [Bool.and_eq_true, Bool.and_eq_true] at q
  have q1 : ((sIx items.size 0 lo : Nat) : Int) = 0 := eq_of_beq q.1.1
  have q2 : sIx items.size items.size hi - sIx items.size 0 lo = items.size := eq_of_beq q.2
  exact hw ⟨by omega, by omega⟩
 show wpAny _ _ (if (((sIx items.size 0 lo : Nat) : Int) == 0 && (1 : Int) == 1 && (sIx items.size items.size hi - sIx items.size 0 lo) == items.size) = true then _ else _) _ _ s
 rw [if_neg hno, xq]
 first
  | exact wpAny_bind (m := Builtin.Tuple.tupleExact _) (wpAny_newObj_type (wpAny_pure ⟨_, rfl, wpAny_pure h⟩) htake)
  | exact wpAny_bind (m := Builtin.Tuple.tupleExact _) (wpAny_newObj_type (wpAny_bind (wpAny_pure (wpAny_pure ⟨_, rfl, wpAny_pure h⟩))) htake)
  | exact wpAny_bind (wpAny_bind (m := Builtin.Tuple.tupleExact _) (wpAny_newObj_type (wpAny_pure (wpAny_pure ⟨_, rfl, wpAny_pure h⟩)) htake))
  | exact wpAny_bind (wpAny_bind (m := Builtin.Tuple.tupleExact _) (wpAny_newObj_type (wpAny_pure ⟨_, rfl, wpAny_pure h⟩) htake))
end
end HT
namespace L2
open PySem PySem.Spec PyProof.Rows
abbrev TO := St → Hp → (Option Int → Hp → Prop) → Prop
def PO (X : Cx) (e : Option Expr) (t : TO) : Prop :=
 ∀ (pins : List (Addr × Obj)) (s : Shared) (σ : St) (H : Hp) (Q : Option Int → Hp → Prop), Inv X pins σ H s → t σ H Q →
  wpAny (model X.prog X.w) X.A (evalPart e X.env) (fun u s' => ∃ o H', Inv X pins σ H' s' ∧ IsPart u o ∧ Q o H') X.xe s
def ij : TO := fun _ H Q => Q none H
def gN (t : TE) : TO := fun σ H Q => t σ H fun x H1 => ∃ i, x = .int i ∧ Q (some i) H1
section
variable {X : Cx} {e : Expr} {te : TE} {lo hi : Option Expr} {tl th : TO} {pos p2 : Pos}
theorem zp : PO X none ij := by
 intro pins s σ H Q I h
 rw [evalPart_none]
 exact wpAny_pure ⟨none, H, I, .none, h⟩
theorem zJ (h : PE X e te) : PO X (some e) (gN te) := by
 intro pins s σ H Q I hw
 rw [evalPart_some]
 refine thn (h pins s σ H _ I hw) fun u s1 ⟨x, H1, I1, r1, q1⟩ => ?_
 obtain ⟨i, rfl, q⟩ := q1
 obtain ⟨t, rfl⟩ := r1
 exact ⟨some i, H1, I1, .int i t, q⟩
def SlR (X : Cx) (r : V → Option Int → Option Int → Hp → VK → Prop) : Prop :=
 ∀ (pins : List (Addr × Obj)) (s : Shared) (σ : St) (H : Hp) (x : V) (v vl vu : Value) (lo hi : Option Int) (sl : Addr) (Q : VK), Inv X pins σ H s → bh x v → s.heap.IsSliceOf sl vl vu .none → IsPart vl lo → IsPart vu hi → r x lo hi H Q →
  ∃ T id, typeLookup (.type T) "__getitem__" = pure (some (.builtin id)) ∧ s.TypeIs v T ∧ wpAny (model X.prog X.w) X.A (getItem v (.ref sl)) (EP X pins σ Q) X.xe s
theorem SlR.or {r r' : V → Option Int → Option Int → Hp → VK → Prop} (h : SlR X r) (h' : SlR X r') : SlR X (fun x lo hi H Q => r x lo hi H Q ∨ r' x lo hi H Q) := by
 intro pins s σ H x v vl vu lo hi sl Q I rx hs pl pu q
 rcases q with q | q
 · exact h pins s σ H x v vl vu lo hi sl Q I rx hs pl pu q
 · exact h' pins s σ H x v vl vu lo hi sl Q I rx hs pl pu q
def tSl (r : V → Option Int → Option Int → Hp → VK → Prop) (te : TE) (tl th : TO) : TE := fun σ H Q => te σ H fun x H1 => tl σ H1 fun l H2 => th σ H2 fun u H3 => r x l u H3 Q
theorem vD {r : V → Option Int → Option Int → Hp → VK → Prop} (hr : SlR X r) (he : PE X e te) (hl : PO X lo tl) (hu : PO X hi th) : PE X (.Subscript e (.Slice lo hi none p2) pos) (tSl r te tl th) := by
 intro pins s σ H Q I h
 refine Subscript_ (thn (he pins s σ H _ I h) fun v s1 ⟨x, H1, I1, r1, q1⟩ => ?_)
 refine wpAny_Slice (thn (hl pins s1 σ H1 _ I1 q1) fun vl s2 ⟨l, H2, I2, pl, q2⟩ => thn (hu pins s2 σ H2 _ I2 q2) fun vu s3 ⟨u, H3, I3, pu, q3⟩ => ?_)
 rw [evalPart_none]
 refine wpAny_pure ?_
 have I4 : Inv X pins σ H3 { s3 with heap := s3.heap.push { cls := .type "slice", data := .fields #[vl, vu, .none] } } := I3.kept (t' := s3.toks) fun b ob q => Heap.get?_push_of_some _ q
 obtain ⟨T, id, hT, ht, hg⟩ := hr pins { s3 with heap := s3.heap.push { cls := .type "slice", data := .fields #[vl, vu, .none] } } σ H3 x v vl vu l u s3.heap.objs.size Q I4 r1 (Heap.IsSliceOf.new ..) pl pu q3
 show wpAny (model X.prog X.w) X.A (subscriptTail e (.Slice lo hi none p2) v (.ref s3.heap.objs.size)) (EP X pins σ Q) X.xe { s3 with heap := s3.heap.push { cls := .type "slice", data := .fields #[vl, vu, .none] } }
 exact tail_any (ops := [.ref s3.heap.objs.size, v]) ht hT hg (by with_unfolding_all rfl)
def fA (xs : List V) (lo hi : Option Int) : List V := (xs.drop (HT.sIx xs.length 0 lo)).take (HT.sIx xs.length xs.length hi - HT.sIx xs.length 0 lo)
theorem kY (xs : List V) (lo hi : Option Int) : (fA xs lo hi).length ≤ xs.length := by
 unfold fA
 rw [List.length_take, List.length_drop]
 omega
def Ij (K : W.Frag) : V → Option Int → Option Int → Hp → VK → Prop := fun x lo hi H Q => ∃ a xs, x = .ref a ∧ SqT K H a xs ∧
 ¬ (HT.sIx xs.length 0 lo = 0 ∧ HT.sIx xs.length xs.length hi = xs.length) ∧ ∀ p, H p = none → Q (.ref p) (upd H p (.tup (fA xs lo hi)))
theorem BW : SlR X (Ij X.K) := by
 intro pins s σ H x v vl vu lo hi sl Q I rx hs pl pu h
 obtain ⟨a, xs, rfl, hx, hw, q⟩ := h
 cases rx
 obtain ⟨its, r, ht, hz⟩ := I.tuple hx
 have hlen : its.toArray.size = xs.length := by rw [List.size_toArray]; exact r.length.symm
 refine ⟨"tuple", _, PyProof.Rows.slot_tuple_getitem.lookup, ht.typeIs, ?_⟩
 refine HT.kW ht hs pl pu (by rw [hlen]; exact hw) ?_ (by rw [hlen]; exact hz)
 rw [hlen]
 refine ⟨.ref s.heap.objs.size, _, I.laid (t' := s.toks) (o := .tup (fA xs lo hi)) (fun b ob q => Heap.get?_push_of_some _ q) (Nat.le_refl _) ?_, rfl, q _ (I.hok.fresh (Nat.le_refl _))⟩
 exact ⟨Nat.le_trans (kY xs lo hi) hz, _, (r.drop (HT.sIx xs.length 0 lo)).take (HT.sIx xs.length xs.length hi - HT.sIx xs.length 0 lo), IsTup.new _ _⟩
def EH (K : W.Frag) : R2 := fun x y H Q => ∃ a b xs ys, x = .ref a ∧ y = .ref b ∧ SqT K H a xs ∧ SqT K H b ys ∧ xs ≠ [] ∧ xs.length + ys.length ≤ sizeLine ∧
 (ys = [] → Q (.ref a) H) ∧ (ys ≠ [] → ∀ p, H p = none → Q (.ref p) (upd H p (.tup (xs ++ ys))))
theorem br.nil_iff {xs : List V} {us : List Value} (r : br xs us) : us = [] ↔ xs = [] := by
 cases r with
 | nil => simp
 | cons _ _ => simp
theorem zm : OpR X (binaryOp .Add) (EH X.K) := by
 intro pins s σ H x y v u Q I rx ry h
 obtain ⟨a, b, xs, ys, rfl, rfl, ha, hb, hx, hz, q1, q2⟩ := h
 cases rx
 cases ry
 obtain ⟨its, r1, p1, _⟩ := I.tuple ha
 obtain ⟨its2, r2, p2, _⟩ := I.tuple hb
 refine HT.yX p1 p2 (fun z => hx (r1.nil_iff.mp z)) (fun z => ⟨.ref a, H, I, rfl, q1 (r2.nil_iff.mp z)⟩) (fun z => ?_) (by rw [← r1.length, ← r2.length]; exact hz)
 refine ⟨.ref s.heap.objs.size, _, I.laid (t' := s.toks) (o := .tup (xs ++ ys)) (fun b ob q => Heap.get?_push_of_some _ q) (Nat.le_refl _) ?_, rfl, q2 (fun w => z (r2.nil_iff.mpr w)) _ (I.hok.fresh (Nat.le_refl _))⟩
 exact ⟨by rw [List.length_append]; exact hz, _, r1.append r2, IsTup.new _ _⟩
end
end L2
namespace L2
open PySem PySem.Spec PyProof.Rows
def ixN (n : Nat) (i : Int) : Option Nat := if 0 ≤ i then (if i < n then some i.toNat else none) else if -(n : Int) ≤ i then some (i + n).toNat else none
def atI {α : Type} (xs : List α) (i : Int) : Option α := (ixN xs.length i).bind fun j => xs[j]?
theorem za {n : Nat} {i : Int} {j : Nat} (h : ixN n i = some j) : seqIndex? i n = some j ∧ j < n ∧ -(n : Int) ≤ i ∧ i < n := by
 unfold ixN at h
 by_cases h0 : 0 ≤ i
 · rw [if_pos h0] at h
   by_cases h1 : i < n
   · rw [if_pos h1] at h
     have e : i.toNat = j := Option.some.inj h
     exact ⟨by rw [seqIndex_of h0 h1, e], by omega, by omega, h1⟩
   · rw [if_neg h1] at h; cases h
 · rw [if_neg h0] at h
   by_cases h1 : -(n : Int) ≤ i
   · rw [if_pos h1] at h
     have e : (i + n).toNat = j := Option.some.inj h
     exact ⟨by rw [seqIndex_neg (by omega) h1, e], by omega, h1, by omega⟩
   · rw [if_neg h1] at h; cases h
theorem iY {α : Type} {xs : List α} {i : Int} {v : α} (h : atI xs i = some v) : ∃ j, seqIndex? i xs.length = some j ∧ xs[j]? = some v ∧ j < xs.length ∧ -(xs.length : Int) ≤ i ∧ i < xs.length := by
  unfold atI at h
  cases e : ixN xs.length i with
  | none => rw [e] at h; cases h
  | some j =>
    rw [e] at h
    obtain ⟨h1, h2, h3, h4⟩ := za e
    exact ⟨j, h1, h, h2, h3, h4⟩
theorem wT {α : Type} (xs : List α) (v : α) : atI (xs ++ [v]) (-1) = some v := by
 have hl : (xs ++ [v]).length = xs.length + 1 := by simp
 have e : ixN (xs ++ [v]).length (-1) = some xs.length := by
  unfold ixN
  rw [hl, if_neg (by decide), if_pos (by omega)]
  congr 1
  omega
 unfold atI
 rw [e]
 show (xs ++ [v])[xs.length]? = some v
 simp
def qT (b : Expr) : Prop := ∀ o i, subscripted b false o i = operate [o, i] (getItem o i)
def IxR (X : Cx) (r : R2) : Prop :=
 ∀ (value slice : Expr) (pins : List (Addr × Obj)) (s : Shared) (σ : St) (H : Hp) (x y : V) (v u : Value) (Q : VK), Inv X pins σ H s → bh x v → bh y u → r x y H Q →
  subscripted slice false v u = operate [v, u] (getItem v u) → wpAny (model X.prog X.w) X.A (subscriptTail value slice v u) (EP X pins σ Q) X.xe s
def MtR (X : Cx) (id : String) (r : V → List V → Hp → VK → Prop) : Prop :=
 ∀ (pins : List (Addr × Obj)) (s : Shared) (σ : St) (H : Hp) (x : V) (xs : List V) (v : Value) (us : List Value) (Q : VK), Inv X pins σ H s → bh x v → br xs us → r x xs H Q →
  wpAny (model X.prog X.w) X.A (call (.builtin id) (v :: us)) (EP X pins σ Q) X.xe s
section
variable {X : Cx} {a b : Expr} {ta tb : TE} {pos : Pos}
theorem IxR.or {r r' : R2} (h : IxR X r) (h' : IxR X r') : IxR X (fun x y H Q => r x y H Q ∨ r' x y H Q) := by
 intro value slice pins s σ H x y v u Q I rx ry q hs
 rcases q with q | q
 · exact h value slice pins s σ H x y v u Q I rx ry q hs
 · exact h' value slice pins s σ H x y v u Q I rx ry q hs
theorem FQ {r : R2} (hr : IxR X r) (ha : PE X a ta) (hb : PE X b tb) (hs : qT b) : PE X (.Subscript a b pos) (tOp r ta tb) := by
 intro pins s σ H Q I h
 exact Subscript_ (xR ha hb I h fun v u s2 x y H2 I2 rx ry q => hr a b pins s2 σ H2 x y v u Q I2 rx ry q (hs _ _))
def CS (K : W.Frag) : R2 := fun x y H Q => ∃ p xs i v, x = .ref p ∧ y = .int i ∧ SqL K H p xs ∧ atI xs i = some v ∧ Q v H
def Cj (K : W.Frag) : R2 := fun x y H Q => ∃ p xs i v, x = .ref p ∧ y = .int i ∧ SqT K H p xs ∧ atI xs i = some v ∧ Q v H
def BH : R2 := fun x y H Q => ∃ z i c, x = .str z ∧ y = .int i ∧ z.length ≤ sizeLine ∧ atI z.cps.toList i = some c ∧ Q (.str ⟨#[c]⟩) H
theorem zu : IxR X (CS X.K) := by
 intro value slice pins s σ H x y v u Q I rx ry h hs
 obtain ⟨p, xs, i, z, rfl, rfl, hq, he, q⟩ := h
 cases rx
 obtain ⟨t, rfl⟩ := ry
 obtain ⟨its, r, pl, hz⟩ := I.list hq
 obtain ⟨j, h1, h2, h3, h4, h5⟩ := iY he
 obtain ⟨w, ew, rw'⟩ := r.get h2
 have hl := r.length
 have hn := jR
 have fin : EP X pins σ Q w s := ⟨z, H, I, rw', q⟩
 by_cases h0 : 0 ≤ i
 · have hj : i.toNat = j := by
    rw [seqIndex_of h0 h5] at h1
    exact Option.some.inj h1
   exact item_listR pl.isList h0 (by omega) (by rw [hj]; simpa using ew) fin hs
 · have hj : (i + (its.toArray.size : Int)).toNat = j := by
    rw [seqIndex_neg (by omega) h4] at h1
    rw [List.size_toArray, ← hl]
    exact Option.some.inj h1
   exact subscriptTail_builtinR (x := w) pl.isList.typeIs slot_list_getitem.lookup
    (wpAny_getItem_list_neg (Q := fun r s' => r = w ∧ EP X pins σ Q r s') pl.isList (by omega) (by rw [List.size_toArray] <;> omega) (by omega) (by rw [hj]; simpa using ew) ⟨rfl, fin⟩) hs
theorem Dl : IxR X (Cj X.K) := by
 intro value slice pins s σ H x y v u Q I rx ry h hs
 obtain ⟨p, xs, i, z, rfl, rfl, hq, he, q⟩ := h
 cases rx
 obtain ⟨t, rfl⟩ := ry
 obtain ⟨its, r, pl, hz⟩ := I.tuple hq
 obtain ⟨j, h1, h2, h3, h4, h5⟩ := iY he
 obtain ⟨w, ew, rw'⟩ := r.get h2
 have hl := r.length
 have hn := jR
 have fin : EP X pins σ Q w s := ⟨z, H, I, rw', q⟩
 exact subscriptTail_builtinR (x := w) pl.typeIs slot_tuple_getitem.lookup
  (getItem_tuple (j := j) (Q := fun r s' => r = w ∧ EP X pins σ Q r s') pl (by omega) (by omega) (by rw [List.size_toArray, ← hl]; exact h1) (by simpa using ew) ⟨rfl, fin⟩) hs
theorem Ax : IxR X BH := by
 intro value slice pins s σ H x y v u Q I rx ry h hs
 obtain ⟨z, i, c, rfl, rfl, hz, he, q⟩ := h
 obtain ⟨t, rfl⟩ := rx
 obtain ⟨t', rfl⟩ := ry
 obtain ⟨j, h1, h2, h3, h4, h5⟩ := iY he
 have hl : z.cps.toList.length = z.length := by simp [Str.length]
 rw [hl] at h1 h4 h5
 have hn := jR
 exact tail_any (typeIs_str s z t) slot_str_getitem.lookup (getItem_str (c := c) (by
  have e1 : decide (i < -(2 ^ 63 : Int)) = false := decide_eq_false (by omega)
  have e2 : decide (i ≥ 2 ^ 63) = false := decide_eq_false (by omega)
  rw [e1, e2, Bool.or_false]) (by rw [h1]; simpa using h2) ⟨.str ⟨#[c]⟩, H, I.tok _, ⟨_, rfl⟩, q⟩) hs
def rIx (K : W.Frag) : R2 := fun x y H Q => CS K x y H Q ∨ Cj K x y H Q ∨ BH x y H Q
theorem AH : IxR X (rIx X.K) := zu.or (Dl.or Ax)
theorem pO (lo hi : Option Int) (n : Nat) : (sliceBounds lo hi none n).1 = ((HT.sIx n 0 lo : Nat) : Int) ∧ (sliceBounds lo hi none n).2.1 = ((HT.sIx n n hi : Nat) : Int) ∧ (sliceBounds lo hi none n).2.2 = 1 := by
  refine ⟨?_, ?_, rfl⟩
  · cases lo with
    | none => simp [sliceBounds, HT.sIx]
    | some i =>
      simp only [sliceBounds, HT.sIx, Option.getD_none, show (1 : Int) > 0 by decide, if_true]
      by_cases h : i < 0
      · simp only [h, if_true] <;> omega
      · simp only [h, if_false] <;> omega
  · cases hi with
    | none => simp [sliceBounds, HT.sIx]
    | some i =>
      simp only [sliceBounds, HT.sIx, Option.getD_none, show (1 : Int) > 0 by decide, if_true]
      by_cases h : i < 0
      · simp only [h, if_true] <;> omega
      · simp only [h, if_false] <;> omega
theorem om (its : List Value) (lo hi : Option Int) : slicePick its.toArray lo hi none = ((its.drop (HT.sIx its.length 0 lo)).take (HT.sIx its.length its.length hi - HT.sIx its.length 0 lo)).toArray := by
 obtain ⟨h1, h2, h3⟩ := pO lo hi its.toArray.size
 unfold slicePick
 rw [h1, h2, h3]
 simp only [sliceRange_one, pick_run, List.size_toArray] <;> rfl
def Bn (K : W.Frag) : V → Option Int → Option Int → Hp → VK → Prop := fun x lo hi H Q => ∃ a xs, x = .ref a ∧ SqL K H a xs ∧ ∀ p, H p = none → Q (.ref p) (upd H p (.lst (fA xs lo hi)))
theorem zx : SlR X (Bn X.K) := by
 intro pins s σ H x v vl vu lo hi sl Q I rx hs pl pu h
 obtain ⟨a, xs, rfl, hx, q⟩ := h
 cases rx
 obtain ⟨its, r, ht, hz⟩ := I.list hx
 have hlen := r.length
 refine ⟨"list", _, slot_list_getitem.lookup, ht.isList.typeIs, ?_⟩
 refine wpAny_getItem_list_slice ht.isList hs pl pu .none (by simp) ?_ (by rw [List.size_toArray] <;> omega)
 rw [om, ← hlen]
 refine ⟨.ref s.heap.objs.size, _, I.laid (t' := s.toks) (o := .lst (fA xs lo hi)) (fun b ob q => Heap.get?_push_of_some _ q) (Nat.le_refl _) ?_, rfl, q _ (I.hok.fresh (Nat.le_refl _))⟩
 exact ⟨Nat.le_trans (kY xs lo hi) hz, _, 0, (r.drop (HT.sIx xs.length 0 lo)).take (HT.sIx xs.length xs.length hi - HT.sIx xs.length 0 lo), Heap.get?_push_size _ rfl⟩
theorem cm.or {f : Value} {r r' : List V → Hp → VK → Prop} (h : cm X f r) (h' : cm X f r') : cm X f (fun xs H Q => r xs H Q ∨ r' xs H Q) := by
 intro pins s σ H xs us Q I rs q
 rcases q with q | q
 · exact h pins s σ H xs us Q I rs q
 · exact h' pins s σ H xs us Q I rs q
theorem oq : cm X (.type "tuple") (fun xs H Q => ∃ p ys, xs = [.ref p] ∧ ((SqL X.K H p ys ∧ ∀ l, H l = none → Q (.ref l) (upd H l (.tup ys))) ∨ (SqT X.K H p ys ∧ Q (.ref p) H))) := by
 intro pins s σ H xs us Q I r h
 obtain ⟨p, ys, rfl, h⟩ := h
 obtain ⟨u, rfl, rx⟩ := kL r
 cases rx
 rcases h with ⟨hq, q⟩ | ⟨hq, q⟩
 · obtain ⟨its, r', pl, hz⟩ := I.list hq
   have hlen := r'.length
   refine call_tuple_list pl.isList (fun h' kp => ?_) (by simp only [List.size_toArray] <;> omega)
   have I1 : Inv X pins σ H { s with heap := h' } := I.kept (t' := s.toks) kp
   have I2 : Inv X pins σ (upd H h'.objs.size (.tup ys)) { s with heap := h'.push { cls := .type "tuple", data := .seq its.toArray } } :=
    I1.laid (t' := s.toks) (fun b o e => Heap.get?_push_of_some _ e) (Nat.le_refl _) (show bB X.prog X.w _ _ _ (.tup ys) from ⟨hz, its, r', IsTup.new _ _⟩)
   exact ⟨.ref h'.objs.size, _, I2, rfl, q _ (I1.hok.fresh (Nat.le_refl _))⟩
 · obtain ⟨its, r', pl, hz⟩ := I.tuple hq
   exact call_tuple_same pl ⟨.ref p, H, I, rfl, q⟩
def tyV (K : W.Frag) (T : String) (x : V) (H : Hp) : Prop := match x with
 | .str _ => T = "str"
 | .int _ => T = "int"
 | .ref p => (T = "list" ∧ ∃ xs, SqL K H p xs) ∨ (T = "tuple" ∧ ∃ o, K.lookup p = some o ∧ o.cls = .type "tuple" ∧ o.dict = none) ∨
  (T = "dict" ∧ ((∃ kvs, H p = some (.dK kvs)) ∨ ∃ kvs, H p = some (.dT kvs))) ∨ (T = "set" ∧ ∃ S n, H p = some (.set S n))
 | _ => False
theorem CZ {pins : List (Addr × Obj)} {σ : St} {H : Hp} {s : Shared} {T : String} {x : V} {v : Value} (I : Inv X pins σ H s) (r : bh x v) (ty : tyV X.K T x H) :
    s.TypeIs v T ∧ ∀ a, v = .ref a → ∃ ob, s.heap.get? a = some ob ∧ ob.dict = none := by
  cases x with
  | str z =>
    obtain ⟨t, rfl⟩ := r
    cases (show T = "str" from ty)
    exact ⟨typeIs_str s z t, fun _ e => nomatch e⟩
  | int i =>
    obtain ⟨t, rfl⟩ := r
    cases (show T = "int" from ty)
    exact ⟨typeIs_int s i t, fun _ e => nomatch e⟩
  | ref p =>
    cases r
    rcases ty with ⟨rfl, xs, hq⟩ | ⟨rfl, o, hk, hc, hd⟩ | ⟨rfl, hk⟩ | ⟨rfl, S, n, hk⟩
    · obtain ⟨its, _, pl, _⟩ := I.list hq
      refine ⟨pl.isList.typeIs, fun a e => ?_⟩
      cases e
      obtain ⟨o, n, e, c, hd, _⟩ := pl
      exact ⟨o, e, hd⟩
    · refine ⟨⟨o, I.kIn p o hk, hc⟩, fun a e => ?_⟩
      cases e
      exact ⟨o, I.kIn _ o hk, hd⟩
    · have z : ∃ o, s.heap.get? p = some o ∧ o.ExactDict := by
        rcases hk with ⟨kvs, hk⟩ | ⟨kvs, hk⟩
        · obtain ⟨_, _, _, _, o, _, _, e, ex, _⟩ := I.hok p _ hk
          exact ⟨o, e, ex⟩
        · obtain ⟨_, _, _, _, o, _, _, e, ex, _⟩ := I.hok p _ hk
          exact ⟨o, e, ex⟩
      obtain ⟨o, e, ex⟩ := z
      refine ⟨⟨o, e, ex.1⟩, fun a e2 => ?_⟩
      cases e2
      exact ⟨o, e, ex.2.1⟩
    · obtain ⟨o, _, _, _, e, ex, _⟩ := I.hok p _ hk
      refine ⟨⟨o, e, ex.1⟩, fun a e2 => ?_⟩
      cases e2
      exact ⟨o, e, ex.2.1⟩
  | _ => exact False.elim ty
def tBM (K : W.Frag) (T : String) (r : V → List V → Hp → VK → Prop) (to : TE) (t : TA) : TE := fun σ H Q => to σ H fun x H1 => tyV K T x H1 ∧ t σ H1 fun xs H2 => r x xs H2 Q
variable {o e : Expr} {es : List Expr} {to : TE} {t : TA} {name : Str} {apos cpos : Pos} {T id : String} {r : V → List V → Hp → VK → Prop}
theorem Gj (pa : PlainAttrs T) (slot : Slot T name id) (hty : typeOf (.builtin id) = pure (.type "method_descriptor")) (hm : MtR X id r) (ho : PE X o to) (ha : PA X (e :: es) t)
  (hbase : attributeBase o name X.env (eval o X.env) = eval o X.env := by rfl)
  (hfew : ((backTo cpos (starEach (e :: es) X.env)).all (fun x => !x.1) && (backToKw cpos (keywordEach [] X.env)).all (fun x => x.1.isSome)
   && decide ((e :: es).length + ([] : List Keyword).length + (if ([] : List Keyword).isEmpty then 0 else 1) < 30)) = true := by rfl)
  (hline : (apos.endLine == cpos.line) = true := by rfl) (hs : starEach (e :: es) X.env = (false, eval e X.env) :: starEach es X.env := by rfl) (hplain : (backTo cpos (starEach es X.env)).any (·.1) = false := by rfl) :
  PE X (.Call (.Attribute o name apos) (e :: es) [] cpos) (tBM X.K T r to t) := by
 intro pins s σ H Q I h
 refine wpAny_Call_method_late hbase hfew hline rfl (thn (ho pins s σ H _ I h) fun v s1 ⟨x, H1, I1, r1, ty, q1⟩ => ?_)
 obtain ⟨h1, h2⟩ := CZ I1 r1 ty
 refine ⟨T, id, pa, slot, hty, h1, h2, ?_⟩
 have hA := ha cpos pins s1 σ H1 _ I1 q1
 rw [hs] at hA ⊢
 refine Calls.callWith_builtin (by show (false || (backTo cpos (starEach es X.env)).any (·.1)) = false; rw [hplain] <;> rfl) (Calls.evalArgs_plain ?_)
 exact thn hA fun us s2 ⟨vs, H2, I2, r2, q2⟩ => hm pins s2 σ H2 x vs v us Q I2 r1 r2 q2
end
end L2
namespace L2
open PySem PySem.Spec PyProof.Rows
def MtM (X : Cx) (id : String) (r : V → List V → Hp → VK → Prop) : Prop :=
 ∀ (pins : List (Addr × Obj)) (s : Shared) (σ : St) (H : Hp) (x : V) (xs : List V) (v : Value) (us : List Value) (Q : VK), Inv X pins σ H s → bh x v → br xs us → r x xs H Q →
  wpAny (model X.prog X.w) X.A (call (.builtin id) (v :: us)) (EP X pins σ Q) X.xe s
theorem br.one : ∀ {x : V} {us : List Value}, br [x] us → ∃ u, us = [u] ∧ bh x u
 | _, _, .cons r .nil => ⟨_, rfl, r⟩
theorem br.rep {xs : List V} {us : List Value} (h : br xs us) : ∀ k : Nat, br (List.replicate k xs).flatten (List.replicate k us).flatten
  | 0 => .nil
  | k + 1 => by
    rw [List.replicate_succ, List.replicate_succ, List.flatten_cons, List.flatten_cons]
    exact br.append h (br.rep h k)
theorem nV (its : List Value) : ∀ (k : Nat) (acc : List Value),
    List.foldl (fun x1 x2 => x1 ++ x2) acc.toArray (List.replicate k its.toArray) = (acc ++ (List.replicate k its).flatten).toArray
  | 0, acc => by simp
  | k + 1, acc => by
    have e : acc.toArray ++ its.toArray = (acc ++ its).toArray := by simp
    have e2 : (acc ++ its) ++ (List.replicate k its).flatten = acc ++ (List.replicate (k + 1) its).flatten := by
      rw [List.replicate_succ, List.flatten_cons, List.append_assoc]
    rw [← e2, ← nV its k (acc ++ its), ← e, List.replicate_succ, List.foldl_cons]
section
variable {X : Cx} {pins : List (Addr × Obj)} {σ : St} {H : Hp} {s : Shared} {l b : Addr} {xs ys zs : List V}
theorem Inv.lset {its its' : List Value} {n : Nat} {f : Array Value → Array Value} {t' : Nat} (I : Inv X pins σ H s) (hH : H l = some (.lst xs))
  (e : s.heap.get? l = some { cls := .type "list", data := .seq its.toArray n }) (hf : f its.toArray = its'.toArray) (hv : br ys its') (hz : ys.length ≤ sizeLine) :
  Inv X pins σ (upd H l (.lst ys)) { s with heap := s.heap.update l (Obj.mapSeq f), toks := t' } := by
 have q := PySem.IsL.update e f
 rw [hf] at q
 refine I.write (x := l) (e := l) (by rw [hH]; exact trivial) (.inl rfl) (fun b' u hb hu => (Heap.get?_update_other s.heap (Obj.mapSeq f) (Ne.symm hb)).trans hu) ⟨_, q⟩ ?_
 exact ⟨hz, its', _, hv, q⟩
theorem Inv.lnew {its : List Value} {t' : Nat} (I : Inv X pins σ H s) (hv : br ys its) (hz : ys.length ≤ sizeLine) :
  Inv X pins σ (upd H s.heap.objs.size (.lst ys)) { s with heap := s.heap.push { cls := .type "list", data := .seq its.toArray }, toks := t' } :=
 I.laid (fun _ _ q => Heap.get?_push_of_some _ q) (Nat.le_refl _) ⟨hz, its, 0, hv, Heap.get?_push_size _ rfl⟩
theorem Inv.fresh (I : Inv X pins σ H s) : H s.heap.objs.size = none := I.hok.fresh (Nat.le_refl _)
theorem Inv.lstM (I : Inv X pins σ H s) (hH : H l = some (.lst xs)) : xs.length ≤ sizeLine ∧ ∃ (its : List Value) (n : Nat), br xs its ∧ xs.length = its.length ∧ s.heap.get? l = some { cls := .type "list", data := .seq its.toArray n } := by
 obtain ⟨z, its, n, r, e⟩ := I.hok l _ hH
 exact ⟨z, its, n, r, r.length, e⟩
end
section
variable {X : Cx}
def cZ : V → List V → Hp → VK → Prop := fun x vs H Q => ∃ l xs y, x = .ref l ∧ vs = [y] ∧ H l = some (.lst xs) ∧ xs.length < sizeLine ∧ Q .non (upd H l (.lst (xs ++ [y])))
theorem eL : MtM X "list.append" cZ := by
 intro pins s σ H x vs v us Q I rx rv h
 obtain ⟨l, xs, y, rfl, rfl, hH, hz, q⟩ := h
 cases rx
 obtain ⟨u, rfl, ru⟩ := rv.one
 obtain ⟨z, its, n, r, hl, e⟩ := I.lstM hH
 refine call_meets F.slot_list_append ⟨_, e, rfl⟩ F.entry_list_append (F.args_list_append_2 _ _) (PySem.list_append l its.toArray n u (by rw [List.size_toArray]; omega)) ⟨e, ?_⟩
 refine ⟨.non, _, I.lset (its' := its ++ [u]) hH e (by simp) (r.append (.cons ru .nil)) ?_, rfl, q⟩
 rw [List.length_append, List.length_singleton]
 omega
def Cv : R2 := fun x y H Q => ∃ l b xs zs, x = .ref l ∧ y = .ref b ∧ H l = some (.lst xs) ∧ H b = some (.lst zs) ∧ xs.length + zs.length ≤ sizeLine ∧ ∀ p, H p = none → Q (.ref p) (upd H p (.lst (xs ++ zs)))
theorem CG : OpR X (binaryOp .Add) Cv := by
 intro pins s σ H x y v u Q I rx ry h
 obtain ⟨l, b, xs, zs, rfl, rfl, hH, hB, hz, q⟩ := h
 cases rx
 cases ry
 obtain ⟨z, its, n, r, hl, e⟩ := I.lstM hH
 obtain ⟨z2, its2, n2, r2, hl2, e2⟩ := I.lstM hB
 refine PySem.P.add_list e e2 ?_ (by rw [List.size_toArray, List.size_toArray]; omega)
 have ea : its.toArray ++ its2.toArray = (its ++ its2).toArray := by simp
 rw [ea]
 exact ⟨.ref _, _, I.lnew (t' := s.toks) (r.append r2) (by rw [List.length_append]; omega), rfl, q _ I.fresh⟩
theorem rk {α : Type} (xs : List α) (k : Nat) : (List.replicate k xs).flatten.length = k * xs.length := by
 induction k with
 | zero => simp
 | succ k ih => rw [List.replicate_succ, List.flatten_cons, List.length_append, ih, Nat.succ_mul, Nat.add_comm]
end
section
variable {prog : Program} {w : World} {A : Around} {E : Value → Shared → Prop} {s : Shared}
set_option maxRecDepth 100000 in
end
section
variable {X : Cx}
end
end L2
namespace L2
open PySem PySem.Spec PyProof.Rows
section
variable {κ : Type} [DecidableEq κ]
def cg (kvs : List (κ × V)) (k : κ) : Option V := (kvs.find? fun kv => decide (kv.1 = k)).map (·.2)
def dH (kvs : List (κ × V)) (k : κ) (v : V) : List (κ × V) :=
 if (kvs.any fun kv => decide (kv.1 = k)) = true then kvs.map (fun kv => if kv.1 = k then (kv.1, v) else kv) else kvs ++ [(k, v)]
theorem df {p : κ × V} {r : List (κ × V)} {k : κ} (e : p.1 = k) : cg (p :: r) k = some p.2 := by simp [cg, List.find?_cons, e]
theorem de {p : κ × V} {r : List (κ × V)} {k : κ} (e : ¬ p.1 = k) : cg (p :: r) k = cg r k := by simp [cg, List.find?_cons, e]
theorem iC (k : κ) : ∀ kvs : List (κ × V), (kvs.any fun kv => decide (kv.1 = k)) = (cg kvs k).isSome
  | [] => rfl
  | p :: r => by
    rw [List.any_cons]
    by_cases e : p.1 = k
    · simp only [df e, decide_eq_true e, Bool.true_or, Option.isSome_some]
    · rw [de e, decide_eq_false e, Bool.false_or]; exact iC k r
theorem qC (k j : κ) (y : V) : ∀ kvs : List (κ × V), cg (kvs.map fun kv => if kv.1 = k then (kv.1, y) else kv) j = (cg kvs j).map fun x => if j = k then y else x
  | [] => rfl
  | p :: r => by
    have ih := qC k j y r
    rw [List.map_cons]
    by_cases h : p.1 = k
    · rw [if_pos h]
      by_cases e : p.1 = j
      · rw [df (p := (p.1, y)) e, df e, Option.map_some, if_pos (e.symm.trans h)]
      · rw [de (p := (p.1, y)) e, de e, ih]
    · rw [if_neg h]
      by_cases e : p.1 = j
      · rw [df (p := p) e, df e, Option.map_some, if_neg (fun z => h (e.trans z))]
      · rw [de (p := p) e, de e, ih]
theorem nY (k j : κ) (y : V) : ∀ kvs : List (κ × V), cg kvs k = none → cg (kvs ++ [(k, y)]) j = if j = k then some y else cg kvs j
  | [], _ => by
    by_cases e : k = j
    · rw [if_pos e.symm]; exact df (p := (k, y)) e
    · rw [if_neg (fun z => e z.symm)]; exact de (p := (k, y)) e
  | p :: r, hn => by
    rw [List.cons_append]
    have hk : ¬ p.1 = k := fun z => by rw [df z] at hn; cases hn
    rw [de hk] at hn
    have ih := nY k j y r hn
    by_cases e : p.1 = j
    · rw [df e, df e, if_neg (fun z => hk (e.trans z))]
    · rw [de e, de e, ih]
theorem lG (kvs : List (κ × V)) (k j : κ) (y : V) : cg (dH kvs k y) j = if j = k then some y else cg kvs j := by
 unfold dH
 by_cases a : (kvs.any fun kv => decide (kv.1 = k)) = true
 · rw [if_pos a, qC]
   rw [iC] at a
   by_cases e : j = k
   · obtain ⟨x, hx⟩ := Option.isSome_iff_exists.mp a
     rw [if_pos e, e, hx, Option.map_some, if_pos rfl]
   · rw [if_neg e]
     cases cg kvs j with
     | none => rfl
     | some x => rw [Option.map_some, if_neg e]
 · rw [if_neg a]
   refine nY k j y kvs ?_
   rw [iC] at a
   cases q : cg kvs k with
   | none => rfl
   | some x => rw [q] at a; exact (a rfl).elim
theorem iT (kvs : List (κ × V)) (k : κ) (v : V) : (dH kvs k v).length ≤ kvs.length + 1 := by
 unfold dH
 split
 · rw [List.length_map]; omega
 · rw [List.length_append, List.length_cons, List.length_nil]; omega
theorem xS {kvs : List (κ × V)} {k : κ} (v : V) (h : cg kvs k = none) : dH kvs k v = kvs ++ [(k, v)] := by
 unfold dH
 rw [iC, h]
 exact if_neg (by decide)
theorem eO.isSome_eq {o : Option V} {u : Option Value} (r : eO o u) : o.isSome = u.isSome := by
  cases o with
  | none => cases u with
    | none => rfl
    | some _ => exact (show False from r).elim
  | some _ => cases u with
    | none => exact (show False from r).elim
    | some _ => rfl
theorem KV.val {kvs : List (κ × V)} {vs : List (κ × Value)} (r : KV kvs vs) (k : κ) : eO (cg kvs k) (valueAt vs k) := by
  unfold KV at r
  induction r with
  | nil => exact True.intro
  | @cons p q ps qs h t ih =>
    obtain ⟨h1, h2⟩ := h
    by_cases e : p.1 = k
    · have e' : q.1 = k := h1.symm.trans e
      have b : valueAt (q :: qs) k = some q.2 := by simp [valueAt, List.find?_cons, e']
      rw [df e, b]; exact h2
    · have e' : ¬ q.1 = k := fun z => e (h1.trans z)
      have b : valueAt (q :: qs) k = valueAt qs k := by simp [valueAt, List.find?_cons, e']
      rw [de e, b]; exact ih
theorem KV.any {kvs : List (κ × V)} {vs : List (κ × Value)} (r : KV kvs vs) (k : κ) : (kvs.any fun kv => decide (kv.1 = k)) = vs.any fun kv => decide (kv.1 = k) := by
 unfold KV at r
 induction r with
 | nil => rfl
 | cons h t ih => rw [List.any_cons, List.any_cons, ih, h.1]
theorem KV.repl {kvs : List (κ × V)} {vs : List (κ × Value)} (r : KV kvs vs) (k : κ) {y : V} {u : Value} (ry : bh y u) :
    KV (kvs.map fun kv => if kv.1 = k then (kv.1, y) else kv) (vs.map fun kv => if kv.1 = k then (kv.1, u) else kv) := by
  unfold KV at r ⊢
  induction r with
  | nil => exact .nil
  | @cons p q ps qs h t ih =>
    rw [List.map_cons, List.map_cons]
    refine .cons ?_ ih
    obtain ⟨h1, h2⟩ := h
    by_cases e : p.1 = k
    · rw [if_pos e, if_pos (h1.symm.trans e)]; exact ⟨h1, ry⟩
    · rw [if_neg e, if_neg (fun z => e (h1.trans z))]; exact ⟨h1, h2⟩
theorem KV.put {kvs : List (κ × V)} {vs : List (κ × Value)} (r : KV kvs vs) (k : κ) {y : V} {u : Value} (ry : bh y u) : KV (dH kvs k y) (stored vs k u) := by
 unfold dH stored
 rw [r.any k]
 by_cases e : (vs.any fun kv => decide (kv.1 = k)) = true
 · rw [if_pos e, if_pos e]; exact r.repl k ry
 · rw [if_neg e, if_neg e]; exact Paired.snoc r ⟨rfl, ry⟩
theorem KV.length {kvs : List (κ × V)} {vs : List (κ × Value)} (r : KV kvs vs) : kvs.length = vs.length := Paired.length r
end
theorem lV {P : Program} {w : World} {k : Key} {u : Value} (r : bh (kV k) u) : (cA P w).is k u = true := by
 cases k with
 | inl i => obtain ⟨t, e⟩ := (show ∃ t, u = Value.int i t from r); subst e; exact qL P w i t
 | inr x => obtain ⟨t, e⟩ := (show ∃ t, u = Value.str x t from r); subst e; exact qI P w x t
theorem Aw {a b : Key} (e : kV a = kV b) : a = b := by
  cases a with
  | inl i => cases b with
    | inl j => have e' : V.int i = V.int j := e; injection e' with e'; rw [e']
    | inr y => exact nomatch (show V.int i = V.str y from e)
  | inr x => cases b with
    | inl j => exact nomatch (show V.str x = V.int j from e)
    | inr y => have e' : V.str x = V.str y := e; injection e' with e'; rw [e']
theorem jh : ∀ {a b : List Key}, a.map kV = b.map kV → a = b
  | [], [], _ => rfl
  | [], _ :: _, e => by simp at e
  | _ :: _, [], e => by simp at e
  | x :: xs, y :: ys, e => by
    rw [List.map_cons, List.map_cons] at e
    injection e with e1 e2
    rw [Aw e1, jh e2]
theorem nJ {P : Program} {w : World} : ∀ {ks : List Key} {us : List Value}, br (ks.map kV) us → ItemsAre (cA P w) ks us
  | [], _, r => by rw [List.map_nil] at r; cases r; exact .nil
  | k :: ks, _, r => by
    rw [List.map_cons] at r
    cases r with
    | cons h t => exact .cons (lV h) (nJ t)
abbrev KT (H : Hp) : List (List Key × V) → List (List Key × Addr × Value) → Prop := Paired fun p q => p.1 = q.1 ∧ H q.2.1 = some (.tup (p.1.map kV)) ∧ bh p.2 q.2.2
theorem KT.val {H : Hp} {kvs : List (List Key × V)} {xs : List (List Key × Addr × Value)} (r : KT H kvs xs) (k : List Key) : eO (cg kvs k) ((atKey xs k).map (·.2)) := by
  induction r with
  | nil => exact True.intro
  | @cons p q ps qs h t ih =>
    obtain ⟨h1, _, h2⟩ := h
    by_cases e : p.1 = k
    · have e' : q.1 = k := h1.symm.trans e
      have b : atKey (q :: qs) k = some q.2 := by simp [atKey, List.find?_cons, e']
      rw [df e, b]; exact h2
    · have e' : ¬ q.1 = k := fun z => e (h1.trans z)
      have b : atKey (q :: qs) k = atKey qs k := by simp [atKey, List.find?_cons, e']
      rw [de e, b]; exact ih
theorem KT.repl {H : Hp} {kvs : List (List Key × V)} {xs : List (List Key × Addr × Value)} (r : KT H kvs xs) (k : List Key) {y : V} {u : Value} (ry : bh y u) :
    KT H (kvs.map fun kv => if kv.1 = k then (kv.1, y) else kv) (xs.map (putAt k u)) := by
  induction r with
  | nil => exact .nil
  | @cons p q ps qs h t ih =>
    rw [List.map_cons, List.map_cons]
    refine .cons ?_ ih
    obtain ⟨h1, h2, h3⟩ := h
    unfold putAt
    by_cases e : p.1 = k
    · rw [if_pos e, if_pos (h1.symm.trans e)]; exact ⟨h1, h2, ry⟩
    · rw [if_neg e, if_neg (fun z => e (h1.trans z))]; exact ⟨h1, h2, h3⟩
theorem KT.put {H : Hp} {kvs : List (List Key × V)} {xs : List (List Key × Addr × Value)} (r : KT H kvs xs) (k : List Key) {b : Addr} {y : V} {u : Value} (hb : H b = some (.tup (k.map kV))) (ry : bh y u) :
   KT H (dH kvs k y) (storedH xs k b u) := by
 have e : (kvs.any fun kv => decide (kv.1 = k)) = (atKey xs k).isSome := by
   rw [iC, (r.val k).isSome_eq, Option.isSome_map]
 unfold dH storedH
 rw [e]
 by_cases q : (atKey xs k).isSome = true
 · rw [if_pos q, if_pos q]; exact r.repl k ry
 · rw [if_neg q, if_neg q]; exact Paired.snoc r ⟨rfl, hb, ry⟩
theorem KT.keeps {H H' : Hp} {kvs : List (List Key × V)} {xs : List (List Key × Addr × Value)} (r : KT H kvs xs) (ht : ∀ b ys, H b = some (.tup ys) → H' b = some (.tup ys)) : KT H' kvs xs :=
 Paired.mapP r fun _ _ z => ⟨z.1, ht _ _ z.2.1, z.2.2⟩
section
variable {P : Program} {w : World} {H : Hp} {h : Heap} {a : Addr}
theorem yS {u : HO} (ok : HOk P w H h) (e : Rd H a u) : bB P w H h a u := e.ok ok
theorem kN {kvs : List (Key × V)} (ok : HOk P w H h) (e : Rd H a (.dK kvs)) : kvs.length ≤ sizeLine ∧ (a == sysModules) = false ∧ ∃ vs, KV kvs vs ∧ h.DictOf (cA P w) a vs :=
 show bB P w H h a (.dK kvs) from yS ok e
theorem FI {kvs : List (Key × V)} (ok : HOk P w H h) (e : H a = some (.dK kvs)) : kvs.length ≤ sizeLine ∧ (a == sysModules) = false ∧ ∃ vs, KV kvs vs ∧ h.DictOf (cA P w) a vs := kN ok (.inl e)
theorem kj {ks : List Key} (ok : HOk P w H h) (e : H a = some (.tup (ks.map kV))) : (tupleKind (cA P w)).is h ks a := by
 obtain ⟨_, its, r, o, h1, h2, n, h3⟩ := (show bB P w H h a (.tup (ks.map kV)) from ok a _ e)
 exact ⟨o, its.toArray, n, h1, h2, h3, by simpa using nJ r⟩
theorem lX {kvs : List (List Key × V)} (ok : HOk P w H h) (e : Rd H a (.dT kvs)) : kvs.length ≤ sizeLine ∧ (a == sysModules) = false ∧
    ∃ xs, KT H kvs xs ∧ h.DictOfH (tupleKind (cA P w)) a xs := by
  obtain ⟨z, y, xs, r, o, es, ep, h1, h2, h3, h4, h5⟩ := (show bB P w H h a (.dT kvs) from yS ok e)
  refine ⟨z, y, xs, r, o, es, ep, h1, h2, h3, h4, fun x hx => ?_, h5⟩
  have all : ∀ {l : List (List Key × V)} {m : List (List Key × Addr × Value)}, KT H l m → ∀ x ∈ m, (tupleKind (cA P w)).is h x.1 x.2.1 := by
    intro l m q
    induction q with
    | nil => intro x hx; exact nomatch hx
    | @cons p q ps qs hq t ih =>
      intro x hx
      rcases List.mem_cons.mp hx with e | hx
      · subst e
        exact kj ok (by rw [← hq.1]; exact hq.2.1)
      · exact ih x hx
  exact all r x hx
theorem yg {kvs : List (List Key × V)} (ok : HOk P w H h) (e : H a = some (.dT kvs)) : kvs.length ≤ sizeLine ∧ (a == sysModules) = false ∧
 ∃ xs, KT H kvs xs ∧ h.DictOfH (tupleKind (cA P w)) a xs := lX ok (.inl e)
end
def gG (H : Hp) (a : Addr) (y : V) (r : Option V) : Prop :=
 (∃ kvs k, Rd H a (.dK kvs) ∧ y = kV k ∧ r = cg kvs k) ∨ ∃ kvs k b, Rd H a (.dT kvs) ∧ y = .ref b ∧ H b = some (.tup (k.map kV)) ∧ r = cg kvs k
def sh (H : Hp) (a : Addr) (y v : V) (H' : Hp) : Prop :=
 (∃ kvs k, H a = some (.dK kvs) ∧ y = kV k ∧ kvs.length < sizeLine ∧ H' = upd H a (.dK (dH kvs k v))) ∨
 ∃ kvs k b, H a = some (.dT kvs) ∧ y = .ref b ∧ H b = some (.tup (k.map kV)) ∧ kvs.length < sizeLine ∧ H' = upd H a (.dT (dH kvs k v))
theorem gG.k {H : Hp} {a : Addr} {kvs : List (Key × V)} {k : Key} (e : H a = some (.dK kvs)) : gG H a (kV k) (cg kvs k) := .inl ⟨kvs, k, .inl e, rfl, rfl⟩
theorem gG.t {H : Hp} {a b : Addr} {kvs : List (List Key × V)} {k : List Key} (e : H a = some (.dT kvs)) (eb : H b = some (.tup (k.map kV))) : gG H a (.ref b) (cg kvs k) := .inr ⟨kvs, k, b, .inl e, rfl, eb, rfl⟩
theorem sh.k {H : Hp} {a : Addr} {kvs : List (Key × V)} {k : Key} {v : V} (e : H a = some (.dK kvs)) (hl : kvs.length < sizeLine) : sh H a (kV k) v (upd H a (.dK (dH kvs k v))) := .inl ⟨kvs, k, e, rfl, hl, rfl⟩
section
variable {X : Cx} {pins : List (Addr × Obj)} {σ : St} {H : Hp} {s : Shared} {a : Addr} {y v : V} {u r : Value} {o : Option V} {A : Around} {E : Value → Shared → Prop}
theorem Inv.big (I : Inv X pins σ H s) : sysModules < s.heap.objs.size := by
 have h : mainGlobals < s.heap.objs.size := (I.mod.glob.keeps I.bk).lt
 exact Nat.lt_trans (by decide) h
theorem uw {Q : Value → Shared → Prop} (hu : A.units + 1 < cLine) (I : Inv X pins σ H s) (g : gG H a y (some v)) (ry : bh y u) (h : ∀ w' s', Inv X pins σ H s' → bh v w' → Q w' s') :
   wpAny (model X.prog X.w) A (getItem (.ref a) u) Q E s := by
 rcases g with ⟨kvs, k, e, ey, l⟩ | ⟨kvs, k, b, e, ey, eb, l⟩
 · subst ey
   obtain ⟨z, hd, vs, rel, dd⟩ := kN I.hok e
   obtain ⟨w', hw, rw'⟩ := eO.some_of (v := v) (o := valueAt vs k) (by rw [l]; exact rel.val k)
   exact wpAny_getItem_of (lV ry) dd.mapOf hw (h w' _ (I.tok _) rw')
 · subst ey
   cases (show u = Value.ref b from ry)
   obtain ⟨z, hd, xs, rel, dd⟩ := lX I.hok e
   obtain ⟨w', hw, rw'⟩ := eO.some_of (v := v) (o := (atKey xs k).map (·.2)) (by rw [l]; exact rel.val k)
   obtain ⟨p, hp, hp2⟩ := Option.map_eq_some_iff.mp hw
   refine wpAny_getItem_heap (tupleKind_room_in1 hu) (kj I.hok eb) dd hp ?_
   rw [hp2]
   exact h w' _ (I.tok _) rw'
theorem Ho {Q : Value → Shared → Prop} (hu : A.units + 1 < cLine) (I : Inv X pins σ H s) (g : gG H a y o) (ry : bh y u) (h : ∀ s', Inv X pins σ H s' → Q (.bool o.isSome) s') :
   wpAny (model X.prog X.w) A (compareOp .In u (.ref a)) Q E s := by
 rcases g with ⟨kvs, k, e, ey, l⟩ | ⟨kvs, k, b, e, ey, eb, l⟩
 · subst ey
   obtain ⟨z, hd, vs, rel, dd⟩ := kN I.hok e
   refine wpAny_in_of (lV ry) hd dd.mapOf ?_
   rw [← (rel.val k).isSome_eq, ← l]
   exact h _ (I.tok _)
 · subst ey
   cases (show u = Value.ref b from ry)
   obtain ⟨z, hd, xs, rel, dd⟩ := lX I.hok e
   refine wpAny_in_heap (tupleKind_room_in1 hu) (kj I.hok eb) hd dd ?_
   have q := (rel.val k).isSome_eq
   rw [Option.isSome_map] at q
   rw [← q, ← l]
   exact h _ (I.tok _)
theorem rn {h' : Heap} {t' : Nat} {ob : HO} (I : Inv X pins σ H s) (mu : Mut (H a)) (hs : Heap.SameBut a s.heap h') (he : ∃ q, h'.get? a = some q) (new : bB X.prog X.w (upd H a ob) h' a ob) :
  Inv X pins σ (upd H a ob) { s with heap := h', toks := t' } :=
 I.write (x := a) (e := a) mu (.inl rfl) (fun b q hb z => (hs.2 b hb).trans z) he new
theorem CB {P : Program} {w : World} {H' : Hp} {h' : Heap} {kvs : List (Key × V)} {vs : List (Key × Value)} (z : kvs.length ≤ sizeLine) (hd : (a == sysModules) = false) (rel : KV kvs vs) (dd : h'.DictOf (cA P w) a vs) :
 bB P w H' h' a (.dK kvs) := ⟨z, hd, vs, rel, dd⟩
end
section
variable {X : Cx} {pins : List (Addr × Obj)} {σ : St} {H : Hp} {s : Shared} {a : Addr} {kvs : List (Key × V)} {k : Key} {u : Value} {A : Around} {E : Value → Shared → Prop}
theorem DW {Q : Value → Shared → Prop} (I : Inv X pins σ H s) (e : Rd H a (.dK kvs)) (h : ∀ t s', Inv X pins σ H s' → Q (.int kvs.length t) s') : wpAny (model X.prog X.w) A (call (.builtin "len") [.ref a]) Q E s := by
 obtain ⟨z, hd, vs, rel, dd⟩ := kN I.hok e
 refine call_len_dict hd dd (by rw [← rel.length]; rw [sizeLine_eq] at z; omega) ?_
 rw [← rel.length]
 exact h _ _ (I.tok _)
end
theorem qF {X : Cx} {pins : List (Addr × Obj)} {σ : St} {H : Hp} {s : Shared} {a : Addr} {y : V} {o : Option V} (I : Inv X pins σ H s) (g : gG H a y o) : s.TypeIs (.ref a) "dict" := by
 rcases g with ⟨kvs, k, e, _, _⟩ | ⟨kvs, k, b, e, _, _, _⟩
 · obtain ⟨_, _, vs, _, dd⟩ := kN I.hok e
   exact dd.typeIs
 · obtain ⟨_, _, xs, _, dd⟩ := lX I.hok e
   exact dd.typeIs
section
variable {X : Cx} {o i e value : Expr} {pos pos' tpos : Pos} {td ty tv : TE}
end
theorem wV {P : Program} {w : World} {H : Hp} (h : Heap) (hb : sysModules < h.objs.size) : bB P w H (h.push { cls := .type "dict", data := .dict #[] }) h.objs.size (.dK []) :=
 ⟨Nat.zero_le _, beq_eq_false_iff_ne.mpr (Ne.symm (Nat.ne_of_lt hb)), [], .nil, Heap.DictOf.new h⟩
theorem xK {P : Program} {w : World} {H : Hp} (h : Heap) (hb : sysModules < h.objs.size) : bB P w H (h.push { cls := .type "dict", data := .dict #[] }) h.objs.size (.dT []) :=
 ⟨Nat.zero_le _, beq_eq_false_iff_ne.mpr (Ne.symm (Nat.ne_of_lt hb)), [], .nil, _, #[], 0, Heap.get?_push_size _ rfl, ⟨rfl, rfl, rfl⟩, rfl, rfl, List.nodup_nil⟩
def uo : TE := fun _ H Q => ∀ p, H p = none → Q (.ref p) (upd H p (.dK []))
def tT : TE := fun _ H Q => ∀ p, H p = none → Q (.ref p) (upd H p (.dT []))
section
variable {X : Cx} {pos : Pos}
theorem we : PE X (.Dict [] [] pos) uo := fun pins s σ H Q I h =>
 wpAny_Dict_empty ⟨.ref s.heap.objs.size, _, I.laid (a := s.heap.objs.size) (o := .dK []) (t' := s.toks) (fun _ _ q => Heap.get?_push_of_some _ q) (Nat.le_refl _) (wV s.heap I.big), rfl, h _ (I.hok.fresh (Nat.le_refl _))⟩
theorem xu : PE X (.Dict [] [] pos) tT := fun pins s σ H Q I h =>
 wpAny_Dict_empty ⟨.ref s.heap.objs.size, _, I.laid (a := s.heap.objs.size) (o := .dT []) (t' := s.toks) (fun _ _ q => Heap.get?_push_of_some _ q) (Nat.le_refl _) (xK s.heap I.big), rfl, h _ (I.hok.fresh (Nat.le_refl _))⟩
end
section
variable {X : Cx} {pins : List (Addr × Obj)} {σ : St} {H : Hp} {s : Shared} {a : Addr} {y d : V} {u r : Value} {o : Option V} {A : Around} {E : Value → Shared → Prop}
end
section
variable {X : Cx} {o e f : Expr} {apos cpos : Pos} {td ty tx : TE}
end
section
variable {X : Cx} {pins : List (Addr × Obj)} {σ : St} {H : Hp} {s : Shared} {a : Addr} {kvs : List (Key × V)} {A : Around} {E : Value → Shared → Prop}
end
section
variable {X : Cx} {pins : List (Addr × Obj)} {σ : St} {H : Hp} {s : Shared} {a : Addr} {y : V} {u : Value} {A : Around} {E : Value → Shared → Prop}
end
end L2
namespace Att
open PySem PySem.W PySem.Calls PyProof.Rows
theorem ints_of_wellAll {P : Params} {h : Heap} : ∀ (ns : List Int) (vs : List Value), WellAll P h vs (ns.map WData.int) → IntsAre vs ns := by
  intro ns
  induction ns with
  | nil =>
    intro vs w
    rw [List.map_nil] at w
    cases w
    exact .nil
  | cons n ns ih =>
    intro vs w
    rw [List.map_cons] at w
    cases w with
    | cons a b =>
      cases a
      exact .cons _ _ (ih _ b)
theorem script_of {l : OpenLaw} {n : Nat} (hn : l.most = some n) {P : Params} {h : Heap} {args : List WData} {vals : List Value}
    (hpre : l.row.toRowW.claim.pre args = true) (hwl : WellAll P h vals args) :
    ∃ a vs ns, vals = [Value.ref a] ∧ args = [WData.list (ns.map WData.int)] ∧ h.get? a = some { cls := .type "list", data := .seq vs.toArray } ∧ IntsAre vs ns ∧ ns.length ≤ n := by
  have hsh : WShape.hasAll [] args [.list .int] = true := (pre_splitW hpre).1
  have hc : l.pre.holds [] { args := args } = true := (pre_splitW hpre).2
  obtain ⟨d, r, rfl, h1, h2⟩ := hasAllW_cons hsh
  obtain rfl := hasAllW_nil h2
  obtain ⟨xs, rfl, h3⟩ := hasW_list h1
  obtain ⟨ns, rfl⟩ := items_int h3
  have hlen : ns.length ≤ n := by
    unfold OpenLaw.pre at hc
    have h4 : (WTm.not (.lt (.lit (.int (n : Int))) (.len (.arg 0)))).holds [] { args := [.list (ns.map .int)] } = true := by
      have h4 := (holds_andW hc).1
      rw [hn] at h4
      exact h4
    have h5 := condW_of h4 (w_not (w_lt w_lit (w_len_list (w_arg rfl))))
    rw [List.length_map] at h5
    refine Nat.le_of_not_lt fun q => ?_
    have q' : (n : Int) < ((ns.length : Nat) : Int) := by omega
    first
      | (rw [decide_eq_true q'] at h5; exact absurd h5 (by decide))
      | (simp at h5; omega)
  cases hwl with
  | cons w1 w2 =>
    cases w2
    cases w1 with
    | list ho hall => exact ⟨_, _, ns, rfl, rfl, ho, ints_of_wellAll ns _ hall, hlen⟩
theorem post_true (l : OpenLaw) (args : List WData) : l.row.toRowW.claim.post args (.bool true) args = true :=
 postW_of (r := l.row.toRowW) (X := (true == true))
  (show WShape.has [] (.bool true) .bool = true by first | rfl | decide | simp [WShape.has, WShape.arms, WShape.armsAll])
  (show (WTm.eq .res (.lit (.bool true))).value [] { args := args, res := some (.bool true), after := args } = some (.bool (true == true)) from w_eq_bool (w_res rfl) w_lit) rfl
theorem attach_call {l : OpenLaw} {n : Nat} {q : Program} {loose : List Str} {XP : (Str → Option Value) → Heap → Prop} {YP : World → Heap → Prop} {d : DefRec}
  (hn : l.most = some n) (hdf : d.params.defaults = [])
  (call : ∀ (w : World) (s₀ s₁ : Shared) (mg mb : Str → Option Value) (fa : Addr) (o : Obj) (pm cd doc : Value) (a : Addr) (vs : List Value) (ns : List Int),
   Ground q loose [] XP w s₀ mg mb s₁.heap → YP w s₁.heap →
   s₁.heap.get? fa = some o → o.data = .func (docDef d.name d.params d.body d.scope pm cd doc) → s₁.heap.CodeRec cd d.name → mg d.name = some (.ref fa) →
   s₁.heap.get? a = some { cls := .type "list", data := .seq vs.toArray } → IntsAre vs ns → ns.length ≤ n → s₁.gens = #[] →
   codeAny (model l.prog w) callerA (.call (.ref fa) ⟨[.ref a], []⟩) (fun r s' => r = .ok (.ret (.bool true)) ∧ OldK s₁.heap s'.heap ∧ s'.os = s₁.os ∧ AllBare s'.gens) s₁) :
  WalkO q loose XP YP l.row.toRowW d [] (fun f vs => PySem.call f vs) := by
 intro w s₀ s₁ mg mb G Y fa o pm cd doc dV kV ho hd hcd hD hmg hg args vals as hpre hlay hrd hwl hlo
 obtain rfl : dV = .none := Dflts.none hD hdf
 obtain rfl : kV = .none := Dflts.noKw hD
 obtain ⟨a, vs, ns, rfl, rfl, hobj, hints, hlen⟩ := script_of hn hpre hwl
 refine enter_call (codeAny_mono (call w s₀ s₁ mg mb fa o pm cd doc a vs ns G Y ho (fd_plain hd) hcd hmg hobj hints hlen hg) fun r s' hq => ?_)
 obtain ⟨rfl, h2, h3, h4⟩ := hq
 exact ⟨.inl ⟨.bool true, .bool true, [], rfl, fun _ => rfl, .bool true, post_true l _, fun _ => ⟨List.Pairwise.nil, fun _ hm => (nomatch hm)⟩⟩, h2, h3, h4⟩
section
variable {prog : Program} {w : World} {A : Around} {E : Value → Shared → Prop} {s : Shared} {K : Frag}
end
end Att
namespace L2
open PySem PySem.Spec PyProof.Rows
theorem nI : ∀ {vs : List Value} {ns : List Int}, IntsAre vs ns → br (ns.map V.int) vs
 | _, _, .nil => .nil
 | _, _, .cons n t h => .cons ⟨t, rfl⟩ (nI h)
end L2
namespace L2
open PySem PySem.Spec PyProof.Rows
end L2
namespace L2
open PySem PySem.Spec PyProof.Rows
def bO (s : Stmt) : Arguments := match s with
 | .FunctionDef _ a _ _ _ _ _ _ _ _ => a
 | _ => { posonlyargs := [], args := [], vararg := none, kwonlyargs := [], kw_defaults := [], kwarg := none, defaults := [] }
def bi (s : Stmt) : List Stmt := match s with
 | .FunctionDef _ _ b _ _ _ _ _ _ _ => b
 | _ => []
def ap (s : Stmt) : Scope := match s with
 | .FunctionDef _ _ _ _ _ _ sc _ _ _ => sc
 | _ => { kind := .function, names := [], isGenerator := false, isCoroutine := false }
abbrev E0 : XK := fun _ _ _ => False
structure Fun (K : W.Frag) (x qual : Str) (st : Stmt) (f : Addr) (fd : FuncData) : Prop where
 ex : ∃ (oc : Value) (od : Option Addr) (kV doc pm : Value) (an : Option Addr) (cdv ct : Value) (osl : Array (Option Value)),
  fd = W.fnOf x qual (bO st) (bi st) (ap st) .none kV doc pm an cdv ct ∧ K.lookup f = some ⟨oc, od, .func fd, osl⟩ ∧ W.codeIn K cdv qual = true
 kp : W.keepIn K (.ref f) = true
section
variable {P : Program} {w : World} {K : W.Frag} {mg : Str → Option Value} {base : Heap}
theorem Fun.binds {x qual : Str} {st : Stmt} {f : Addr} {fd : FuncData} {ps : List Str} (F : Fun K x qual st f fd)
  (h : ∀ (kV doc pm : Value) (an : Option Addr) (cdv ct : Value) (us : List Value), us.length = ps.length → bindArgs (W.fnOf x qual (bO st) (bi st) (ap st) .none kV doc pm an cdv ct) ⟨us, []⟩ = pure (ps.zip us)) : eG K fd ps [] := by
 obtain ⟨oc, od, kV, doc, pm, an, cdv, ct, osl, rfl, lk, hcd⟩ := F.ex
 exact .all (h kV doc pm an cdv ct)
theorem AK {x qual : Str} {st : Stmt} {f : Addr} {oc : Value} {od an : Option Addr} {osl : Array (Option Value)} {kV doc pm cdv ct : Value} (l : K.lookup f = some ⟨oc, od, .func (W.fnOf x qual (bO st) (bi st) (ap st) .none kV doc pm an cdv ct), osl⟩)
 (c : W.codeIn K cdv qual = true) (k : W.keepIn K (.ref f) = true) : Fun K x qual st f (W.fnOf x qual (bO st) (bi st) (ap st) .none kV doc pm an cdv ct) := ⟨⟨oc, od, kV, doc, pm, an, cdv, ct, osl, rfl, l, c⟩, k⟩
end
theorem iH {n : Nat} (h : n ≤ 1000) : n < sizeLine := Nat.lt_of_le_of_lt h (by decide)
section
variable {X : Cx}
theorem tG : cm X (.builtin "len") (fun xs H Q => ∃ a kvs, xs = [V.ref a] ∧ H a = some (.dK kvs) ∧ Q (.int kvs.length) H) := by
 intro pins s σ H xs us Q I r h
 obtain ⟨a, kvs, rfl, ha, q⟩ := h
 obtain ⟨u, rfl, ru⟩ := kL r
 cases ru
 exact DW I (.inl ha) fun t s' I' => ⟨.int kvs.length, H, I', ⟨t, rfl⟩, q⟩
end
theorem se {A B : Prop} (h : B) : if false = true then A else B := by
 rw [if_neg Bool.false_ne_true]
 exact h
def ay (H H' : Hp) : Prop := ∀ b o, H b = some o → H' b = some o
theorem ay.refl (H : Hp) : ay H H := fun _ _ h => h
theorem ay.trans {H H1 H2 : Hp} (a : ay H H1) (b : ay H1 H2) : ay H H2 := fun c o h => b c o (a c o h)
theorem ay.seq {K : W.Frag} {H H' : Hp} {a : Addr} {xs : List V} (e : ay H H') (h : SqL K H a xs) : SqL K H' a xs := by
 rcases h with (h | ⟨o, h⟩) | h
 · exact .inl (.inl (e _ _ h))
 · exact .inl (.inr ⟨o, e _ _ h⟩)
 · exact .inr h
section
variable {κ : Type} [DecidableEq κ]
end
end L2
namespace L2
open PySem PySem.Spec PyProof.Rows
def dW : List (Str × NameKind) → List (Str × Addr) → List (Str × Addr) → List (Str × Addr)
 | [], _, cs => cs
 | (n, k) :: r, cells, cs => dW r cells (if k == .free then (match cells.lookup n with | some a => (n, a) :: cs | none => cs) else cs)
theorem qf {scope : Scope} {env : Env} (h : ∀ y ∈ scope.names, y.2 = .free → (env.cells.lookup y.1).isSome = true) : closureFor scope env = pure (dW scope.names env.cells []) := by
  have key : ∀ (l : List (Str × NameKind)) (cs : List (Str × Addr)), (∀ y ∈ l, y.2 = .free → (env.cells.lookup y.1).isSome = true) →
      (forIn l cs (fun (x : Str × NameKind) (cs : List (Str × Addr)) => (if (x.2 == NameKind.free) = true then (do let a ← cellOf env x.1; pure (ForInStep.yield ((x.1, a) :: cs))) else (pure (ForInStep.yield cs) : Sem _))) : Sem (List (Str × Addr))) = pure (dW l env.cells cs) := by
    intro l
    induction l with
    | nil => intro cs _; rfl
    | cons y r ih =>
      intro cs hy
      obtain ⟨n, k⟩ := y
      rw [List.forIn_cons]
      by_cases hk : k = .free
      · subst hk
        have hs := hy (n, .free) List.mem_cons_self rfl
        cases e : env.cells.lookup n with
        | none => rw [e] at hs; cases hs
        | some a =>
          have := ih ((n, a) :: cs) (fun z hz => hy z (List.mem_cons_of_mem _ hz))
          simp only [dW, beq_self_eq_true, if_true, e, cellOf, pure_bind]
          exact this
      · have hb : (k == NameKind.free) = false := by simpa using hk
        have := ih cs (fun z hz => hy z (List.mem_cons_of_mem _ hz))
        simp only [dW, hb, Bool.false_eq_true, if_false, pure_bind]
        exact this
  have := key scope.names [] h
  unfold closureFor
  simpa using this
theorem nE : ∀ {l : List (Str × NameKind)} {cells cs : List (Str × Addr)} {x : Str} {c : Addr}, (∀ x c, cs.lookup x = some c → cells.lookup x = some c) → (dW l cells cs).lookup x = some c → cells.lookup x = some c
  | [], _, _, _, _, h, e => h _ _ e
  | (n, k) :: r, cells, cs, x, c, h, e => by
    refine nE (l := r) (fun y d hy => ?_) e
    split at hy
    · split at hy
      · rename_i a ha
        by_cases hyn : y = n
        · subst hyn
          rw [List.lookup_cons_self] at hy
          rw [← hy]; exact ha
        · rw [List.lookup_cons] at hy
          have : (y == n) = false := by simpa using hyn
          rw [this] at hy
          exact h _ _ hy
      · exact h _ _ hy
    · exact h _ _ hy
theorem me : ∀ {l : List (Str × NameKind)} {cells cs : List (Str × Addr)} {x : Str}, (cs.lookup x).isSome = true → ((dW l cells cs).lookup x).isSome = true
  | [], _, _, _, h => h
  | (n, k) :: r, cells, cs, x, h => by
    refine me (l := r) ?_
    split
    · split
      · rw [List.lookup_cons]
        split
        · rfl
        · exact h
      · exact h
    · exact h
theorem jX : ∀ {l : List (Str × NameKind)} {cells cs : List (Str × Addr)} {x : Str}, (x, NameKind.free) ∈ l → (cells.lookup x).isSome = true → ((dW l cells cs).lookup x).isSome = true
  | [], _, _, _, h, _ => by cases h
  | (n, k) :: r, cells, cs, x, h, hs => by
    rcases List.mem_cons.mp h with e | h
    · cases e
      refine me (l := r) ?_
      simp only [beq_self_eq_true, if_true]
      cases e : cells.lookup n with
      | none => rw [e] at hs; cases hs
      | some a => simp only [List.lookup_cons_self]; rfl
    · exact jX (l := r) h hs
theorem lR {x : Str} {k : NameKind} : ∀ {l : List (Str × NameKind)}, l.lookup x = some k → (x, k) ∈ l := fun h => PySem.mem_of_lookup h
inductive gU (X : Cx) (scope : Scope) : List Str → List Nat → Prop where
 | nil : gU X scope [] []
 | cons {y : Str} {i : Nat} {ys : List Str} {is : List Nat} (h1 : X.N[i]? = some y) (h2 : X.env.kindOf y = some .cell ∨ X.env.kindOf y = some .free) (h3 : scope.names.lookup y = some .free) (h : gU X scope ys is) : gU X scope (y :: ys) (i :: is)
structure gb (scope : Scope) (x : Str) (ys : List Str) : Prop where
 kind : scope.kind = .function
 nocell : ∀ y ∈ scope.names, y.2 ≠ .cell
 names : ∀ y ∈ scope.names, y.2 = .local → scope.names.lookup y.1 = some .local
 own : scope.names.lookup x = some .local
 all : ∀ y ∈ scope.names, y.2 = .free → y.1 ∈ ys
 nd : (x :: ys).Nodup
def bL (X : Cx) (scope : Scope) (C : Addr) (N : List Str) (s : Shared) (H : Hp) (fp : List Addr) : Cx :=
 { X with N := N, s₀ := s, H₀ := H, env := compEnvC scope (dW scope.names X.env.cells []) C X.env, outer := X.stack, ex := fp, fn := fun _ => false, pn := [], xe := fun _ _ => False }
def bZ (σ : St) (is : List Nat) : St := is.map fun i => (σ[i]?).getD none
theorem ja {f : Str × NameKind → Str × NameKind} (hf : ∀ p, (f p).1 = p.1) {x : Str} : ∀ (l : List (Str × NameKind)), (l.map f).lookup x = (l.lookup x).map fun k => (f (x, k)).2
  | [] => rfl
  | (n, k) :: r => by
    have ih := ja hf (x := x) r
    have e : f (n, k) = (n, (f (n, k)).2) := Prod.ext (hf (n, k)) rfl
    rw [List.map_cons, e, List.lookup_cons, List.lookup_cons]
    cases hx : x == n with
    | true =>
      have e' : x = n := by simpa using hx
      subst e'; rfl
    | false => exact ih
theorem jw (scope : Scope) (env : Env) (x : Str) : (relabel scope env).names.lookup x = (scope.names.lookup x).map fun k => if (k == NameKind.free && env.scope.kind == .function && env.kindOf x == some .cell) then NameKind.cell else k := by
 have hf : ∀ p : Str × NameKind, ((fun (n, k) => if (k == NameKind.free && env.scope.kind == .function && env.kindOf n == some .cell) then (n, NameKind.cell) else (n, k)) p : Str × NameKind).1 = p.1 := by
  intro p
  obtain ⟨n, k⟩ := p
  show (if _ then (n, NameKind.cell) else (n, k)).1 = n
  split <;> rfl
 have := ja hf (x := x) scope.names
 show List.lookup x (List.map _ scope.names) = _
 rw [this]
 congr 1
 funext k
 show (if _ then (x, NameKind.cell) else (x, k)).2 = _
 split <;> rfl
theorem iW {scope : Scope} {env : Env} {x : Str} {k : NameKind} (nc : ∀ y ∈ scope.names, y.2 ≠ .cell) (h : (relabel scope env).names.lookup x = some k) (hk : k = .cell ∨ k = .free) : (x, NameKind.free) ∈ scope.names := by
  rw [jw] at h
  cases q : scope.names.lookup x with
  | none => rw [q] at h; cases h
  | some k' =>
    have hm := lR q
    rw [q] at h
    have h : (if (k' == NameKind.free && env.scope.kind == .function && env.kindOf x == some .cell) then NameKind.cell else k') = k := Option.some.inj h
    by_cases hc : k' = .free
    · subst hc; exact hm
    · have hb : (k' == NameKind.free) = false := by simpa using hc
      rw [hb] at h
      have h : k' = k := h
      subst h
      rcases hk with z | z
      · exact absurd z (nc _ hm)
      · exact absurd z hc
theorem pI {scope : Scope} {env : Env} {x : Str} (h : scope.names.lookup x = some .free) : (relabel scope env).names.lookup x = some .cell ∨ (relabel scope env).names.lookup x = some .free := by
 rw [jw, h]
 show some (if _ then _ else _) = _ ∨ some (if _ then _ else _) = _
 split
 · exact .inl rfl
 · exact .inr rfl
theorem ou {scope : Scope} {env : Env} {x : Str} (h : scope.names.lookup x = some .local) : (relabel scope env).names.lookup x = some .local := by
 rw [jw, h]; rfl
theorem uc {X : Cx} {scope : Scope} {ys : List Str} {is : List Nat} {m : Str → Option Value} {h : Heap} {σ : St} (hc : gU X scope ys is)
    (hl : ∀ (i : Nat) (x : Str) (v : V), X.N[i]? = some x → σ[i]? = some (some v) → Vis X.env.scope x → ∃ u, bh v u ∧ CK X.env h m x u) (nd : True) :
    ∀ (j : Nat) (y : Str) (v : V), ys[j]? = some y → (bZ σ is)[j]? = some (some v) → ∃ u, bh v u ∧ scope.names.lookup y = some .free ∧ ∃ c, X.env.cells.lookup y = some c ∧ h.IsCell c (some u) := by
  induction hc with
  | nil => intro j y v e; simp at e
  | @cons z i zs js h1 h2 h3 hr ih =>
    intro j y v e1 e2
    cases j with
    | zero =>
      simp at e1; subst e1
      have e2 : (σ[i]?).getD none = some v := by simpa [bZ] using e2
      have e3 : σ[i]? = some (some v) := by
        cases q : σ[i]? with
        | none => rw [q] at e2; simp at e2
        | some o => rw [q] at e2; simp at e2; rw [e2]
      have hv : Vis X.env.scope z := by
        rcases h2 with q | q
        · exact .inr (.inl q)
        · exact .inr (.inr q)
      obtain ⟨u, r, l⟩ := hl i z v h1 e3 hv
      refine ⟨u, r, h3, ?_⟩
      rcases l with ⟨k, _⟩ | ⟨_, c, e, ic⟩
      · rcases h2 with q | q
        · rw [q] at k; cases k
        · rw [q] at k; cases k
      · exact ⟨c, e, ic⟩
    | succ j =>
      exact ih j y v (by simpa using e1) (by simpa [bZ] using e2)
end L2
namespace L2
open PySem PySem.Spec PyProof.Rows
def yR (is : List Nat) (tc : TT) (te : TE) (σ : St) (D : Addr) (J : It) (H1 : Hp) (Q : VK) : Prop := ∃ W : Nat → Nat → List V → Hp → Prop, (∃ m, W 0 m [] (upd H1 D (.lst []))) ∧
 ∀ i m ys H2, W i m ys H2 → (J.stop i H2 ∧ Q (.ref D) H2) ∨ (J.go i H2 ∧ ∀ x H3, J.yld i H2 x H3 → tc (some x :: bZ σ is) H3 fun b H4 => if b = true then
  te (some x :: bZ σ is) H4 fun y H5 => H5 D = some (.lst ys) ∧ ys.length < sizeLine ∧ ∃ m', m' < m ∧ W (i + 1) m' (ys ++ [y]) (upd H5 D (.lst (ys ++ [y])))
  else ∃ m', m' < m ∧ W (i + 1) m' ys H4)
def hU (is : List Nat) (wi : TI) (tc : TT) (te : TE) : TE := fun σ H Q => wi σ H fun J H1 => ∀ D, H1 D = none → yR is tc te σ D J H1 Q
theorem qH (elt target iter c : Expr) (scope : Scope) (pos : Pos) (it acc : Value) (env : Env) :
    compTurn (.ListComp elt [⟨target, iter, [c], 0⟩] scope pos) 0 it acc env = (standAt iter.pos >>= fun _ => pyNext it >>= fun r => match r with
      | none => pure (.done .next)
      | some v => letOwnedTupleGo target it v >>= fun _ => assign target env v >>= fun _ => isTrue c env (eval c env) >>= fun ok =>
        (if ok = true then (eval elt env >>= fun x => call (.builtin "list.append") [acc, x] >>= fun _ => pure ()) else pure ()) >>= fun _ =>
          again (.compLoop (.ListComp elt [⟨target, iter, [c], 0⟩] scope pos) 0 it acc env)) := by
  unfold compTurn
  simp only [List.forIn_cons, List.forIn_nil, List.getElem?_cons_zero, List.getElem?_cons_succ, List.getElem?_nil, bind_assoc, pure_bind, bne_self_eq_false, Bool.false_eq_true, if_false, if_true]
  congr 1
  funext _
  congr 1
  funext r
  cases r with
  | none => rfl
  | some v =>
    simp only [bind_assoc, pure_bind, if_true]
    congr 1; funext _
    congr 1; funext _
    congr 1; funext b
    cases b <;> simp
section
variable {prog : Program} {w : World} {A : Around} {R : Result → Shared → Prop} {s : Shared}
theorem jO {elt target iter c : Expr} {scope : Scope} {pos : Pos} {it acc : Value} {env : Env} (I : Nat → Shared → Prop)
    (turn : ∀ n s, I n s → wpAny (model prog w) A (pyNext it) (fun r s₁ => match r with
      | none => R (.ok .next) s₁
      | some v => wpAny (model prog w) A (letOwnedTupleGo target it v) (fun _ s₁ => wpAny (model prog w) A (assign target env v) (fun _ s₂ => wpAny (model prog w) A (isTrue c env (eval c env)) (fun ok s₂ => if ok = true then wpAny (model prog w) A (eval elt env) (fun x s₃ =>
          wpAny (model prog w) A (call (.builtin "list.append") [acc, x]) (fun _ s₄ => ∃ m, m < n ∧ I m s₄) (notedBy (model prog w) A env fun e s' => R (.error e) s') s₃)
          (notedBy (model prog w) A env fun e s' => R (.error e) s') s₂ else ∃ m, m < n ∧ I m s₂) (notedBy (model prog w) A env fun e s' => R (.error e) s') s₂) (notedBy (model prog w) A env fun e s' => R (.error e) s') s₁) (notedBy (model prog w) A env fun e s' => R (.error e) s') s₁) (notedBy (model prog w) A env fun e s' => R (.error e) s') s)
    (n : Nat) (h : I n s) :
    codeAny (model prog w) A (.compLoop (.ListComp elt [⟨target, iter, [c], 0⟩] scope pos) 0 it acc env) R s := by
  refine codeAny_loop rfl I (fun n s hI => ?_) n h
  show wpAny _ _ ((compTurn (.ListComp elt [⟨target, iter, [c], 0⟩] scope pos) 0 it acc env).onRaise (fun x => do noteFrame x env; theTreesLotGoes x)) _ _ s
  refine wpAny_noted ?_
  rw [qH]
  refine wpAny_bind (wpAny_standAt (wpAny_bind (wpAny_mono (turn n s hI) (fun r s₁ h₁ => ?_) fun _ _ h' => h')))
  cases r with
  | none => exact wpAny_pure h₁
  | some v =>
    refine wpAny_bind (wpAny_mono h₁ (fun _ s₁ h₁ => wpAny_bind (wpAny_mono h₁ (fun _ s₂ h₂ => wpAny_bind (wpAny_mono h₂ (fun ok s₃ h₃ => ?_) fun _ _ h' => h')) fun _ _ h' => h')) fun _ _ h' => h')
    cases ok with
    | true =>
      rw [if_pos rfl] at h₃
      simp only [if_true]
      exact wpAny_bind (wpAny_bind (wpAny_mono h₃ (fun x s₃ h₃ => wpAny_bind (wpAny_mono h₃ (fun _ s₄ h₄ => wpAny_pure (wpAny_pure ⟨rfl, h₄⟩)) fun _ _ h' => h')) fun _ _ h' => h'))
    | false =>
      rw [if_neg Bool.false_ne_true] at h₃
      simp only [Bool.false_eq_true, if_false]
      exact wpAny_bind (wpAny_pure (wpAny_pure ⟨rfl, h₃⟩))
theorem jN {elt target iter : Expr} {scope : Scope} {pos : Pos} {it acc : Value} {env : Env} (I : Nat → Shared → Prop)
    (turn : ∀ n s, I n s → wpAny (model prog w) A (pyNext it) (fun r s₁ => match r with
      | none => R (.ok .next) s₁
      | some v => wpAny (model prog w) A (letOwnedTupleGo target it v) (fun _ s₁ => wpAny (model prog w) A (assign target env v) (fun _ s₂ => wpAny (model prog w) A (eval elt env) (fun x s₃ =>
          wpAny (model prog w) A (call (.builtin "list.append") [acc, x]) (fun _ s₄ => ∃ m, m < n ∧ I m s₄) (notedBy (model prog w) A env fun e s' => R (.error e) s') s₃)
          (notedBy (model prog w) A env fun e s' => R (.error e) s') s₂) (notedBy (model prog w) A env fun e s' => R (.error e) s') s₁) (notedBy (model prog w) A env fun e s' => R (.error e) s') s₁) (notedBy (model prog w) A env fun e s' => R (.error e) s') s)
    (n : Nat) (h : I n s) :
    codeAny (model prog w) A (.compLoop (.ListComp elt [⟨target, iter, [], 0⟩] scope pos) 0 it acc env) R s := by
  refine codeAny_loop rfl I (fun n s hI => ?_) n h
  show wpAny _ _ ((compTurn (.ListComp elt [⟨target, iter, [], 0⟩] scope pos) 0 it acc env).onRaise (fun x => do noteFrame x env; theTreesLotGoes x)) _ _ s
  refine wpAny_noted ?_
  rw [compTurn_list1]
  refine wpAny_bind (wpAny_standAt (wpAny_bind (wpAny_mono (turn n s hI) (fun r s₁ h₁ => ?_) fun _ _ h' => h')))
  cases r with
  | none => exact wpAny_pure h₁
  | some v =>
    exact wpAny_bind (wpAny_mono h₁ (fun _ s₁ h₁ => wpAny_bind (wpAny_mono h₁ (fun _ s₂ h₂ => wpAny_bind (wpAny_bind (wpAny_mono h₂ (fun x s₃ h₃ => wpAny_bind (wpAny_mono h₃
      (fun _ s₄ h₄ => wpAny_pure (wpAny_pure ⟨rfl, h₄⟩)) fun _ _ h' => h')) fun _ _ h' => h'))) fun _ _ h' => h')) fun _ _ h' => h')
end
def rF (X : Cx) (ifs : List Expr) (tc : TT) : Prop := match ifs with
 | [] => tc = fun _ H Q => Q true H
 | [c] => PT X c tc
 | _ => False
section
variable {X : Cx}
theorem vB {scope : Scope} {ys : List Str} {is : List Nat} (h : gU X scope ys is) : is.length = ys.length := by
 induction h with
 | nil => rfl
 | cons _ _ _ _ ih => simp [ih]
theorem nL {scope : Scope} {ys : List Str} {is : List Nat} (h : gU X scope ys is) {y : Str} (hy : y ∈ ys) : X.env.kindOf y = some .cell ∨ X.env.kindOf y = some .free := by
  induction h with
  | nil => cases hy
  | cons _ h2 _ _ ih =>
    rcases List.mem_cons.mp hy with e | e
    · rw [e]; exact h2
    · exact ih e
theorem nH {elt iter : Expr} {ifs : List Expr} {x : Str} {px pos : Pos} {scope : Scope} {ys : List Str} {is : List Nat} {tc : TT} {te : TE} {pins : List (Addr × Obj)} {σ : St} {H2 : Hp} {s2 : Shared} {it : Addr} {fp : List Addr} {tn : Nat → Heap → Prop} {J : It} {E : Value → Shared → Prop} {Q : VK} {RR : Value → Addr → Result → Shared → Prop}
    (hc : X.calm = true) (S : gb scope x ys) (hcap : gU X scope ys is)
    (hif : ∀ C s H fp, rF (bL X scope C (x :: ys) s H fp) ifs tc) (he : ∀ C s H fp, PE (bL X scope C (x :: ys) s H fp) elt te)
    (I2 : Inv X pins σ H2 s2) (T : lF X.prog X.w X.K (.Name x px) J fp it tn) (st2 : tn 0 s2.heap) (f2 : ∀ b ∈ fp, kg X pins H2 b)
    (hW : ∀ D, H2 D = none → ∃ W : Nat → Nat → List V → Hp → Prop, (∃ m, W 0 m [] (upd H2 D (.lst []))) ∧
      ∀ i m ys H2, W i m ys H2 → (J.stop i H2 ∧ Q (.ref D) H2) ∨ (J.go i H2 ∧ ∀ x H3, J.yld i H2 x H3 → tc (some x :: bZ σ is) H3 fun b H4 => if b = true then
        te (some x :: bZ σ is) H4 fun y H5 => H5 D = some (.lst ys) ∧ ys.length < sizeLine ∧ ∃ m', m' < m ∧ W (i + 1) m' (ys ++ [y]) (upd H5 D (.lst (ys ++ [y])))
        else ∃ m', m' < m ∧ W (i + 1) m' ys H4))
    (hRR : ∀ D C H' s', (X.s₀.heap.objs.size ≤ C ∧ ∀ p ∈ X.pn ++ pins, p.1 ≠ C) → (∃ m, s'.heap.Ns C m) → C ≠ X.env.locals → H' C = none → Inv X pins σ H' s' → (∀ h', Heap.SameBut C s'.heap h' → Inv X pins σ H' { s' with heap := h' }) → Q (.ref D) H' → RR (.ref D) C (.ok .next) s') :
    wpAny (model X.prog X.w) X.A (newList []) (fun acc s₃ => wpAny (model X.prog X.w) X.A (newFunctionEnv scope X.env.globals (dW scope.names X.env.cells []) [] X.env.qual none .none (some X.env)) (fun cenv s₄ =>
      codeAny (model X.prog X.w) X.A (.compStart (.ListComp elt [⟨.Name x px, iter, ifs, 0⟩] scope pos) 0 (.ref it) acc { cenv with scope := relabel scope X.env }) (RR acc cenv.locals) s₄) E s₃) E s2 := by
  have hf2 : H2 s2.heap.objs.size = none := I2.fresh
  refine wpAny_newObj_type (wpAny_newFunctionEnv S.nocell (by intro y hy; simp at hy) (fun h₁ hns₁ hsb₁ => ?_) S.kind)
  dsimp only at hns₁ hsb₁ ⊢
  have I3 : Inv X pins σ (upd H2 s2.heap.objs.size (.lst [])) { s2 with heap := s2.heap.push { cls := .type "list", data := .seq ([] : List Value).toArray } } := I2.lnew (t' := s2.toks) (ys := []) .nil (Nat.zero_le _)
  obtain ⟨W, ⟨m0, w0⟩, turn⟩ := hW _ hf2
  generalize hD : s2.heap.objs.size = D at I3 w0 turn hf2 ⊢
  generalize hs3 : ({ s2 with heap := s2.heap.push { cls := .type "list", data := .seq ([] : List Value).toArray } } : Shared) = s3 at I3
  have hp3 : s2.heap.push { cls := .type "list", dict := none, data := .seq ([] : List Value).toArray } = s3.heap := by rw [← hs3]
  rw [hp3] at hns₁ hsb₁ ⊢
  have tk3 : s2.toks = s3.toks := by rw [← hs3]
  generalize hH3 : upd H2 D (.lst []) = H3 at I3 w0
  generalize hC : s3.heap.objs.size = C at hns₁ hsb₁ ⊢
  have keep2 : ∀ b o, s2.heap.get? b = some o → s3.heap.get? b = some o := fun b o e => by rw [← hp3]; exact Heap.get?_push_of_some _ e
  have keep3 : ∀ b o, s3.heap.get? b = some o → h₁.get? b = some o := fun b o e => hsb₁.extBut b o (by rw [← hC]; exact Nat.ne_of_lt (Heap.lt_size e)) (Heap.get?_push_of_some _ e)
  have st3 : tn 0 s3.heap := T.keep _ _ _ st2 fun b _ o e => keep2 b o e
  have st4 : tn 0 h₁ := T.keep _ _ _ st3 fun b _ o e => keep3 b o e
  have fp3 : ∀ b ∈ fp, H3 b = none ∧ b < C := fun b hb => by
    obtain ⟨o, e, _⟩ := T.obj _ _ st2 b hb
    refine ⟨?_, by rw [← hC]; exact Heap.lt_size (keep2 b o e)⟩
    rw [← hH3, aK (by rw [← hD]; exact Nat.ne_of_lt (Heap.lt_size e))]
    exact (f2 b hb).1
  have hcells : ∀ {z : Str} {c : Addr}, (dW scope.names X.env.cells []).lookup z = some c → X.env.cells.lookup z = some c := fun h => nE (fun _ _ q => by cases q) h
  have hX : (bL X scope C (x :: ys) s3 H3 fp).Ok := by
    refine ⟨I3.ok.mod, S.kind, I3.ok.glob, I3.ok.blt, Nat.le_of_eq hC, fun y z c h1 h2 => I3.ok.inj y z c (hcells h1) (hcells h2), fun y hy => ?_, fun y c h _ => absurd (show false = true from h) Bool.false_ne_true, I3.ok.hd, I3.ok.frames, .inl rfl, fun b hb => ⟨Nat.ne_of_lt (fp3 b hb).2, fun y c h => (f2 b hb).2.2.2.2.1 y c (hcells h)⟩, fun b o e => I3.bs b o e, Nat.le_trans I3.ok.bsz I3.sz, fun b o e hb => ?_, fun b hb z => ?_, I3.stack, I3.stkFree⟩
    · have hy : (relabel scope X.env).names.lookup y = some .cell ∨ (relabel scope X.env).names.lookup y = some .free := hy
      have hm : (y, NameKind.free) ∈ scope.names := by
        rcases hy with q | q
        · exact iW S.nocell q (.inl rfl)
        · exact iW S.nocell q (.inr rfl)
      have hs : ∃ c, X.env.cells.lookup y = some c := by
        by_cases hk : X.env.kindOf y = some .cell ∨ X.env.kindOf y = some .free
        · exact I3.ok.has y hk
        · exact absurd (nL hcap (S.all _ hm rfl)) hk
      exact Option.isSome_iff_exists.mp (jX hm (Option.isSome_iff_exists.mpr hs))
    · rcases (f2 b hb).2.2.2.1 with z | z
      · exact I3.ok.noex b o e z
      · exact absurd (Nat.lt_of_lt_of_le (Heap.lt_size e) (Nat.le_trans I3.ok.bsz z)) (Nat.lt_irrefl _)
    · rcases List.mem_cons.mp (I3.stkSub b z) with q | q
      · exact (f2 b hb).2.1 q
      · exact (f2 b hb).2.2.1 q
  have I4 : Inv (bL X scope C (x :: ys) s3 H3 fp) [] (none :: bZ σ is) H3 { s2 with heap := h₁, toks := s2.toks + ([] : List (Str × Value)).length } := by
    obtain ⟨m3, hm3, hl3⟩ := id I3.loc
    refine ⟨hX, ?_, ?_, Un.kept keep3, ⟨_, hns₁, fun i y v e1 e2 e3 => ?_⟩, fun y c e => ?_, ?_, fun y c e => I3.freeC y c (hcells e), fun p hp => absurd (show p ∈ ([] : List (Addr × Obj)) from hp) (by simp), I3.hok.kept keep3, ?_⟩
    · show s2.os = s3.os
      rw [← hs3]
    · have := I2.bare; exact this
    · cases i with
      | zero => simp at e2
      | succ j =>
        obtain ⟨u, r, hfr, c, ec, ic⟩ := uc hcap hl3 trivial j y v (by have e1' : (x :: ys)[j + 1]? = some y := e1; simpa using e1') (by simpa using e2)
        have hk := pI (env := X.env) hfr
        obtain ⟨c', ec'⟩ := Option.isSome_iff_exists.mp (jX (cs := []) (lR hfr) (by rw [ec]; rfl) (cells := X.env.cells))
        have : c' = c := by have := hcells ec'; rw [ec] at this; exact (Option.some.inj this).symm
        subst this
        obtain ⟨o, ho, hd⟩ := ic
        exact ⟨u, r, .inr ⟨hk, c', ec', o, keep3 _ _ ho, hd⟩⟩
    · obtain ⟨v, o, ho, hd⟩ := I3.cell y c (hcells e)
      exact ⟨v, o, keep3 _ _ ho, hd⟩
    · have := I3.hok.fresh (a := C) (Nat.le_of_eq hC)
      exact this
    · have := vB hcap
      show (none :: bZ σ is).length = (x :: ys).length
      simp [bZ, this]
  have lenσ : ∀ v : Option V, (v :: bZ σ is).set 0 = fun w => w :: bZ σ is := fun v => rfl
  have hown : (relabel scope X.env).names.lookup x = some .local := ou S.own
  have loop : codeAny (model X.prog X.w) X.A (.compLoop (.ListComp elt [⟨.Name x px, iter, ifs, 0⟩] scope pos) 0 (.ref it) (.ref D) (compEnvC scope (dW scope.names X.env.cells []) C X.env)) (RR (.ref D) C)
      { s2 with heap := h₁, toks := s2.toks + ([] : List (Str × Value)).length } := by
    have fin : ∀ {H' : Hp} {v : Option V} {s' : Shared}, Inv (bL X scope C (x :: ys) s3 H3 fp) [] (v :: bZ σ is) H' s' → Q (.ref D) H' → RR (.ref D) C (.ok .next) s' := fun {H' v s'} J q => by
      obtain ⟨m', hm', _⟩ := J.loc
      have hCL : C ≠ X.env.locals := Ne.symm (by rw [← hC]; exact Nat.ne_of_lt I3.lt)
      have back : ∀ h', Heap.SameBut C s'.heap h' → Inv X pins σ H' { s' with heap := h' } := fun h' hs' => by
        have os' : s'.os = s3.os := J.os
        refine I3.call' (s' := { s' with heap := h' }) (ch := fp) os' ⟨fun b o e n hb hx => ?_, fun b o e n hb hx => ?_, fun b o e n hx => J.base.free b o e n hx, fun b o e hx => ?_, J.base.tups, J.base.frzs, J.base.tbls⟩ (fun b o e => ?_) J.bare fun b hb => ?_
        · exact hs'.extBut b o (by rw [← hC]; exact Nat.ne_of_lt (Heap.lt_size e)) (J.base.keep b o e n hb hx)
        · obtain ⟨sl, e1⟩ := J.base.slot b o e n hb hx
          exact ⟨sl, hs'.extBut b _ (by rw [← hC]; exact Nat.ne_of_lt (Heap.lt_size e)) e1⟩
        · obtain ⟨o', e1⟩ := J.base.there b o e hx
          exact ⟨o', hs'.extBut b _ (by rw [← hC]; exact Nat.ne_of_lt (Heap.lt_size e)) e1⟩
        · refine (J.hok b o e).stay (fun c w' hc q => (hs'.2 c ?_).trans q) (fun _ q => q) fun _ _ q => q
          have fC : H' C = none := J.free
          rintro rfl
          rcases hc with rfl | hc
          · rw [fC] at e; cases e
          · rw [fC] at hc; cases hc
        · obtain ⟨_, a1, _, a2, a3, a4⟩ := f2 b hb
          exact ⟨a2, a1, a3, a4⟩
      refine hRR D C H' s' ⟨by rw [← hC]; exact I3.sz, fun p hp => by rw [← hC]; exact Nat.ne_of_lt (Heap.lt_size (I3.pin p hp).1)⟩ ⟨m', hm'⟩ hCL J.free ?_ back q
      have := back s'.heap (.refl ..)
      exact this
    have stat : ∀ {H' : Hp}, (∀ b ∈ fp, H' b = none) → ∀ b ∈ fp, kg (bL X scope C (x :: ys) s3 H3 fp) [] H' b := fun hn b hb => by
      obtain ⟨_, a1, a5, a2, a3, a4⟩ := f2 b hb
      refine ⟨hn b hb, Nat.ne_of_lt (fp3 b hb).2, fun z => ?_, .inl hb, fun y c e => a3 y c (hcells e), fun p hp => absurd (show p ∈ ([] : List (Addr × Obj)) from hp) (by simp)⟩
      rcases List.mem_cons.mp (I3.stkSub b z) with q | q
      · exact a1 q
      · exact a5 q
    have turnAt : ∀ n s, (∃ i v ys' H', Inv (bL X scope C (x :: ys) s3 H3 fp) [] (v :: bZ σ is) H' s ∧ tn i s.heap ∧ (∀ b ∈ fp, H' b = none) ∧ W i n ys' H') →
        wpAny (model X.prog X.w) X.A (pyNext (.ref it)) (fun r s₁ => match r with
          | none => RR (.ref D) C (.ok .next) s₁
          | some u => wpAny (model X.prog X.w) X.A (letOwnedTupleGo (.Name x px) (.ref it) u) (fun _ s₁ => wpAny (model X.prog X.w) X.A (assign (.Name x px) (compEnvC scope (dW scope.names X.env.cells []) C X.env) u) (fun _ s₂ =>
            ∃ (xx : V) (i : Nat) (ys' : List V) (H3' H6 : Hp) (pl : List (Addr × Obj)), Inv (bL X scope C (x :: ys) s3 H3 fp) ([] ++ pl) (some xx :: bZ σ is) H6 s₂ ∧
              (∀ s7 v7 H7, Inv (bL X scope C (x :: ys) s3 H3 fp) ([] ++ pl) (v7 :: bZ σ is) H7 s7 → Inv (bL X scope C (x :: ys) s3 H3 fp) [] (v7 :: bZ σ is) H7 s7 ∧ tn (i + 1) s7.heap ∧ ∀ b ∈ fp, H7 b = none) ∧
              (tc (some xx :: bZ σ is) H6 fun b H4 => if b = true then te (some xx :: bZ σ is) H4 fun y H5 => H5 D = some (.lst ys') ∧ ys'.length < sizeLine ∧ ∃ m', m' < n ∧ W (i + 1) m' (ys' ++ [y]) (upd H5 D (.lst (ys' ++ [y])))
                else ∃ m', m' < n ∧ W (i + 1) m' ys' H4)) (fun _ _ => False) s₁) (fun _ _ => False) s₁) (fun _ _ => False) s := by
      rintro n s ⟨i, v, ys', H', J, st, fr, w'⟩
      rcases turn i n ys' H' w' with ⟨stop, qn⟩ | ⟨go, step⟩
      · refine thn (T.done (bL X scope C (x :: ys) s3 H3 fp) rfl rfl rfl hc i [] s _ H' (fun _ _ => False) J (stat fr) st stop) fun r s4 ⟨hr, J4⟩ => ?_
        subst hr
        exact fin J4 qn
      · refine thn (T.item (bL X scope C (x :: ys) s3 H3 fp) rfl rfl rfl hc i [] s _ H' (fun _ _ => False) J (stat fr) st go) fun r s4 ⟨u, hr, h4⟩ => ?_
        subst hr
        refine thn h4 fun _ s5 ⟨xx, H5, J5, r5, y5, st5, fr5⟩ => ?_
        have J5' := J5.pinned (stat fr5) (T.obj _ _ st5)
        refine wpAny_assign_Name (fR (i := 0) J5' S.nd rfl (.inl hown) r5 (fun s6 J6 => ?_) (.inr hown))
        refine ⟨xx, i, ys', H5, H5, ki fp s5.heap, J6, fun s7 v7 H7 J7 => ⟨J7.unpinned, T.keep _ _ _ st5 fun b hb o e => (J7.pin (b, o) (List.mem_append_right _ (List.mem_append_right _ (hV hb e)))).1, fun b hb => ?_⟩, step xx H5 y5⟩
        obtain ⟨o, e, d⟩ := T.obj _ _ st5 b hb
        exact (J7.pin (b, o) (List.mem_append_right _ (List.mem_append_right _ (hV hb e)))).2.1
    have start0 : ∃ i v ys' H', Inv (bL X scope C (x :: ys) s3 H3 fp) [] (v :: bZ σ is) H' { s2 with heap := h₁, toks := s2.toks + ([] : List (Str × Value)).length } ∧ tn i h₁ ∧ (∀ b ∈ fp, H' b = none) ∧ W i m0 ys' H' :=
      ⟨0, none, [], H3, I4, st4, fun b hb => (fp3 b hb).1, w0⟩
    have emit : ∀ (n : Nat) (xx : V) (i : Nat) (ys' : List V) (H4 : Hp) (pl : List (Addr × Obj)) (s₂ : Shared), Inv (bL X scope C (x :: ys) s3 H3 fp) ([] ++ pl) (some xx :: bZ σ is) H4 s₂ →
        (∀ s7 v7 H7, Inv (bL X scope C (x :: ys) s3 H3 fp) ([] ++ pl) (v7 :: bZ σ is) H7 s7 → Inv (bL X scope C (x :: ys) s3 H3 fp) [] (v7 :: bZ σ is) H7 s7 ∧ tn (i + 1) s7.heap ∧ ∀ b ∈ fp, H7 b = none) →
        (te (some xx :: bZ σ is) H4 fun y H5 => H5 D = some (.lst ys') ∧ ys'.length < sizeLine ∧ ∃ m', m' < n ∧ W (i + 1) m' (ys' ++ [y]) (upd H5 D (.lst (ys' ++ [y])))) →
        wpAny (model X.prog X.w) X.A (eval elt (compEnvC scope (dW scope.names X.env.cells []) C X.env)) (fun y s₃ => wpAny (model X.prog X.w) X.A (call (.builtin "list.append") [.ref D, y]) (fun _ s₄ =>
          ∃ m, m < n ∧ ∃ i v ys' H', Inv (bL X scope C (x :: ys) s3 H3 fp) [] (v :: bZ σ is) H' s₄ ∧ tn i s₄.heap ∧ (∀ b ∈ fp, H' b = none) ∧ W i m ys' H') (fun _ _ => False) s₃) (fun _ _ => False) s₂ := by
      intro n xx i ys' H4 pl s₂ J2 back q
      refine thn (he C s3 H3 fp ([] ++ pl) s₂ _ H4 _ J2 q) fun y s₃ ⟨yv, H5, J3, r3, q1, q2, q3⟩ => ?_
      refine thn (eL (X := bL X scope C (x :: ys) s3 H3 fp) ([] ++ pl) s₃ _ H5 (.ref D) [yv] (.ref D) [y] (fun v H7 => v = .non ∧ H7 = upd H5 D (.lst (ys' ++ [yv]))) J3 rfl (.cons r3 .nil) ⟨D, ys', yv, rfl, rfl, q1, q2, rfl, rfl⟩) fun _ s₄ ⟨_, H7, J4, _, _, e7⟩ => ?_
      subst e7
      obtain ⟨m', hm', w'⟩ := q3
      obtain ⟨b1, b2, b3⟩ := back s₄ _ _ J4
      exact ⟨m', hm', i + 1, some xx, ys' ++ [yv], _, b1, b2, b3, w'⟩
    have ex0 : ∀ {α : Type} {t : Sem α} {Q' : α → Shared → Prop} {E' : Value → Shared → Prop} {s : Shared}, wpAny (model X.prog X.w) X.A t Q' (fun _ _ => False) s → wpAny (model X.prog X.w) X.A t Q' E' s := fun h => wpAny_mono h (fun _ _ q => q) fun _ _ q => q.elim
    cases ifs with
    | nil =>
      have htc : tc = fun _ H Q => Q true H := hif C s3 H3 fp
      subst htc
      refine jN (fun n s => ∃ i v ys' H', Inv (bL X scope C (x :: ys) s3 H3 fp) [] (v :: bZ σ is) H' s ∧ tn i s.heap ∧ (∀ b ∈ fp, H' b = none) ∧ W i n ys' H') (fun n s hI => ?_) m0 start0
      refine wpAny_mono (turnAt n s hI) (fun r s₁ h₁ => ?_) fun _ _ q => q.elim
      cases r with
      | none => exact h₁
      | some u =>
        refine wpAny_mono h₁ (fun _ s₁ h₁ => wpAny_mono h₁ (fun _ s₂ h₂ => ?_) fun _ _ q => q.elim) fun _ _ q => q.elim
        obtain ⟨xx, i, ys', _, H6, pl, J2, back, q⟩ := h₂
        dsimp only at q
        rw [if_pos rfl] at q
        exact wpAny_mono (emit n xx i ys' H6 pl s₂ J2 back q) (fun y s₃ h₃ => ex0 h₃) fun _ _ q => q.elim
    | cons c r0 =>
      cases r0 with
      | cons _ _ => exact (hif C s3 H3 fp).elim
      | nil =>
        have hpt : PT (bL X scope C (x :: ys) s3 H3 fp) c tc := hif C s3 H3 fp
        refine jO (fun n s => ∃ i v ys' H', Inv (bL X scope C (x :: ys) s3 H3 fp) [] (v :: bZ σ is) H' s ∧ tn i s.heap ∧ (∀ b ∈ fp, H' b = none) ∧ W i n ys' H') (fun n s hI => ?_) m0 start0
        refine wpAny_mono (turnAt n s hI) (fun r s₁ h₁ => ?_) fun _ _ q => q.elim
        cases r with
        | none => exact h₁
        | some u =>
          refine wpAny_mono h₁ (fun _ s₁ h₁ => wpAny_mono h₁ (fun _ s₂ h₂ => ?_) fun _ _ q => q.elim) fun _ _ q => q.elim
          obtain ⟨xx, i, ys', _, H6, pl, J2, back, q⟩ := h₂
          refine wpAny_mono (hpt ([] ++ pl) s₂ _ H6 _ J2 q) (fun b s₃ h₃ => ?_) fun _ _ q => q.elim
          obtain ⟨H4, J4, q4⟩ := h₃
          cases b with
          | true =>
            rw [if_pos rfl] at q4 ⊢
            exact wpAny_mono (emit n xx i ys' H4 pl s₃ J4 back q4) (fun y s₃ h₃ => ex0 h₃) fun _ _ q => q.elim
          | false =>
            rw [if_neg Bool.false_ne_true] at q4 ⊢
            obtain ⟨m', hm', w'⟩ := q4
            obtain ⟨b1, b2, b3⟩ := back s₃ _ _ J4
            exact ⟨m', hm', i + 1, some xx, ys', _, b1, b2, b3, w'⟩
  exact codeAny_compStart_list loop (T.self X.A 0 _ _ _ st4 loop)
end
end L2
namespace L2
open PySem PySem.Spec PyProof.Rows
section
variable {X : Cx}
theorem qS {scope : Scope} {x : Str} {ys : List Str} {is : List Nat} (ok : X.Ok) (S : gb scope x ys) (hcap : gU X scope ys is) : closureFor scope X.env = pure (dW scope.names X.env.cells []) :=
 qf fun y hy hk => by
  obtain ⟨c, e⟩ := ok.has y.1 (nL hcap (S.all y hy hk))
  rw [e]; rfl
theorem zo {elt iter : Expr} {ifs : List Expr} {x : Str} {px pos : Pos} {scope : Scope} {ys : List Str} {is : List Nat} {wi : TI} {tc : TT} {te : TE}
  (hc : X.calm = true) (S : gb scope x ys) (hcap : gU X scope ys is) (hi : PI X (.Name x px) iter wi)
  (hif : ∀ C s H fp, rF (bL X scope C (x :: ys) s H fp) ifs tc) (he : ∀ C s H fp, PE (bL X scope C (x :: ys) s H fp) elt te)
  (hs : ∀ x, foldedSetIterable iter X.env x = pure x := by intro _; rfl) : PE X (.ListComp elt [⟨.Name x px, iter, ifs, 0⟩] scope pos) (hU is wi tc te) := by
 intro pins s σ H Q I h
 rw [eval_ListComp]
 refine wpAny_comprehension_free (use := none) rfl hs (qS I.ok S hcap) S.kind S.names (thn (hi pins s σ H _ I h) fun v s1 h1 => thn h1 fun itv s2 h2 => ?_)
 obtain ⟨it, fp, tn, J, H2, rfl, I2, T, st2, f2, hW⟩ := h2
 refine nH (RR := fun acc C => compPost (model X.prog X.w) X.A X.xe none (EP X pins σ Q) acc C) hc S hcap hif he I2 T st2 f2 hW ?_
 intro D C H' s' hlt hns hne hfr I' back q
 obtain ⟨m, hm⟩ := hns
 exact ⟨m, hm, fun h' hs' => ⟨.ref D, H', back h' hs', rfl, q⟩⟩
theorem sN {elt iter : Expr} {ifs : List Expr} {x y : Str} {px py pos spos : Pos} {scope : Scope} {ys : List Str} {is : List Nat} {wi : TI} {tc : TT} {te : TE} {j : Nat}
  (hN : X.N.Nodup) (hj : X.N[j]? = some y) (hy : Loc X.env.scope y)
  (hc : X.calm = true) (S : gb scope x ys) (hcap : gU X scope ys is) (hi : PI X (.Name x px) iter wi)
  (hif : ∀ C s H fp, rF (bL X scope C (x :: ys) s H fp) ifs tc) (he : ∀ C s H fp, PE (bL X scope C (x :: ys) s H fp) elt te)
  (hsw : swapsWith (.ListComp elt [⟨.Name x px, iter, ifs, 0⟩] scope pos) (some (.Name y py)) spos.line X.env = pure true := by rfl)
  (hf : X.fn y = true ∨ X.env.scope.names.lookup y = some .local := by first | exact .inl rfl | exact .inr rfl | assumption)
  (hs : ∀ x, foldedSetIterable iter X.env x = pure x := by intro _; rfl) : PS X (.Assign [.Name y py] (.ListComp elt [⟨.Name x px, iter, ifs, 0⟩] scope pos) spos) (aB (hU is wi tc te) (ar j)) := by
 intro pins s σ H D I h
 rw [exec_Assign_Name_used _ _ _ _ hsw]
 refine wpAny_bind (wpAny_standAt (wpAny_bind ?_))
 show wpAny _ X.A (do let _ ← comprehension (.ListComp elt [⟨.Name x px, iter, ifs, 0⟩] scope pos) scope X.env _ (newList []) false (eval iter X.env) (some (assign (.Name y py) X.env))) _ _ s
 refine wpAny_bind (wpAny_mono (wpAny_comprehension_free (use := some (assign (.Name y py) X.env)) (Q := fun _ s' => SP X pins D .next s') rfl hs (qS I.ok S hcap) S.kind S.names
  (thn (hi pins s σ H _ I h) fun v s1 h1 => thn h1 fun itv s2 h2 => ?_)) (fun _ s' hq => wpAny_pure (wpAny_pure hq)) fun _ _ e => e)
 obtain ⟨it, fp, tn, J, H2, rfl, I2, T, st2, f2, hW⟩ := h2
 refine nH (Q := fun x H1 => ar j x σ H1 D.nx) (RR := fun acc C => compPost (model X.prog X.w) X.A X.xe (some (assign (.Name y py) X.env)) (fun _ s' => SP X pins D .next s') acc C) hc S hcap hif he I2 T st2 f2 hW ?_
 intro Da C H' s' hlt hns hne hfr I' back q
 show wpAny _ X.A (assign (.Name y py) X.env (.ref Da)) _ _ _
 obtain ⟨m, hm⟩ := hns
 refine wpAny_assign_Name (nD I' hN hj hy (v := .ref Da) rfl (fun s2 I2' ⟨a, hsb, ha⟩ => ?_) hf)
 have hCa : C ≠ a := by
  rcases ha with e | e
  · rw [e]; exact hne
  · rintro rfl
    obtain ⟨v, o, ho, hd⟩ := I'.cell y C e
    obtain ⟨o2, es, ep, ho2, hd2, _⟩ := hm
    rw [ho] at ho2; cases ho2; rw [hd] at hd2; cases hd2
 refine ⟨m, hm.sameBut hsb hCa, fun h' hs' => ?_⟩
 have hCn : ∀ y c, X.env.cells.lookup y = some c → c ≠ C := fun z c e q => by
  subst q
  obtain ⟨v, o, ho, hd⟩ := I'.cell z c e
  obtain ⟨o2, es, ep, ho2, hd2, _⟩ := hm
  rw [ho] at ho2; cases ho2; rw [hd] at hd2; cases hd2
 have I3 : Inv X pins (σ.set j (some (.ref Da))) H' { s2 with heap := h' } := by
  refine I2'.step (g' := s2.gens) (d' := s2.drawn) (t' := s2.toks) (ch := [C]) (fun b hb => ?_) (fun b o _ _ hb e _ => (hs'.2 b (fun z => hb (by simp [z]))).trans e) (fun b o _ _ hb e _ => ⟨o.slots, (hs'.2 b (fun z => hb (by simp [z]))).trans e⟩) (fun _ _ _ _ n => n) (fun b o hb e => ⟨o, (hs'.2 b (fun z => hb (by simp [z]))).trans e⟩)
    (fun _ _ e => e) (fun _ _ _ e => e) (fun b ps e => ⟨#[], by rw [e]; simp⟩) (fun m' hm' => hm'.sameBut hs' (Ne.symm hne)) (fun b o e => ?_) I2'.bare
  · have e : b = C := by simpa using hb
    subst e
    exact ⟨.inr hlt.1, hne, fun z c e => hCn z c e, hlt.2⟩
  · refine (I2'.hok b o e).stay (fun c w' hc q => (hs'.2 c ?_).trans q) (fun _ q => q) fun _ _ q => q
    rintro rfl
    rcases hc with rfl | hc
    · rw [hfr] at e; cases e
    · rw [hfr] at hc; cases hc
 exact ⟨_, H', I3, q⟩
end
end L2
namespace L2
open PySem PySem.Spec PyProof.Rows
def tyN (H : Hp) : V → Option String
  | .non => some "NoneType"
  | .bl _ => some "bool"
  | .int _ => some "int"
  | .str _ => some "str"
  | .ref a => match H a with
    | some (.lst _) => some "list"
    | some (.frz _ (.lst _)) => some "list"
    | some (.tup _) => some "tuple"
    | some (.dK _) => some "dict"
    | some (.dT _) => some "dict"
    | _ => none
  | _ => none
theorem Ba {K : W.Frag} {H : Hp} {x : V} {t : String} (h : tyN H x = some t) : gD K H x (.type t) := by
  cases x with
  | non => cases h; exact .non
  | bl b => cases h; exact .bl b
  | int i => cases h; exact .int i
  | str x => cases h; exact .str x
  | byt _ => cases h
  | flt _ => cases h
  | ty _ => cases h
  | ref a =>
    unfold tyN at h
    dsimp only at h
    split at h
    · rename_i e; cases h; exact .lst e
    · rename_i e; cases h; exact .frz e
    · rename_i e; cases h; exact .tup e
    · rename_i e; cases h; exact .dK e
    · rename_i e; cases h; exact .dT e
    · cases h
def tyL : List String := ["NoneType", "bool", "int", "str", "list", "tuple", "dict"]
theorem CA {H : Hp} {x : V} {t : String} (h : tyN H x = some t) : t ∈ tyL := by
  cases x with
  | non => cases h; decide
  | bl b => cases h; decide
  | int i => cases h; decide
  | str x => cases h; decide
  | byt _ => cases h
  | flt _ => cases h
  | ty _ => cases h
  | ref a =>
    unfold tyN at h
    dsimp only at h
    split at h <;> first | (cases h; decide) | cases h
def isI (t T : String) : Bool := t == T || (T == "int" && t == "bool")
theorem AT (K : W.Frag) : ∀ t ∈ tyL, ∀ T ∈ ["int", "bool", "str", "tuple", "list", "dict"], W.kitOne K (.type t) (.type T) = some (isI t T) := by
 intro t ht T hT
 simp only [tyL, List.mem_cons, List.not_mem_nil, or_false] at ht hT
 rcases ht with rfl | rfl | rfl | rfl | rfl | rfl | rfl <;> rcases hT with rfl | rfl | rfl | rfl | rfl | rfl <;> (unfold W.kitOne; first | rfl | decide +kernel | (simp only [W.kitCls]; rfl))
section
variable {X : Cx}
theorem vz : cm X (.builtin "isinstance") (fun xs H Q => ∃ x T t, xs = [x, .ty T] ∧ T ∈ ["int", "bool", "str", "tuple", "list", "dict"] ∧ tyN H x = some t ∧ Q (.bl (isI t T)) H) := by
 intro pins s σ H xs us Q I r h
 obtain ⟨x, T, t, rfl, hT, ht, q⟩ := h
 obtain ⟨u, w', rfl, r1, r2⟩ := oX r
 cases r2
 exact uR I r1 (Ba ht) (AT X.K t (CA ht) T hT) fun tk => ⟨.bl _, H, I.tok tk, rfl, q⟩
end
end L2
namespace L2
open PySem PySem.Spec PyProof.Rows
section
variable {X : Cx}
end
end L2
namespace L2
open PySem PySem.Spec PyProof.Rows
@[irreducible] def Sel (b : Bool) (A B : Prop) : Prop := if b = true then A else B
theorem Sel.mk {b : Bool} {A B : Prop} (h1 : b = true → A) (h2 : b = false → B) : Sel b A B := by
 unfold Sel
 cases b with
 | true => exact h1 rfl
 | false => exact h2 rfl
theorem Sel.t {A B : Prop} (h : A) : Sel true A B := .mk (fun _ => h) fun e => by cases e
theorem Sel.f {A B : Prop} (h : B) : Sel false A B := .mk (fun e => by cases e) fun _ => h
theorem Sel.dec {p A B : Prop} [Decidable p] (h1 : p → A) (h2 : ¬ p → B) : Sel (decide p) A B := .mk (fun e => h1 (of_decide_eq_true e)) fun e => h2 (of_decide_eq_false e)
theorem Sel.ndec {p A B : Prop} [Decidable p] (h1 : ¬ p → A) (h2 : p → B) : Sel (!decide p) A B := .mk (fun e => h1 (by simpa using e)) fun e => h2 (by simpa using e)
theorem Sel.yes {b : Bool} {A B : Prop} (e : b = true) (h : A) : Sel b A B := by rw [e]; exact .t h
theorem Sel.no {b : Bool} {A B : Prop} (e : b = false) (h : B) : Sel b A B := by rw [e]; exact .f h
theorem fX {b : Bool} {A B : Prop} (h : Sel b A B) : if b = true then A else B := by unfold Sel at h; exact h
def ab (i : Nat) : TE := fun σ H Q => match σ[i]? with | some (some v) => Q v H | _ => False
section
variable {X : Cx}
theorem PE.imp {e : Expr} {t t' : TE} (h : PE X e t) (i : ∀ σ H Q, t' σ H Q → t σ H Q) : PE X e t' := fun pins s σ H Q I q => h pins s σ H Q I (i _ _ _ q)
theorem OpR.imp {f : Value → Value → Sem Value} {r r' : R2} (h : OpR X f r) (i : ∀ x y H Q, r' x y H Q → r x y H Q) : OpR X f r' := fun pins s σ H x y v u Q I rx ry q => h pins s σ H x y v u Q I rx ry (i _ _ _ _ q)
theorem qv (i : Nat) {x : Str} {pos : Pos} (hN : X.N[i]? = some x := by rfl) (hv : Vis X.env.scope x := by first | exact Or.inl rfl | exact Or.inr (Or.inl rfl) | exact Or.inr (Or.inr rfl)) (hd : (x == ("__debug__" : Str)) = false := by decide)
   (hcd : (x == ("__classdict__" : Str)) = false := by decide) : PE X (.Name x pos) (ab i) := (Ck hN hv hd hcd).imp fun σ H Q q => by
 unfold ab at q
 split at q
 · rename_i v e; exact ⟨v, e, q⟩
 · exact q.elim
theorem qgi {x : Str} {i : Int} {pos : Pos} (hm : ∃ t, X.mg x = some (.int i t)) (hg : Gl X x := by rfl) (hd : (x == ("__debug__" : Str)) = false := by decide) : PE X (.Name x pos) (tC (.int i)) := by
 obtain ⟨t, e⟩ := hm
 exact zn hg e ⟨t, rfl⟩ hd
def cB : R2 := fun x y H Q => match x, y with | .int i, .int j => Q (.int (i - j)) H | _, _ => False
theorem dt : OpR X (binaryOp .Sub) cB := Af.imp fun x y H Q q => by
 unfold cB at q
 split at q
 · exact ⟨_, _, rfl, rfl, q⟩
 · exact q.elim
theorem zw : OpR X (binaryOp .Mult) (rI IntMulOk fun i j => .int (i * j)) := opI fun _ _ _ _ _ _ _ hc q => mul_int q hc
def xi : R2 := fun x y H Q => match x, y with
 | .int i, .int j => IntMulOk i j ∧ Q (.int (i * j)) H
 | _, _ => False
theorem Gu : OpR X (binaryOp .Mult) xi := zw.imp fun x y H Q q => by
 unfold xi at q
 split at q
 · exact ⟨_, _, rfl, rfl, q.1, q.2⟩
 · exact q.elim
def ba : R2 := fun x y H Q => match x, y with | .int i, .int j => 0 < j ∧ Q (.int (i % j)) H | _, _ => False
theorem bF : OpR X (binaryOp .Mod) ba := BX.imp fun x y H Q q => by
 unfold ba at q
 split at q
 · exact ⟨_, _, rfl, rfl, q.1, q.2⟩
 · exact q.elim
def qt : R2 := fun x y H Q => match x, y with | .int i, .int j => (0 ≤ j ∧ j ≤ 1000000 ∧ i.natAbs < 2 ^ 64) ∧ Q (.int (i ^ j.toNat)) H | _, _ => False
theorem ww : OpR X (binaryOp .Pow) qt := BD.imp fun x y H Q q => by
 unfold qt at q
 split at q
 · exact ⟨_, _, rfl, rfl, q.1, q.2⟩
 · exact q.elim
def dI : R2 := fun x y H Q => match x, y with | .int i, .int j => (0 ≤ j ∧ j ≤ 1000000 ∧ i.natAbs < 2 ^ 64) ∧ Q (.int (i * 2 ^ j.toNat)) H | _, _ => False
theorem gJ : OpR X (binaryOp .LShift) dI := Bm.imp fun x y H Q q => by
 unfold dI at q
 split at q
 · exact ⟨_, _, rfl, rfl, q.1, q.2⟩
 · exact q.elim
def gS : R2 := fun x y H Q => match x, y with | .int i, .int j => 0 ≤ j ∧ Q (.int (i / 2 ^ j.toNat)) H | _, _ => False
theorem jQ : OpR X (binaryOp .RShift) gS := BV.imp fun x y H Q q => by
 unfold gS at q
 split at q
 · exact ⟨_, _, rfl, rfl, q.1, q.2⟩
 · exact q.elim
def vM : R2 := fun x y H Q => match x, y with | .int i, .int j => Q (.int (Builtin.bitXor i j)) H | _, _ => False
theorem HU : OpR X (binaryOp .BitXor) vM := BY.imp fun x y H Q q => by
 unfold vM at q
 split at q
 · exact ⟨_, _, rfl, rfl, q⟩
 · exact q.elim
def pq : R2 := fun x y H Q => match x, y with | .int i, .int j => Q (.int (Builtin.bitAnd i j)) H | _, _ => False
theorem yi : OpR X (binaryOp .BitAnd) pq := AE.imp fun x y H Q q => by
 unfold pq at q
 split at q
 · exact ⟨_, _, rfl, rfl, q⟩
 · exact q.elim
def mLt : R2 := fun x y H Q => match x, y with | .int i, .int j => Q (.bl (decide (i < j))) H | _, _ => False
theorem oLt : OpR X (compareOp .Lt) mLt := EW.imp fun x y H Q q => by
 unfold mLt at q
 split at q
 · exact ⟨_, _, rfl, rfl, q⟩
 · exact q.elim
def mLe : R2 := fun x y H Q => match x, y with | .int i, .int j => Q (.bl (decide (i ≤ j))) H | _, _ => False
theorem oLe : OpR X (compareOp .LtE) mLe := Dw.imp fun x y H Q q => by
 unfold mLe at q
 split at q
 · exact ⟨_, _, rfl, rfl, q⟩
 · exact q.elim
def mGt : R2 := fun x y H Q => match x, y with | .int i, .int j => Q (.bl (decide (j < i))) H | _, _ => False
theorem oGt : OpR X (compareOp .Gt) mGt := FC.imp fun x y H Q q => by
 unfold mGt at q
 split at q
 · exact ⟨_, _, rfl, rfl, q⟩
 · exact q.elim
def mEq : R2 := fun x y H Q => match x, y with
 | .int i, .int j => Q (.bl (decide (i = j))) H
 | .str i, .str j => Q (.bl (decide (i = j))) H
 | .bl i, .bl j => Q (.bl (decide (i = j))) H
 | .non, .non => Q (.bl true) H
 | .non, .int _ => Q (.bl false) H | .int _, .non => Q (.bl false) H | .non, .bl _ => Q (.bl false) H | .bl _, .non => Q (.bl false) H | .non, .str _ => Q (.bl false) H | .str _, .non => Q (.bl false) H
 | .int _, .str _ => Q (.bl false) H | .str _, .int _ => Q (.bl false) H | .bl _, .str _ => Q (.bl false) H | .str _, .bl _ => Q (.bl false) H
 | _, _ => False
theorem jP {α : Type} [DecidableEq α] {f : α → V} (hf : ∀ a b, f a = f b → a = b) (a b : α) : decide (f a = f b) = decide (a = b) := by
 by_cases h : a = b
 · subst h; simp
 · rw [decide_eq_false h, decide_eq_false fun e => h (hf a b e)]
theorem oEq : OpR X (compareOp .Eq) mEq := DH.imp fun x y H Q q => by
 unfold mEq at q
 split at q
 · exact ⟨rfl, by rw [jP (f := V.int) fun _ _ e => V.int.inj e]; exact q⟩
 · exact ⟨rfl, by rw [jP (f := V.str) fun _ _ e => V.str.inj e]; exact q⟩
 · exact ⟨rfl, by rw [jP (f := V.bl) fun _ _ e => V.bl.inj e]; exact q⟩
 · exact ⟨rfl, by simpa using q⟩
 all_goals first | exact q.elim | exact ⟨rfl, q⟩
def mNe : R2 := fun x y H Q => match x, y with
 | .int i, .int j => Q (.bl (!decide (i = j))) H
 | .str i, .str j => Q (.bl (!decide (i = j))) H
 | .bl i, .bl j => Q (.bl (!decide (i = j))) H
 | .non, .non => Q (.bl false) H
 | .non, .int _ => Q (.bl true) H | .int _, .non => Q (.bl true) H | .non, .bl _ => Q (.bl true) H | .bl _, .non => Q (.bl true) H | .non, .str _ => Q (.bl true) H | .str _, .non => Q (.bl true) H
 | .int _, .str _ => Q (.bl true) H | .str _, .int _ => Q (.bl true) H | .bl _, .str _ => Q (.bl true) H | .str _, .bl _ => Q (.bl true) H
 | _, _ => False
theorem oNe : OpR X (compareOp .NotEq) mNe := DR.imp fun x y H Q q => by
 unfold mNe at q
 split at q
 · exact ⟨rfl, by rw [jP (f := V.int) fun _ _ e => V.int.inj e]; exact q⟩
 · exact ⟨rfl, by rw [jP (f := V.str) fun _ _ e => V.str.inj e]; exact q⟩
 · exact ⟨rfl, by rw [jP (f := V.bl) fun _ _ e => V.bl.inj e]; exact q⟩
 · exact ⟨rfl, by simpa using q⟩
 all_goals first | exact q.elim | exact ⟨rfl, q⟩
def wL : R2 := fun x y H Q => match y with | .non => Q (.bl (match x with | .non => true | _ => false)) H | _ => False
theorem oIs : OpR X (compareOp .Is) wL := Bu.imp fun x y H Q q => by
 unfold wL at q
 split at q
 · refine ⟨rfl, ?_⟩
   cases x <;> simpa using q
 · exact q.elim
def aG (t : TE) : TT := fun σ H Q => t σ H fun x H' => match x with | .bl k => Q k H' | _ => False
theorem qtc {op : CmpOp} {r : R2} {a b : Expr} {ta tb : TE} {pos : Pos} (ho : OpR X (compareOp op) r) (ha : PE X a ta) (hb : PE X b tb) (hm : behindInMarks op b = false := by first | exact mn _ | rfl) : PT X (.Compare a [op] [b] pos) (aG (tOp r ta tb)) := by
 intro pins s σ H Q I h
 refine wpAny_isTrue_Compare1 (thn (ha pins s σ H _ I h) fun v s1 ⟨x, H1, I1, r1, q1⟩ => thn (hb pins s1 σ H1 _ I1 q1) fun u s2 ⟨y, H2, I2, r2, q2⟩ =>
  thn (ho pins s2 σ H2 x y v u _ I2 r1 r2 q2) fun c s3 ⟨z, H3, I3, r3, q3⟩ => ?_) hm
 cases z <;> first | exact q3.elim | (cases r3; exact wpAny_truthy_bool ⟨H3, I3, q3⟩)
theorem qc {op : CmpOp} {r : R2} {a b : Expr} {ta tb : TE} {pos : Pos} (ho : OpR X (compareOp op) r) (ha : PE X a ta) (hb : PE X b tb) (hm : behindInMarks op b = false := by first | exact mn _ | rfl) : PE X (.Compare a [op] [b] pos) (tOp r ta tb) := zb ho ha hb hm
def eh (r r' : R2) (ta tb tc : TE) : TE := fun σ H Q => ta σ H fun x H1 => tb σ H1 fun y H2 => r x y H2 fun z H3 => match z with
 | .bl k => Sel k (tc σ H3 fun w' H4 => r' y w' H4 Q) (Q (.bl false) H3)
 | _ => False
theorem qch {op op' : CmpOp} {r r' : R2} {a b c : Expr} {ta tb tc : TE} {pos : Pos} (ho : OpR X (compareOp op) r) (ho' : OpR X (compareOp op') r') (ha : PE X a ta) (hb : PE X b tb) (hc : PE X c tc)
  (hm : lastMarks [op, op'] [b, c] = false := by with_unfolding_all rfl) : PE X (.Compare a [op, op'] [b, c] pos) (eh r r' ta tb tc) := by
 intro pins s σ H Q I h
 refine Compare_chain (thn (ha pins s σ H _ I h) fun v s1 ⟨x, H1, I1, r1, q1⟩ => chain_link (thn (hb pins s1 σ H1 _ I1 q1) fun u s2 ⟨y, H2, I2, r2, q2⟩ =>
  thn (ho pins s2 σ H2 x y v u _ I2 r1 r2 q2) fun d s3 ⟨z, H3, I3, r3, q3⟩ => ?_)) hm
 cases z <;> first | exact q3.elim | skip
 rename_i k
 cases r3
 refine wpAny_truthy_bool ?_
 have q3 := fX q3
 cases k with
 | false => exact ite_ff ⟨.bl false, H3, I3, rfl, q3⟩
 | true => exact ite_tt (chain_last (thn (hc pins s3 σ H3 _ I3 q3) fun w' s4 ⟨z', H4, I4, r4, q4⟩ => ho' pins s4 σ H4 y z' u w' Q I4 r2 r4 q4))
theorem Ib {op op' : CmpOp} {r r' : R2} {a b c : Expr} {ta tb tc : TE} {pos : Pos} (ho : OpR X (compareOp op) r) (ho' : OpR X (compareOp op') r') (ha : PE X a ta) (hb : PE X b tb) (hc : PE X c tc)
    (hm : lastMarks [op, op'] [b, c] = false := by with_unfolding_all rfl) : PT X (.Compare a [op, op'] [b, c] pos) (aG (eh r r' ta tb tc)) := by
  intro pins s σ H Q I h
  refine isTrue_chain (thn (ha pins s σ H _ I h) fun v s1 ⟨x, H1, I1, r1, q1⟩ => test_link (thn (hb pins s1 σ H1 _ I1 q1) fun u s2 ⟨y, H2, I2, r2, q2⟩ =>
    thn (ho pins s2 σ H2 x y v u _ I2 r1 r2 q2) fun d s3 ⟨z, H3, I3, r3, q3⟩ => ?_)) hm
  cases z <;> first | exact q3.elim | skip
  rename_i k
  cases r3
  refine wpAny_truthy_bool ?_
  have q3 := fX q3
  cases k with
  | false => exact ite_ff ⟨H3, I3, q3⟩
  | true =>
    refine ite_tt (test_last (thn (hc pins s3 σ H3 _ I3 q3) fun w' s4 ⟨z', H4, I4, r4, q4⟩ => thn (ho' pins s4 σ H4 y z' u w' _ I4 r2 r4 q4) fun d' s5 ⟨z2, H5, I5, r5, q5⟩ => ?_))
    cases z2 <;> first | exact q5.elim | (cases r5; exact wpAny_truthy_bool ⟨H5, I5, q5⟩)
def bS (K : W.Frag) (t : TE) : TT := fun σ H Q => t σ H fun x H' => match x with
 | .bl k => Q k H'
 | .non => Q false H'
 | .int i => Q (i != 0) H'
 | x => ∃ k, Dt K x H' k ∧ Q k H'
theorem qtb {e : Expr} {t : TE} (h : PE X e t) (he : ∀ whole, isTrue e X.env whole = (do let v ← whole; standAt e.pos; holding [v] (truthy v)) := by intro _; rfl) : PT X e (bS X.K t) := by
 intro pins s σ H Q I q
 refine isTrue_plain (thn (h pins s σ H _ I q) fun v s1 ⟨x, H1, I1, r1, q1⟩ => Bg pins s1 σ H1 x v Q I1 r1 ?_) (he _)
 cases x <;> first | exact ⟨_, rfl, q1⟩ | exact q1
def gE (t u : TT) : TT := fun σ H Q => t σ H fun c H1 => Sel c (u σ H1 Q) (Q false H1)
def mOr (t u : TT) : TT := fun σ H Q => t σ H fun c H1 => Sel c (Q true H1) (u σ H1 Q)
variable {a b c : Expr} {ta tb : TE} {tA tB' : TT} {ci : List Expr} {pos : Pos}
theorem zh (ha : PT X a tA) : PW X (.BoolOp .And [a] pos) tA := zZ ha
theorem Bv (ha : PT X a tA) : PW X (.BoolOp .Or [a] pos) tA := Ca ha
theorem Ah (ha : PT X a tA) (hb : PW X (.BoolOp .And (b :: ci) pos) tB') : PW X (.BoolOp .And (a :: b :: ci) pos) (gE tA tB') := by
 intro wh pins s σ H Q I h
 refine isTrue_and (thn (ha pins s σ H _ I h) fun c s1 ⟨H1, I1, q1⟩ => ?_)
 have q1 := fX q1
 cases c with
 | true => exact hb wh pins s1 σ H1 Q I1 q1
 | false => exact ⟨H1, I1, q1⟩
theorem Gn (ha : PT X a tA) (hb : PW X (.BoolOp .Or (b :: ci) pos) tB') : PW X (.BoolOp .Or (a :: b :: ci) pos) (mOr tA tB') := by
 intro wh pins s σ H Q I h
 refine isTrue_or (thn (ha pins s σ H _ I h) fun c s1 ⟨H1, I1, q1⟩ => ?_)
 have q1 := fX q1
 cases c with
 | true => exact ⟨H1, I1, q1⟩
 | false => exact hb wh pins s1 σ H1 Q I1 q1
def dg (ta tb : TE) : TE := fun σ H Q => ta σ H fun x H1 => match x with | .bl c => Sel c (tb σ H1 Q) (Q (.bl false) H1) | _ => False
def sR (ta tb : TE) : TE := fun σ H Q => ta σ H fun x H1 => match x with | .bl c => Sel c (Q (.bl true) H1) (tb σ H1 Q) | _ => False
def pv (ta : TE) : TE := fun σ H Q => ta σ H fun x H1 => match x with | .bl c => Q (.bl (!c)) H1 | _ => False
theorem Ht (ha : PE X a ta) (hb : PE X (.BoolOp .And (b :: ci) pos) tb) : PE X (.BoolOp .And (a :: b :: ci) pos) (dg ta tb) := by
 intro pins s σ H Q I h
 refine BoolOp_and (thn (ha pins s σ H _ I h) fun v s1 ⟨x, H1, I1, r1, q1⟩ => ?_)
 cases x <;> first | exact q1.elim | skip
 rename_i c
 cases r1
 refine wpAny_truthy_bool ?_
 have q1 := fX q1
 cases c with
 | true => exact hb pins s1 σ H1 Q I1 q1
 | false => exact ⟨.bl false, H1, I1, rfl, q1⟩
theorem qor (ha : PE X a ta) (hb : PE X (.BoolOp .Or (b :: ci) pos) tb) : PE X (.BoolOp .Or (a :: b :: ci) pos) (sR ta tb) := by
 intro pins s σ H Q I h
 refine BoolOp_or (thn (ha pins s σ H _ I h) fun v s1 ⟨x, H1, I1, r1, q1⟩ => ?_)
 cases x <;> first | exact q1.elim | skip
 rename_i c
 cases r1
 refine wpAny_truthy_bool ?_
 have q1 := fX q1
 cases c with
 | false => exact hb pins s1 σ H1 Q I1 q1
 | true => exact ⟨.bl true, H1, I1, rfl, q1⟩
theorem EC (ha : PE X a ta) : PE X (.UnaryOp .Not a pos) (pv ta) := by
 intro pins s σ H Q I h
 refine UnaryOp_ (thn (ha pins s σ H _ I h) fun v s1 ⟨x, H1, I1, r1, q1⟩ => ?_)
 cases x <;> first | exact q1.elim | skip
 rename_i c
 cases r1
 exact not_of (wpAny_truthy_bool ⟨.bl (!c), H1, I1, rfl, q1⟩)
def mIf (t : TT) (ta tb : TE) : TE := fun σ H Q => t σ H fun c H1 => Sel c (ta σ H1 Q) (tb σ H1 Q)
theorem Gw {c : Expr} (hc : PT X c tA) (ha : PE X a ta) (hb : PE X b tb) : PE X (.IfExp c a b pos) (mIf tA ta tb) := by
 intro pins s σ H Q I h
 refine wpAny_IfExp (thn (hc pins s σ H _ I h) fun d s1 ⟨H1, I1, q1⟩ => ?_)
 have q1 := fX q1
 cases d with
 | true => exact ha pins s1 σ H1 Q I1 q1
 | false => exact hb pins s1 σ H1 Q I1 q1
def aT (c : TT) (t u : TS) : TS := fun D σ H => c σ H fun b H1 => Sel b (t D σ H1) (u D σ H1)
theorem qif {c : Expr} {l m : List Stmt} {tc : TT} {t u : TS} (hc : PT X c tc) (ha : PSs X l t) (hb : PSs X m u) : PS X (.If c l m pos) (aT tc t u) := by
 intro pins s σ H D I h
 refine wpAny_If (thn (hc pins s σ H _ I h) fun d s1 ⟨H1, I1, q1⟩ => ?_)
 have q1 := fX q1
 cases d with
 | true => exact ha pins s1 σ H1 D I1 q1
 | false => exact hb pins s1 σ H1 D I1 q1
theorem HW : cm X (.builtin "len") (fun xs H Q => match xs with
   | [.str y] => y.length ≤ sizeLine ∧ Q (.int y.length) H
   | [.ref p] => (∃ xs, SqL X.K H p xs ∧ Q (.int xs.length) H) ∨ (∃ xs, SqT X.K H p xs ∧ Q (.int xs.length) H) ∨ ∃ kvs, H p = some (.dK kvs) ∧ Q (.int kvs.length) H
   | _ => False) := by
 intro pins s σ H xs us Q I r h
 split at h
 · rename_i y
   exact lK pins s σ H _ us Q I r ⟨_, _, rfl, ⟨h.1, rfl⟩, h.2⟩
 · rename_i p
   rcases h with ⟨ys, h1, h2⟩ | ⟨ys, h1, h2⟩ | ⟨kvs, h1, h2⟩
   · exact lK pins s σ H _ us Q I r ⟨_, _, rfl, .inl ⟨ys, h1, rfl⟩, h2⟩
   · exact lK pins s σ H _ us Q I r ⟨_, _, rfl, .inr ⟨ys, h1, rfl⟩, h2⟩
   · exact tG pins s σ H _ us Q I r ⟨p, kvs, rfl, h1, h2⟩
 · exact h.elim
end
end L2
namespace L2
open PySem PySem.Spec PyProof.Rows
section
variable {X : Cx} {tg : Expr}
def dc : V → Hp → VK → Prop := fun x H Q => match x with | .int i => Q (.int (-i)) H | _ => False
theorem Gz : UnR X (unaryOp .USub) dc := fun pins s σ H x v Q I rx q => Aa pins s σ H x v Q I rx (by
 unfold dc at q
 split at q
 · exact ⟨_, rfl, q⟩
 · exact q.elim)
def AS (K : W.Frag) : List V → Hp → VK → Prop := fun xs H Q => match xs with
 | [.str y] => y.length ≤ sizeLine ∧ Q (.int y.length) H
 | [.ref p] => (∃ xs, SqL K H p xs ∧ Q (.int xs.length) H) ∨ (∃ xs, SqT K H p xs ∧ Q (.int xs.length) H) ∨ ∃ kvs, H p = some (.dK kvs) ∧ Q (.int kvs.length) H
 | _ => False
theorem Hd : cm X (.builtin "len") (AS X.K) := HW
def dG : List V → Hp → VK → Prop := fun xs H Q => match xs with
 | [x, .ty T] => T ∈ ["int", "bool", "str", "tuple", "list", "dict"] ∧ ∃ t, tyN H x = some t ∧ Q (.bl (isI t T)) H
 | _ => False
theorem eD : cm X (.builtin "isinstance") dG := fun pins s σ H xs us Q I r h => by
 unfold dG at h
 split at h
 · obtain ⟨h1, t, h2, h3⟩ := h
   exact vz pins s σ H _ us Q I r ⟨_, _, t, rfl, h1, h2, h3⟩
 · exact h.elim
def ka (K : W.Frag) : List V → Hp → VK → Prop := fun xs H Q => ∃ p ys, xs = [.ref p] ∧ ((SqL K H p ys ∧ ∀ l, H l = none → Q (.ref l) (upd H l (.tup ys))) ∨ (SqT K H p ys ∧ Q (.ref p) H))
theorem uJ : cm X (.type "tuple") (ka X.K) := oq
def xp : List V → Hp → VK → Prop := fun xs H Q => match xs with
 | [.int i] => i.natAbs.log2 < 1920 ∧ Q (.str (toString i)) H
 | _ => False
theorem HN : cm X (.type "str") xp := fun pins s σ H xs us Q I r h => by
 unfold xp at h
 split at h
 · exact qj pins s σ H _ us Q I r ⟨_, rfl, h.1, h.2⟩
 · exact h.elim
end
end L2
namespace L2
open PySem PySem.Spec PyProof.Rows
structure fv (J : It) (n : Nat) (it : Nat → V) (Pv : Hp → Prop) : Prop where
 go : ∀ i H, i < n → Pv H → J.go i H
 yld : ∀ i H x H', i < n → Pv H → J.yld i H x H' → H' = H ∧ x = it i
 stop : ∀ H, Pv H → J.stop n H
theorem fv.list {K : W.Frag} {a : Addr} {xs : List V} (d : V) : fv (Itl K a) xs.length (fun i => xs.getD i d) (fun H => SqL K H a xs) where
 go := fun i H hi h => ⟨xs, xs[i], h, by simp [hi]⟩
 yld := fun i H x H' hi h y => ⟨y.1, by have := y.2 xs h; rw [List.getD_eq_getElem?_getD, this]; rfl⟩
 stop := fun H h => ⟨xs, h, Nat.le_refl _⟩
theorem fv.tuple {K : W.Frag} {a : Addr} {xs : List V} (d : V) : fv (Itt K a) xs.length (fun i => xs.getD i d) (fun H => SqT K H a xs) where
 go := fun i H hi h => ⟨xs, xs[i], h, by simp [hi]⟩
 yld := fun i H x H' hi h y => ⟨y.1, by have := y.2 xs h; rw [List.getD_eq_getElem?_getD, this]; rfl⟩
 stop := fun H h => ⟨xs, h, Nat.le_refl _⟩
def CWd (n : Nat) (Pv : Nat → List V → Hp → Prop) : Nat → Nat → List V → Hp → Prop := fun i m ys H => i ≤ n ∧ m = n - i ∧ Pv i ys H
theorem CWd.next {n i : Nat} {Pv : Nat → List V → Hp → Prop} {ys : List V} {H : Hp} (hi : i < n) (h : Pv (i + 1) ys H) : ∃ m', m' < n - i ∧ CWd n Pv (i + 1) m' ys H := ⟨n - (i + 1), by omega, hi, rfl, h⟩
theorem mN {J : It} {n : Nat} {it : Nat → V} {Pk : Hp → Prop} {σ : St} {is : List Nat} {tc : TT} {te : TE} {Q : VK} {H1 : Hp} {D : Addr} (T : fv J n it Pk) (Pv : Nat → List V → Hp → Prop)
   (hk : ∀ i ys H, i ≤ n → Pv i ys H → Pk H) (h0 : Pv 0 [] (upd H1 D (.lst [])))
   (hs : ∀ i ys H2, i < n → Pv i ys H2 → tc (some (it i) :: bZ σ is) H2 fun b H4 => if b = true then
    te (some (it i) :: bZ σ is) H4 fun y H5 => H5 D = some (.lst ys) ∧ ys.length < sizeLine ∧ ∃ m', m' < n - i ∧ CWd n Pv (i + 1) m' (ys ++ [y]) (upd H5 D (.lst (ys ++ [y])))
    else ∃ m', m' < n - i ∧ CWd n Pv (i + 1) m' ys H4)
   (hd : ∀ ys H, Pv n ys H → Q (.ref D) H) : yR is tc te σ D J H1 Q := by
 refine ⟨CWd n Pv, ⟨n, Nat.zero_le _, rfl, h0⟩, ?_⟩
 rintro i m ys H2 ⟨hi, rfl, p⟩
 by_cases hlt : i < n
 · refine .inr ⟨T.go i H2 hlt (hk i ys H2 hi p), fun x H3 y => ?_⟩
   obtain ⟨rfl, rfl⟩ := T.yld i H2 x H3 hlt (hk i ys H2 hi p) y
   exact hs i ys _ hlt p
 · have e : i = n := by omega
   subst e
   exact .inl ⟨T.stop H2 (hk _ ys H2 hi p), hd ys H2 p⟩
theorem ay.upd {H : Hp} {p : Addr} {o : HO} (h : H p = none) : ay H (upd H p o) := fun b u e => by rw [aK (bj e h)]; exact e
theorem ay.put {H H' : Hp} {p : Addr} {o : HO} (s : ay H H') (h : H p = none) : ay H (L2.upd H' p o) := fun b u e => by rw [aK (bj e h)]; exact s b u e
theorem ug {xs : List V} {i : Int} (h0 : 0 ≤ i) (h1 : i < xs.length) : atI xs i = some (xs.getD i.toNat .non) := by
 unfold atI ixN
 rw [if_pos h0, if_pos h1]
 show xs[i.toNat]? = _
 rw [List.getD_eq_getElem?_getD]
 have : i.toNat < xs.length := by omega
 rw [List.getElem?_eq_getElem this]; rfl
end L2
namespace L2
open PySem PySem.Spec PyProof.Rows
def cV : Expr → Bool
 | .Starred _ _ => false
 | _ => true
theorem bW {e : Expr} (h : cV e = true) (ci : List Expr) (env : Env) : starEach (e :: ci) env = (false, eval e env) :: starEach ci env := by
 cases e <;> first | rfl | cases h
def bV : List Expr → Bool
 | [] => true
 | e :: r => cV e && bV r
theorem du : ∀ {es : List Expr} {env : Env} {pos : Pos}, bV es = true → (backTo pos (starEach es env)).any (·.1) = false
  | [], _, _, _ => rfl
  | e :: r, env, pos, h => by
    have h : (cV e && bV r) = true := h
    rw [Bool.and_eq_true] at h
    rw [bW h.1]
    show (false || (backTo pos (starEach r env)).any (·.1)) = false
    rw [du h.2]; rfl
section
variable {X : Cx} {e : Expr} {es : List Expr} {te : TE} {t : TA} {pos : Pos}
theorem yW (ha : PE X e te) (hr : PA X es t) (hs : cV e = true := by rfl) : PA X (e :: es) (aa te t) := zg ha hr (bW hs es X.env)
variable {x : Str} {p apos cpos : Pos} {id T : String} {r : List V → Hp → VK → Prop}
theorem zG (hc : cm X (.builtin id) r) (hg : Gl X x) (hm : X.mg x = none) (hv : bootBuiltins x = some (.builtin id)) (ha : PA X (e :: es) t) (hn : x ≠ "__name__" := by decide) (hdb : (x == ("__debug__" : Str)) = false := by decide)
  (hs : bV (e :: es) = true := by rfl) : PE X (.Call (.Name x p) (e :: es) [] pos) (tCB r t) :=
 have h : (cV e && bV es) = true := hs
 xM hc hg hm hv ha hn hdb (bW (Bool.and_eq_true_iff.mp h).1 es X.env) (du (Bool.and_eq_true_iff.mp h).2)
theorem vp (hc : cm X (.type T) r) (hg : Gl X x) (hm : X.mg x = none) (hv : bootBuiltins x = some (.type T)) (ha : PA X (e :: es) t) (hn : x ≠ "__name__" := by decide) (hdb : (x == ("__debug__" : Str)) = false := by decide)
  (hs : bV (e :: es) = true := by rfl) : PE X (.Call (.Name x p) (e :: es) [] pos) (tCB r t) :=
 have h : (cV e && bV es) = true := hs
 uh hc hg hm hv ha hn hdb (bW (Bool.and_eq_true_iff.mp h).1 es X.env) (du (Bool.and_eq_true_iff.mp h).2)
variable {CX : CXT} {k : Nat} {f C : Addr} {fd : FuncData} {ps : List Str} {sp : Sp} {dvs : List V} {ds : List Value} {E : XK} {m : Str} {o : Expr} {ta : TE}
theorem kZ : ∀ {es : List Expr} {env : Env} {pos : Pos}, bV es = true → (backTo pos (starEach es env)).all (fun x => !x.1) = true
  | [], _, _, _ => rfl
  | e :: r, env, pos, h => by
    have h : (cV e && bV r) = true := h
    rw [Bool.and_eq_true] at h
    rw [bW h.1]
    show (true && (backTo pos (starEach r env)).all (fun x => !x.1)) = true
    rw [kZ h.2]; rfl
variable {to : TE} {name : Str} {rm : V → List V → Hp → VK → Prop}
theorem HY (pa : PlainAttrs T) (slot : Slot T name id) (hty : typeOf (.builtin id) = pure (.type "method_descriptor")) (hm : MtR X id rm) (ho : PE X o to) (ha : PA X (e :: es) t)
  (hbase : attributeBase o name X.env (eval o X.env) = eval o X.env := by rfl) (hfew : decide ((e :: es).length < 30) = true := by rfl)
  (hline : (apos.endLine == cpos.line) = true := by rfl) (hs : bV (e :: es) = true := by rfl) : PE X (.Call (.Attribute o name apos) (e :: es) [] cpos) (tBM X.K T rm to t) :=
 have h : (cV e && bV es) = true := hs
 Gj pa slot hty hm ho ha hbase (by rw [kZ hs]; exact hfew) hline (bW (Bool.and_eq_true_iff.mp h).1 es X.env) (du (Bool.and_eq_true_iff.mp h).2)
end
end L2
namespace L2
open PySem PySem.Spec PyProof.Rows
structure QE (X : Cx) (e : Expr) (t : TE) : Prop where
 out : PE X e t
structure QT (X : Cx) (e : Expr) (t : TT) : Prop where
 out : PT X e t
structure QW (X : Cx) (e : Expr) (t : TT) : Prop where
 out : PW X e t
structure QA (X : Cx) (e : List Expr) (t : TA) : Prop where
 out : PA X e t
structure QS (X : Cx) (e : Stmt) (t : TS) : Prop where
 out : PS X e t
structure QSs (X : Cx) (e : List Stmt) (t : TS) : Prop where
 out : PSs X e t
structure QI (X : Cx) (tg iter : Expr) (t : TI) : Prop where
 out : PI X tg iter t
structure QO (X : Cx) (e : Option Expr) (t : TO) : Prop where
 out : PO X e t
structure rG (X : Cx) (e : List Expr) (t : TT) : Prop where
 out : rF X e t
section
variable {X : Cx} {a b c e o : Expr} {es ci : List Expr} {ta tb tc te to tv : TE} {tA tB' : TT} {t : TA} {pos apos cpos p : Pos} {x y : Str}
theorem ac (i : Nat) (hN : X.N[i]? = some x := by rfl) (hv : Vis X.env.scope x := by first | exact Or.inl rfl | exact Or.inr (Or.inl rfl) | exact Or.inr (Or.inr rfl)) (hd : (x == ("__debug__" : Str)) = false := by decide)
 (hcd : (x == ("__classdict__" : Str)) = false := by decide) : QE X (.Name x pos) (ab i) := ⟨qv i hN hv hd hcd⟩
theorem HI {i : Int} (hm : ∃ t, X.mg x = some (.int i t)) (hg : Gl X x := by rfl) (hd : (x == ("__debug__" : Str)) = false := by decide) : QE X (.Name x pos) (tC (.int i)) := ⟨qgi hm hg hd⟩
theorem eF {T : String} (hm : X.mg x = none) (hv : bootBuiltins x = some (.type T)) (hg : Gl X x := by rfl) (hn : x ≠ "__name__" := by decide) (hd : (x == ("__debug__" : Str)) = false := by decide) : QE X (.Name x pos) (tC (.ty T)) := ⟨zy hg hm hv rfl hn hd⟩
theorem ae {i : Int} {j} : QE X (.Constant (.int i) j pos) (tC (.int i)) := ⟨Cr⟩
theorem cG {b : Bool} {j} : QE X (.Constant (.bool b) j pos) (tC (.bl b)) := ⟨Ea⟩
theorem fO {j} : QE X (.Constant .none j pos) (tC .non) := ⟨BI⟩
theorem bM {z : Str} {j} : QE X (.Constant (.str z) j pos) (tC (.str z)) := ⟨AB⟩
theorem eY (ha : QE X a ta) : QE X (.UnaryOp .USub a pos) (tUn dc ta) := ⟨FE Gz ha.out⟩
theorem yk (ha : QE X a ta) : QE X (.UnaryOp .Not a pos) (pv ta) := ⟨EC ha.out⟩
theorem av {op : Operator} {r : R2} (ho : OpR X (binaryOp op) r) (ha : QE X a ta) (hb : QE X b tb) : QE X (.BinOp a op b pos) (tOp r ta tb) := ⟨Ee ho ha.out hb.out⟩
theorem dY {op : CmpOp} {r : R2} (ho : OpR X (compareOp op) r) (ha : QE X a ta) (hb : QE X b tb) (hm : behindInMarks op b = false := by first | exact mn _ | rfl) : QE X (.Compare a [op] [b] pos) (tOp r ta tb) := ⟨qc ho ha.out hb.out hm⟩
theorem mV {op op' : CmpOp} {r r' : R2} (ho : OpR X (compareOp op) r) (ho' : OpR X (compareOp op') r') (ha : QE X a ta) (hb : QE X b tb) (hc : QE X c tc) (hm : lastMarks [op, op'] [b, c] = false := by with_unfolding_all rfl) :
 QE X (.Compare a [op, op'] [b, c] pos) (eh r r' ta tb tc) := ⟨qch ho ho' ha.out hb.out hc.out hm⟩
theorem fj {op} (h : QE X a ta) : QE X (.BoolOp op [a] pos) ta := ⟨BR h.out⟩
theorem dA (ha : QE X a ta) (hb : QE X (.BoolOp .And (b :: ci) pos) tb) : QE X (.BoolOp .And (a :: b :: ci) pos) (dg ta tb) := ⟨Ht ha.out hb.out⟩
theorem Io (ha : QE X a ta) (hb : QE X (.BoolOp .Or (b :: ci) pos) tb) : QE X (.BoolOp .Or (a :: b :: ci) pos) (sR ta tb) := ⟨qor ha.out hb.out⟩
theorem xl (hc : QT X c tA) (ha : QE X a ta) (hb : QE X b tb) : QE X (.IfExp c a b pos) (mIf tA ta tb) := ⟨Gw hc.out ha.out hb.out⟩
theorem ag : QA X [] af := ⟨CL⟩
theorem ad (ha : QE X e te) (hr : QA X es t) (hs : cV e = true := by rfl) : QA X (e :: es) (aa te t) := ⟨yW ha.out hr.out hs⟩
theorem cL (h : QA X es t) : QE X (.List es pos) (cp t) := ⟨BT h.out⟩
theorem bQ {x1} (h : QA X es t) : QE X (.Tuple es x1 pos) (bH t) := ⟨BS h.out⟩
theorem ax {r : R2} (hr : IxR X r) (ha : QE X a ta) (hb : QE X b tb) (hs : qT b) : QE X (.Subscript a b pos) (tOp r ta tb) := ⟨FQ hr ha.out hb.out hs⟩
theorem kH : QO X none ij := ⟨zp⟩
theorem il (h : QE X e te) : QO X (some e) (gN te) := ⟨zJ h.out⟩
theorem jk {r : V → Option Int → Option Int → Hp → VK → Prop} {lo hi : Option Expr} {tl th : TO} {p2 : Pos} (hr : SlR X r) (he : QE X e te) (hl : QO X lo tl) (hu : QO X hi th) : QE X (.Subscript e (.Slice lo hi none p2) pos) (tSl r te tl th) := ⟨vD hr he.out hl.out hu.out⟩
variable {id T : String} {r : List V → Hp → VK → Prop}
theorem aY (hc : cm X (.builtin id) r) (hm : X.mg x = none) (hv : bootBuiltins x = some (.builtin id)) (ha : QA X (e :: es) t) (hg : Gl X x := by rfl) (hn : x ≠ "__name__" := by decide) (hdb : (x == ("__debug__" : Str)) = false := by decide)
 (hs : bV (e :: es) = true := by rfl) : QE X (.Call (.Name x p) (e :: es) [] pos) (tCB r t) := ⟨zG hc hg hm hv ha.out hn hdb hs⟩
theorem lE (hc : cm X (.type T) r) (hm : X.mg x = none) (hv : bootBuiltins x = some (.type T)) (ha : QA X (e :: es) t) (hg : Gl X x := by rfl) (hn : x ≠ "__name__" := by decide) (hdb : (x == ("__debug__" : Str)) = false := by decide)
 (hs : bV (e :: es) = true := by rfl) : QE X (.Call (.Name x p) (e :: es) [] pos) (tCB r t) := ⟨vp hc hg hm hv ha.out hn hdb hs⟩
variable {CX : CXT} {k : Nat} {f C : Addr} {fd : FuncData} {ps : List Str} {sp : Sp} {dvs : List V} {ds : List Value} {E : XK} {m : Str}
variable {name : Str} {rm : V → List V → Hp → VK → Prop}
theorem jV (pa : PlainAttrs T) (slot : Slot T name id) (hty : typeOf (.builtin id) = pure (.type "method_descriptor")) (hm : MtR X id rm) (ho : QE X o to) (ha : QA X (e :: es) t)
 (hbase : attributeBase o name X.env (eval o X.env) = eval o X.env := by rfl) (hfew : decide ((e :: es).length < 30) = true := by rfl)
 (hline : (apos.endLine == cpos.line) = true := by rfl) (hs : bV (e :: es) = true := by rfl) : QE X (.Call (.Attribute o name apos) (e :: es) [] cpos) (tBM X.K T rm to t) := ⟨HY pa slot hty hm ho.out ha.out hbase hfew hline hs⟩
theorem aN {op : CmpOp} {r : R2} (ho : OpR X (compareOp op) r) (ha : QE X a ta) (hb : QE X b tb) (hm : behindInMarks op b = false := by first | exact mn _ | rfl) : QT X (.Compare a [op] [b] pos) (aG (tOp r ta tb)) := ⟨qtc ho ha.out hb.out hm⟩
theorem ix {op op' : CmpOp} {r r' : R2} (ho : OpR X (compareOp op) r) (ho' : OpR X (compareOp op') r') (ha : QE X a ta) (hb : QE X b tb) (hc : QE X c tc) (hm : lastMarks [op, op'] [b, c] = false := by with_unfolding_all rfl) :
 QT X (.Compare a [op, op'] [b, c] pos) (aG (eh r r' ta tb tc)) := ⟨Ib ho ho' ha.out hb.out hc.out hm⟩
theorem bw (h : QE X e te) (he : ∀ whole, isTrue e X.env whole = (do let v ← whole; standAt e.pos; holding [v] (truthy v)) := by intro _; rfl) : QT X e (bS X.K te) := ⟨qtb h.out he⟩
theorem bA (ha : QT X a tA) : QT X (.UnaryOp .Not a pos) (bT tA) := ⟨BK ha.out⟩
theorem x_w (h : QW X e tA) : QT X e tA := ⟨h.out.pt⟩
theorem fY (ha : QT X a tA) : QW X (.BoolOp .And [a] pos) tA := ⟨zh ha.out⟩
theorem dO (ha : QT X a tA) : QW X (.BoolOp .Or [a] pos) tA := ⟨Bv ha.out⟩
theorem gP (ha : QT X a tA) (hb : QW X (.BoolOp .And (b :: ci) pos) tB') : QW X (.BoolOp .And (a :: b :: ci) pos) (gE tA tB') := ⟨Ah ha.out hb.out⟩
theorem dD (ha : QT X a tA) (hb : QW X (.BoolOp .Or (b :: ci) pos) tB') : QW X (.BoolOp .Or (a :: b :: ci) pos) (mOr tA tB') := ⟨Gn ha.out hb.out⟩
variable {tg iter elt : Expr} {wi : TI} {ifs : List Expr} {scope : Scope} {ys : List Str} {is : List Nat} {px py spos : Pos}
theorem jE (hm : X.mg "range" = none) (ha : QA X [a] t) (hg : Gl X "range" := by rfl) (hs : cV a = true := by rfl) : QI X tg (.Call (.Name "range" p) [a] [] pos) (iE t) := ⟨uV hg hm ha.out (bW hs [] X.env)⟩
theorem AL : rG X [] (fun _ H Q => Q true H) := ⟨rfl⟩
theorem qN (h : QT X c tA) : rG X [c] tA := ⟨h.out⟩
theorem tU {tcn : TT} (S : gb scope x ys) (hcap : gU X scope ys is) (hi : QI X (.Name x px) iter wi)
 (hif : ∀ C s H fp, rG (bL X scope C (x :: ys) s H fp) ifs tcn) (he : ∀ C s H fp, QE (bL X scope C (x :: ys) s H fp) elt te) (hc : X.calm = true := by rfl)
 (hs : ∀ x, foldedSetIterable iter X.env x = pure x := by intro _; rfl) : QE X (.ListComp elt [⟨.Name x px, iter, ifs, 0⟩] scope pos) (hU is wi tcn te) := ⟨zo hc S hcap hi.out (fun C s H fp => (hif C s H fp).out) (fun C s H fp => (he C s H fp).out) hs⟩
variable {st : Stmt} {sts : List Stmt} {tS uS : TS} {i j : Nat}
theorem aH : QSs X [] aI := ⟨zD⟩
theorem ak (h : QS X st tS) : QSs X [st] tS := ⟨zv h.out⟩
theorem ah (h1 : QS X st tS) (h2 : QSs X sts uS) : QSs X (st :: sts) (ao tS uS) := ⟨wb h1.out h2.out⟩
theorem az (h : QE X e te) : QS X (.Return (some e) pos) (aA te) := ⟨Bw h.out⟩
theorem aQ {l m : List Stmt} (hc : QT X c tA) (ha : QSs X l tS) (hb : QSs X m uS) : QS X (.If c l m pos) (aT tA tS uS) := ⟨qif hc.out ha.out hb.out⟩
theorem aL (i : Nat) (hN : X.N.Nodup) (he : QE X e te) (hi : X.N[i]? = some x := by rfl) (hx : Loc X.env.scope x := by first | exact .inl rfl | exact .inr rfl)
 (hs : swapsWith e (some (.Name x p)) pos.line X.env = pure false := by rfl) (hf : X.fn x = true ∨ X.env.scope.names.lookup x = some .local := by first | exact .inl rfl | exact .inr rfl) : QS X (.Assign [.Name x p] e pos) (aB te (ar i)) := ⟨BC hN hi hx he.out hs hf⟩
theorem uX (j : Nat) {tcn : TT} (hN : X.N.Nodup) (S : gb scope x ys) (hcap : gU X scope ys is) (hi : QI X (.Name x px) iter wi)
  (hif : ∀ C s H fp, rG (bL X scope C (x :: ys) s H fp) ifs tcn) (he : ∀ C s H fp, QE (bL X scope C (x :: ys) s H fp) elt te) (hc : X.calm = true := by rfl)
  (hj : X.N[j]? = some y := by rfl) (hy : Loc X.env.scope y := by first | exact .inl rfl | exact .inr rfl)
  (hsw : swapsWith (.ListComp elt [⟨.Name x px, iter, ifs, 0⟩] scope pos) (some (.Name y py)) spos.line X.env = pure true := by rfl) (hf : X.fn y = true ∨ X.env.scope.names.lookup y = some .local := by first | exact .inl rfl | exact .inr rfl)
  (hs : ∀ x, foldedSetIterable iter X.env x = pure x := by intro _; rfl) : QS X (.Assign [.Name y py] (.ListComp elt [⟨.Name x px, iter, ifs, 0⟩] scope pos) spos) (aB (hU is wi tcn te) (ar j)) :=
 ⟨sN hN hj hy hc S hcap hi.out (fun C s H fp => (hif C s H fp).out) (fun C s H fp => (he C s H fp).out) hsw hf hs⟩
theorem dN (h : QE X e te) (hs : swapsWith e none pos.line X.env = pure false := by rfl) : QS X (.Expr e pos) (cH te) := ⟨zW h.out hs⟩
theorem gM (i : Nat) (hN : X.N.Nodup) {body : List Stmt} (hi : QI X (.Name x px) iter wi) (hb : QSs X body tS) (hp : PassesOwn (model X.prog X.w) X.A X.env X.xe) (hc : X.calm = true := by rfl)
 (hj : X.N[i]? = some x := by rfl) (hx : Loc X.env.scope x := by first | exact .inl rfl | exact .inr rfl) (hf : X.fn x = true ∨ X.env.scope.names.lookup x = some .local := by first | exact .inl rfl | exact .inr rfl)
 (hs : ∀ x, foldedSetIterable iter X.env x = pure x := by intro _; rfl) : QS X (.For (.Name x px) iter body [] pos) (eU wi (ar i) tS) := ⟨uF hp hc hi.out (ig hN hj hx hf) hb.out hs⟩
theorem qX {body : List Stmt} (hc : QT X c tA) (hb : QSs X body tS) (hp : PassesOwn (model X.prog X.w) X.A X.env X.xe) : QS X (.While c body [] pos) (mi tA tS) := ⟨wM hp hc.out hb.out⟩
theorem eV : QS X st eS := ⟨vN⟩
end
end L2
namespace L2
open PySem PySem.Spec PyProof.Rows
structure Fly (P : Program) (w : World) (l : List Env) (H : Hp) (s : Shared) (cls fl : Value) (a : Addr) (H' : Hp) (s' : Shared) : Prop where
 os : s'.os = s.os
 bare : AllBare s'.gens
 un : Un (frs l) [] H H' s.heap s'.heap
 hok : HOk P w H' s'.heap
 new : s.heap.get? a = none
 free : H' a = none
 tr : ∃ oe vs a0 T oT ts, s'.heap.get? a = some oe ∧ oe.cls = cls ∧ oe.data = .fields vs ∧ vs[0]? = some a0 ∧ vs[1]? = some (.ref T) ∧ T ≠ a ∧ s'.heap.get? T = some oT ∧ oT.data = .fields ts ∧ ts[3]? = some fl ∧ s.heap.get? T = none ∧ H' T = none
def CX1 (P : Program) (w : World) : CXT := fun outer H s E e s' => ∃ a C H', e = .ref a ∧ Fly P w outer H s (.ref C) .none a H' s' ∧ E (.ref C) none H'
theorem wA {P : Program} {w : World} {H : Hp} {h : Heap} {a : Addr} {o : HO} (x : bB P w H h a o) : ∃ u, h.get? a = some u := by
 cases o with
 | lst xs => obtain ⟨_, _, _, _, e⟩ := x; exact ⟨_, e⟩
 | tup xs => obtain ⟨_, _, _, p⟩ := x; obtain ⟨o, e, _⟩ := p; exact ⟨_, e⟩
 | dK kvs => obtain ⟨_, _, _, _, o, _, _, e, _⟩ := x; exact ⟨_, e⟩
 | dT kvs => obtain ⟨_, _, _, _, o, _, _, e, _⟩ := x; exact ⟨_, e⟩
 | set S n => obtain ⟨o, _, _, _, e, _⟩ := x; exact ⟨_, e⟩
 | ins C dx fs => obtain ⟨_, _, _, e, _⟩ := x; exact ⟨_, e⟩
 | own y => exact x
 | xd fs => obtain ⟨_, ⟨_, _, _, e, _⟩, _⟩ := x; exact ⟨_, e⟩
 | rng lo hi => obtain ⟨_, _, _, e⟩ := x; exact ⟨_, e⟩
 | frz ob u => obtain ⟨e, _⟩ := x; exact ⟨_, e⟩
 | tbl ps => exact ⟨_, (show h.get? a = some _ from x)⟩
 | met f y => exact ⟨_, (show h.get? a = some _ from x)⟩
 | ext φ => obtain ⟨_, e, _⟩ := x; exact e
section
variable {P : Program} {w : World} {l : List Env} {H H' : Hp} {s s' : Shared} {cls fl fl' : Value} {a : Addr} {base : Heap}
end
end L2
namespace L2
open PySem PySem.Spec PyProof.Rows
section
variable {X : Cx} {pins : List (Addr × Obj)} {σ : St} {H H' : Hp} {s s' : Shared} {cls fl : Value} {a : Addr}
end
def oR (CX : CXT) (X : Cx) (E : St → XK) : Prop := ∀ (pins : List (Addr × Obj)) (σ : St) (H : Hp) (s : Shared) (e : Value) (s' : Shared), Inv X pins σ H s → CX X.stack H s (E σ) e s' → X.xe e s'
theorem gq {P : Program} {w : World} {X : Cx} : oR (CX1 P w) X (fun _ => E0) := fun pins σ H s e s' I ⟨_, _, _, _, _, h⟩ => h.elim
section
variable {P : Program} {w : World} {K : W.Frag} {mg : Str → Option Value} {base : Heap} {N : List Str} {qual : Str} {scope : Scope} {f : Addr} {cd : Value} {A : Around} {outer : List Env} {s : Shared} {H : Hp} {E : XK}
end
def ai (sp : Sp) (E : St → XK) (t : TA) : TE := fun σ H Q => t σ H fun vs H1 => sp vs H1 Q (E σ)
section
variable {X : Cx} {CX : CXT} {k : Nat} {f : Addr} {fd : FuncData} {ps : List Str} {sp : Sp} {E : St → XK} {x : Str} {p pos : Pos} {e : Expr} {es : List Expr} {t : TA}
theorem zN {pins : List (Addr × Obj)} {σ : St} {H : Hp} {s : Shared} {Q : VK} {us : List Value} {vs : List V} (F : aZ X.prog X.w X.K X.mg X.base CX k f fd ps sp) (hr : bR k X.A) (hb : eG X.K fd ps []) (hx : oR CX X E)
    (I : Inv X pins σ H s) (r : br vs us) (h : sp vs H Q (E σ)) : wpAny (model X.prog X.w) X.A (call (.ref f) us) (EP X pins σ Q) X.xe s := by
  have hl : us.length = ps.length := by rw [← r.length]; exact F.len _ _ _ _ h
  have hb' := hb s us I.kIn (by rw [List.append_nil]; exact hl)
  rw [List.append_nil] at hb'
  refine wpAny_call (codeAny_mono (F.run X.A X.stack s H ⟨us, []⟩ us vs Q (E σ) hr I.env0 hb' r h) fun r s' hq => ?_)
  cases r with
  | error e => exact hx pins σ H s e s' I hq
  | ok fl =>
    cases fl with
    | ret u => exact I.after hq
    | next => exact False.elim hq
    | brk => exact False.elim hq
    | cont => exact False.elim hq
theorem zc (F : aZ X.prog X.w X.K X.mg X.base CX k f fd ps sp) (hr : bR k X.A) (hm : X.mg x = some (.ref f)) (hk : W.keepIn X.K (.ref f) = true) (hb : eG X.K fd ps []) (hx : oR CX X E)
  (ha : QA X (e :: es) t) (hg : Gl X x := by rfl) (hdb : (x == ("__debug__" : Str)) = false := by decide) (hs : bV (e :: es) = true := by rfl) : QE X (.Call (.Name x p) (e :: es) [] pos) (ai sp E t) := by
 refine ⟨fun pins s σ H Q I h => ?_⟩
 have h' : (cV e && bV es) = true := hs
 refine wpAny_Call_Name_kw (rA I hg hm ?_ hdb)
 refine W.callWith_K (h₀ := X.base) I.ok.mod.kin hk (thn (ha.out pos pins s σ H _ I h) fun us s1 ⟨vs, H1, I1, r, q⟩ => ⟨I1.kIn, ?_⟩) (bW (Bool.and_eq_true_iff.mp h').1 es X.env) (du (Bool.and_eq_true_iff.mp h').2)
 exact zN F hr hb hx I1 r q
end
end L2
namespace L2
open PySem PySem.Spec PyProof.Rows
section
variable {X : Cx} {pins : List (Addr × Obj)} {σ : St} {H H1 H' : Hp} {s s0 : Shared} {a : Addr} {o : HO}
end
section
variable {X : Cx} {pins : List (Addr × Obj)} {σ : St} {H : Hp} {s : Shared} {a : Addr}
end
abbrev TH := iv → St → Addr → Hp → Prop
section
variable {X : Cx}
variable {x n : Str} {np hp : Pos} {Dc : Addr} {b0 : Stmt} {suite : List Stmt} {ci : List ExceptHandler} {ts : TS} {r : TH} {i : Nat}
end
end L2
namespace L2
open PySem PySem.Spec PyProof.Rows
section
variable {X : Cx} {pins pn : List (Addr × Obj)} {σ : St} {H : Hp} {s : Shared} {E' : Value → Shared → Prop}
end
section
variable {X : Cx}
end
end L2
namespace L2
open PySem PySem.Spec PyProof.Rows
section
variable {K : W.Frag} {prog : Program} {w : World} {A : Around} {E : Value → Shared → Prop} {h : Heap} {g : Array GenState} {d : Drawn} {t : Nat} {os : OsState} {a C : Addr} {o : Obj}
end
section
variable {X : Cx}
end
end L2
namespace HT
open PySem PyProof.Rows
section
variable {prog : Program} {w : World} {A : Around} {E : Value → Shared → Prop} {s : Shared}
theorem jM {t sl : Addr} {items : Array Value} {vl vu : Value} {lo hi : Option Int} {Q : Value → Shared → Prop} (ht : IsTup s.heap t items) (hs : s.heap.IsSliceOf sl vl vu .none) (pl : IsPart vl lo) (pu : IsPart vu hi)
  (hw : sIx items.size 0 lo = 0 ∧ sIx items.size items.size hi = items.size) (h : Q (.ref t) s) : wpAny (model prog w) A (getItem (.ref t) (.ref sl)) Q E s := by
 obtain ⟨os, hos, hcs, hds⟩ := id hs
 have hTs : s.TypeIs (.ref sl) "slice" := ⟨os, hos, hcs⟩
 unfold getItem
 try with_reducible refine wpAny_holding ?_
 first | refine wpAny_bind (wpAny_pure ?_) | skip
 refine wpAny_bind (wpAny_sequenceKey ht.typeIs (by decide) ?_)
 refine wpAny_bind (wpAny_callSpecial?_slot (name := Str.ofString "__getitem__") ht.typeIs PyProof.Rows.slot_tuple_getitem
  (wpAny_call_entry PyProof.Rows.slot_tuple_getitem ht.typeIs entry_tuple_getitem ?_ (args_tuple_getitem _ _)))
 show wpAny _ _ (Builtin.Tuple.tupleItemsOf (.ref t) >>= _) _ _ s
 refine wpAny_bind (tupleItemsOf_ ht ?_)
 refine wpAny_bind (wpAny_typeOf hTs ?_)
 rw [if_pos (by decide)]
 refine wpAny_bind (io hs pl pu ?_)
 have hyes : (((sIx items.size 0 lo : Nat) : Int) == 0 && (1 : Int) == 1 && (sIx items.size items.size hi - sIx items.size 0 lo) == items.size) = true := by
  rw [hw.1, hw.2]; simp
 show wpAny _ _ (if (((sIx items.size 0 lo : Nat) : Int) == 0 && (1 : Int) == 1 && (sIx items.size items.size hi - sIx items.size 0 lo) == items.size) = true then _ else _) _ _ s
 rw [if_pos hyes]
 have hte : s.TypeIs (.ref t) "tuple" := ht.typeIs
 unfold Builtin.Tuple.tupleIsExact
 repeat (first | exact ⟨_, rfl, wpAny_pure h⟩ | (with_reducible refine wpAny_typeOf hte ?_) | wp_step)
end
end HT
namespace HT
open PySem PyProof.Rows
section
variable {prog : Program} {w : World} {A : Around} {E : Value → Shared → Prop} {s : Shared}
theorem xO {t b : Addr} {ws : List Value} {Q : Value → Shared → Prop} (ht : IsTup s.heap t #[]) (hb : IsTup s.heap b ws.toArray) (h1 : Q (.ref b) s) : wpAny (model prog w) A (binaryOp .Add (.ref t) (.ref b)) Q E s := by
 obtain ⟨⟨cls, dd, data, sl⟩, ho, hc, n, hd⟩ := id ht
 obtain ⟨⟨cls2, dd2, data2, sl2⟩, ho2, hc2, n2, hd2⟩ := id hb
 simp only at hc hd hc2 hd2
 subst hc hd hc2 hd2
 exact concat_meets ⟨_, ho, rfl⟩ ⟨_, ho2, rfl⟩ noFill_tuple_add seq_tuple_add PySem.F.slot_tuple_add PySem.F.entry_tuple_add (PySem.F.args_tuple_add_2 _ _)
  (tuple_addW0 t b #[] ws.toArray n n2 dd dd2 sl sl2 (by simp)) ⟨ho, ho2, h1⟩
end
end HT
namespace L2
open PySem PySem.Spec PyProof.Rows
theorem ay.rfl' {H : Hp} : ay H H := fun _ _ e => e
theorem sL {xs : List V} {lo hi : Option Int} (h : HT.sIx xs.length 0 lo = 0 ∧ HT.sIx xs.length xs.length hi = xs.length) : fA xs lo hi = xs := by
 unfold fA
 rw [h.1, h.2, List.drop_zero, Nat.sub_zero, List.take_length]
section
variable {X : Cx}
def yo : V → Option Int → Option Int → Hp → VK → Prop := fun x lo hi H Q => ∃ a xs, x = .ref a ∧ H a = some (.tup xs) ∧ ∀ p H', ay H H' → H' p = some (.tup (fA xs lo hi)) → Q (.ref p) H'
theorem yZ : SlR X yo := by
 intro pins s σ H x v vl vu lo hi sl Q I rx hs pl pu h
 obtain ⟨a, xs, rfl, hx, q⟩ := h
 have hq : SqT X.K H a xs := .inl (.inl hx)
 by_cases hw : HT.sIx xs.length 0 lo = 0 ∧ HT.sIx xs.length xs.length hi = xs.length
 · cases rx
   obtain ⟨its, r, ht, hz⟩ := I.tuple hq
   have hlen : its.toArray.size = xs.length := by rw [List.size_toArray]; exact r.length.symm
   refine ⟨"tuple", _, PyProof.Rows.slot_tuple_getitem.lookup, ht.typeIs, ?_⟩
   refine HT.jM ht hs pl pu (by rw [hlen]; exact hw) ?_
   exact ⟨.ref a, H, I, rfl, q a H ay.rfl' (by rw [sL hw]; exact hx)⟩
 · exact BW pins s σ H _ v vl vu lo hi sl Q I rx hs pl pu ⟨a, xs, rfl, hq, hw, fun p hp => q p _ (ay.upd hp) (am ..)⟩
def yb : R2 := fun x y H Q => ∃ a b xs ys, x = .ref a ∧ y = .ref b ∧ H a = some (.tup xs) ∧ H b = some (.tup ys) ∧ xs.length + ys.length ≤ sizeLine ∧ ∀ p H', ay H H' → H' p = some (.tup (xs ++ ys)) → Q (.ref p) H'
theorem ze : OpR X (binaryOp .Add) yb := by
 intro pins s σ H x y v u Q I rx ry h
 obtain ⟨a, b, xs, ys, rfl, rfl, ha, hb, hz, q⟩ := h
 by_cases hx : xs = []
 · subst hx
   cases rx
   cases ry
   obtain ⟨its, r1, p1, _⟩ := I.tuple (.inl (.inl ha))
   obtain ⟨its2, r2, p2, _⟩ := I.tuple (.inl (.inl hb))
   cases r1
   exact HT.xO p1 p2 ⟨.ref b, H, I, rfl, q b H ay.rfl' hb⟩
 · refine zm pins s σ H _ _ v u Q I rx ry ⟨a, b, xs, ys, rfl, rfl, .inl (.inl ha), .inl (.inl hb), hx, hz, fun e => ?_, fun _ p hp => q p _ (ay.upd hp) (am ..)⟩
   subst e
   exact q a H ay.rfl' (by rw [List.append_nil]; exact ha)
def aS (K : W.Frag) : R2 := fun x y H Q => match x, y with
 | .int i, .int j => Q (.int (i + j)) H
 | .str i, .str j => i.length + j.length ≤ sizeLine ∧ Q (.str (i ++ j)) H
 | .ref a, .ref b => Cv (.ref a) (.ref b) H Q ∨ yb (.ref a) (.ref b) H Q
 | _, _ => False
theorem bd : OpR X (binaryOp .Add) (aS X.K) := (Cy.or (sU.or (CG.or ze))).imp fun x y H Q q => by
 unfold aS at q
 split at q
 · exact .inl ⟨_, _, rfl, rfl, q⟩
 · exact .inr (.inl ⟨_, _, rfl, rfl, q.1, q.2⟩)
 · exact .inr (.inr q)
 · exact q.elim
def AZ (K : W.Frag) : V → Option Int → Option Int → Hp → VK → Prop := fun x lo hi H Q => Bn K x lo hi H Q ∨ yo x lo hi H Q
theorem Br : SlR X (AZ X.K) := zx.or yZ
end
end L2
namespace L2
open PySem PySem.Spec PyProof.Rows
theorem Fun.okN {P : Program} {w : World} {K : W.Frag} {mg : Str → Option Value} {base : Heap} {CX : CXT} {x qual : Str} {st : Stmt} {f : Addr} {fd : FuncData} {N ps : List Str} {k : Nat} {sp : Sp} (F : Fun K x qual st f fd) (S : aF N ps (ap st)) (len : ∀ vs H Q E, sp vs H Q E → vs.length = ps.length)
  (hbody : ∀ (cdv : Value) (A : Around) (outer : List Env) (s : Shared) (H : Hp) (vs : List V) (Q : VK) (E : XK), bR k (A.deeper (envOfC qual (ap st) s.heap.objs.size f cdv)) → sp vs H Q E →
   ∃ t, PSs (gR CX P w K mg base N qual (ap st) f cdv A outer s H E).nox (bi st) t ∧ t { nx := fun _ H' => Q .non H', rt := Q } (dk N vs) H) : aZ P w K mg base CX (k + 1) f fd ps sp := by
 obtain ⟨oc, od, kV, doc, pm, an, cdv, ct, osl, rfl, lk, hcd⟩ := F.ex
 refine EO lk hcd S len fun A outer s H vs Q E hr hsp => ?_
 obtain ⟨t, h, q⟩ := hbody cdv A outer s H vs Q E hr hsp
 exact ⟨t, h.nox, q⟩
end L2
namespace L2
open PySem PySem.Spec PyProof.Rows
section
variable {X : Cx}
def BZ : V → Option Int → Option Int → Hp → VK → Prop := fun x lo hi H Q => ∃ z, x = .str z ∧ z.length ≤ sizeLine ∧ Q (.str (Txt.slice z lo hi)) H
theorem Cs : SlR X BZ := by
  intro pins s σ H x v vl vu lo hi sl Q I rx hs pl pu h
  obtain ⟨z, rfl, hz, q⟩ := h
  obtain ⟨t, rfl⟩ := (show ∃ t, v = Value.str z t from rx)
  refine ⟨"str", _, F.slot_str_getitem.lookup, typeIs_str _ _ _, ?_⟩
  have fin : ∀ (l u : Option (Int × Tok)), l.map (·.1) = lo → u.map (·.1) = hi → s.heap.IsSlice sl l u none → wpAny (model X.prog X.w) X.A (getItem (.str z t) (.ref sl)) (EP X pins σ Q) X.xe s := fun l u e1 e2 hs' => by
    subst e1 e2
    refine wpAny_getItem_str_slice (l := l) (u := u) (st := none) hs' rfl (post_val_or_str ⟨Nat.le_trans (Txt.slice_le z _ _) hz, fun t' k => ⟨.str _, H, I.tok k, ⟨_, rfl⟩, q⟩⟩)
  obtain ⟨os, hos, hcs, hds⟩ := hs
  cases pl with
  | none => cases pu with
    | none => exact fin none none rfl rfl ⟨os, hos, hcs, hds⟩
    | int j tj => exact fin none (some (j, tj)) rfl rfl ⟨os, hos, hcs, hds⟩
  | int i ti => cases pu with
    | none => exact fin (some (i, ti)) none rfl rfl ⟨os, hos, hcs, hds⟩
    | int j tj => exact fin (some (i, ti)) (some (j, tj)) rfl rfl ⟨os, hos, hcs, hds⟩
def lB (K : W.Frag) : V → Option Int → Option Int → Hp → VK → Prop := fun x lo hi H Q => AZ K x lo hi H Q ∨ BZ x lo hi H Q
theorem kd : SlR X (lB X.K) := Br.or Cs
def jY : V → Bool
 | .int _ => true
 | .str _ => true
 | _ => false
theorem sE {A : Around} {s : Shared} {x y : V} {u v : Value} (rx : bh x u) (ry : bh y v) (hx : jY x = true) (hy : jY y = true) : PySem.SeqAt.EqAt A s u v (decide (x = y)) := by
 cases x <;> first | cases hx | skip
 all_goals (cases y <;> first | cases hy | skip)
 · obtain ⟨t, rfl⟩ := rx; obtain ⟨t', rfl⟩ := ry
   have e := PySem.SeqAt.EqAt.int_int (A := A) (s := s) ‹Int› t ‹Int› t'
   rename_i i j
   have e2 : decide (V.int i = V.int j) = (i == j) := by rw [jP (f := V.int) fun _ _ e => V.int.inj e]; rfl
   rw [e2]; exact PySem.SeqAt.EqAt.int_int i t j t'
 · obtain ⟨t, rfl⟩ := rx; obtain ⟨t', rfl⟩ := ry
   exact PySem.SeqAt.EqAt.int_str _ _ _ _
 · obtain ⟨t, rfl⟩ := rx; obtain ⟨t', rfl⟩ := ry
   exact PySem.SeqAt.EqAt.str_int _ _ _ _
 · obtain ⟨t, rfl⟩ := rx; obtain ⟨t', rfl⟩ := ry
   rename_i i j
   have e2 : decide (V.str i = V.str j) = (i == j) := by
    rw [jP (f := V.str) fun _ _ e => V.str.inj e]
    by_cases h : i = j
    · rw [h]; simp
    · rw [decide_eq_false h]; exact (beq_eq_false_iff_ne.mpr h).symm
   rw [e2]; exact PySem.SeqAt.EqAt.str_str i t j t'
theorem tH {xs ys : List V} : decide (xs = ys) = ((List.range (min xs.length ys.length)).all (fun j => decide (xs[j]? = ys[j]?)) && xs.length == ys.length) := by
 by_cases h : xs = ys
 · subst h; simp
 · rw [decide_eq_false h]
   by_cases hl : xs.length = ys.length
   · rw [hl, Nat.min_self, beq_self_eq_true, Bool.and_true]
     symm
     rw [List.all_eq_false]
     apply Classical.byContradiction
     intro hn
     apply h
     apply List.ext_getElem? fun i => ?_
     by_cases hi : i < ys.length
     · apply Classical.byContradiction
       intro hne
       exact hn ⟨i, List.mem_range.mpr hi, by simpa using hne⟩
     · rw [List.getElem?_eq_none (by omega), List.getElem?_eq_none (by omega)]
   · have : (xs.length == ys.length) = false := by simpa using hl
     rw [this, Bool.and_false]
def Ae (K : W.Frag) : R2 := fun x y H Q => ∃ a b xs ys, x = .ref a ∧ y = .ref b ∧ SqT K H a xs ∧ SqT K H b ys ∧ xs.all jY = true ∧ ys.all jY = true ∧ Q (.bl (decide (xs = ys))) H
theorem Ce (hu : X.A.units < cLine) : OpR X (compareOp .Eq) (Ae X.K) := by
 intro pins s σ H x y v u Q I rx ry h
 obtain ⟨a, b, xs, ys, rfl, rfl, ha, hb, px, py, q⟩ := h
 cases rx
 cases ry
 obtain ⟨its, r1, p1, _⟩ := I.tuple ha
 obtain ⟨its2, r2, p2, _⟩ := I.tuple hb
 have l1 := r1.length
 have l2 := r2.length
 refine PySem.SeqAt.eq_tupleAt (e := fun j => decide (xs[j]? = ys[j]?)) p1 p2 hu (fun j h1 h2 => ?_) ?_
 · have h1 : j < its.length := by simpa using h1
   have h2 : j < its2.length := by simpa using h2
   have e1 : xs[j]? = some xs[j] := List.getElem?_eq_getElem (by omega)
   have e2 : ys[j]? = some ys[j] := List.getElem?_eq_getElem (by omega)
   obtain ⟨u1, g1, ru1⟩ := r1.get e1
   obtain ⟨u2, g2, ru2⟩ := r2.get e2
   have g1' : its.toArray[j] = u1 := by
    rw [List.getElem?_eq_getElem h1] at g1; simpa using Option.some.inj g1
   have g2' : its2.toArray[j] = u2 := by
    rw [List.getElem?_eq_getElem h2] at g2; simpa using Option.some.inj g2
   rw [g1', g2', e1, e2]
   have : decide (some xs[j] = some ys[j]) = decide (xs[j] = ys[j]) := by simp
   rw [this]
   exact sE ru1 ru2 (List.all_eq_true.mp px _ (List.getElem_mem _)) (List.all_eq_true.mp py _ (List.getElem_mem _))
 · have e := tH (xs := xs) (ys := ys)
   rw [l1, l2] at e
   simp only [List.size_toArray]
   rw [← e]
   exact ⟨.bl _, H, I, rfl, q⟩
def vJ : R2 := fun x y H Q => match x, y with
 | .str i, .str j => Q (.bl (!(Builtin.Str.occurrences j i 0 j.length 1).isEmpty)) H
 | _, _ => False
theorem Ig : OpR X (compareOp .In) vJ := vd.imp fun x y H Q q => by
 unfold vJ at q
 split at q
 · exact ⟨_, _, rfl, rfl, q⟩
 · exact q.elim
end
end L2
namespace HT
open PySem PyProof.Rows
section
variable {prog : Program} {w : World} {A : Around} {E : Value → Shared → Prop} {s : Shared}
end
end HT
namespace HT
open PySem PyProof.Rows
section
variable {prog : Program} {w : World} {A : Around} {E : Value → Shared → Prop} {s : Shared}
end
end HT
namespace L2
open PySem PySem.Spec PyProof.Rows
section
variable {X : Cx} {pins : List (Addr × Obj)} {σ : St} {H : Hp} {s : Shared} {h' : Heap}
end
section
variable {X : Cx} {pins : List (Addr × Obj)} {σ : St} {H H1 : Hp} {s s0 : Shared} {a : Addr} {o : HO}
end
end L2
namespace L2
open PySem PySem.Spec PyProof.Rows
section
variable {X : Cx} {a b : Expr} {t : TA} {p pos ep : Pos} {elts : List Expr} {ek : Nat}
end
end L2
namespace L2
open PySem PySem.Spec PyProof.Rows
section
variable {X : Cx} {a b : Expr} {t : TA} {p pos ep px py : Pos} {elts : List Expr} {ek : Nat} {x y : Str} {iter : Expr} {wi : TI} {tS : TS}
theorem Ct (i j : Nat) (hN : X.N.Nodup) {body : List Stmt} (hi : QI X (.Tuple [.Name x px, .Name y py] ek ep) iter wi) (hb : QSs X body tS) (hp : PassesOwn (model X.prog X.w) X.A X.env X.xe) (hc : X.calm = true := by rfl)
  (hj : X.N[i]? = some x := by rfl) (hx : Loc X.env.scope x := by first | exact .inl rfl | exact .inr rfl) (hf : X.fn x = true ∨ X.env.scope.names.lookup x = some .local := by first | exact .inl rfl | exact .inr rfl)
  (hj2 : X.N[j]? = some y := by rfl) (hx2 : Loc X.env.scope y := by first | exact .inl rfl | exact .inr rfl) (hf2 : X.fn y = true ∨ X.env.scope.names.lookup y = some .local := by first | exact .inl rfl | exact .inr rfl)
  (hs : ∀ x, foldedSetIterable iter X.env x = pure x := by intro _; rfl) : QS X (.For (.Tuple [.Name x px, .Name y py] ek ep) iter body [] pos) (eU wi (nB X.K 2 (eH (ar i) (eH (ar j) nw))) tS) :=
 ⟨uF hp hc hi.out (tR hc (iD (ig hN hj hx hf) (iD (ig hN hj2 hx2 hf2) rl))) hb.out hs⟩
end
end L2
namespace L2
open PySem PySem.Spec PyProof.Rows
section
variable {X : Cx} {CX : CXT} {k : Nat} {f C : Addr} {fd : FuncData} {ps : List Str} {sp : Sp} {E : St → XK} {x m fl : Str} {p pos apos pos' : Pos} {e o value : Expr} {es : List Expr} {ta tv to : TE} {t : TA}
end
end L2
namespace L2
open PySem PySem.Spec PyProof.Rows
mutual
inductive eE (K : W.Frag) (H : Hp) : V → PyData → Prop
 | non : eE K H .non .none
 | bl (b) : eE K H (.bl b) (.bool b)
 | int (i) : eE K H (.int i) (.int i)
 | str (z) : eE K H (.str z) (.str z)
 | lst {a xs ds} : SqL K H a xs → DatVs K H xs ds → eE K H (.ref a) (.list ds)
 | tup {a xs ds} : SqT K H a xs → DatVs K H xs ds → eE K H (.ref a) (.tuple ds)
inductive DatVs (K : W.Frag) (H : Hp) : List V → List PyData → Prop
 | nil : DatVs K H [] []
 | cons {x xs d ds} : eE K H x d → DatVs K H xs ds → DatVs K H (x :: xs) (d :: ds)
end
section
variable {X : Cx}
mutual
theorem dl {pins : List (Addr × Obj)} {σ : St} {H : Hp} {s : Shared} (I : Inv X pins σ H s) : ∀ {x : V} {d : PyData}, eE X.K H x d → ∀ {v : Value}, bh x v → ∃ as, Reads s.heap v d as
  | _, _, .non, _, r => by cases r; exact ⟨_, .none⟩
  | _, _, .bl b, _, r => by cases r; exact ⟨_, .bool b⟩
  | _, _, .int i, _, r => by obtain ⟨t, rfl⟩ := r; exact ⟨_, .int i t⟩
  | _, _, .str z, _, r => by obtain ⟨t, rfl⟩ := r; exact ⟨_, .str z t⟩
  | _, _, .lst h hs, _, r => by
    cases r
    obtain ⟨its, r1, ⟨o, n, h1, h2, _, h3⟩, _⟩ := I.list h
    obtain ⟨as, ra⟩ := datVs_reads I hs r1
    exact ⟨_, .list h1 h2 h3 (by simpa using ra)⟩
  | _, _, .tup h hs, _, r => by
    cases r
    obtain ⟨its, r1, ⟨o, h1, h2, n, h3⟩, _⟩ := I.tuple h
    obtain ⟨as, ra⟩ := datVs_reads I hs r1
    exact ⟨_, .tuple h1 h2 h3 (by simpa using ra)⟩
theorem datVs_reads {pins : List (Addr × Obj)} {σ : St} {H : Hp} {s : Shared} (I : Inv X pins σ H s) : ∀ {xs : List V} {ds : List PyData}, DatVs X.K H xs ds → ∀ {vs : List Value}, br xs vs → ∃ as, ReadsAll s.heap vs ds as
  | _, _, .nil, _, r => by cases r; exact ⟨_, .nil⟩
  | _, _, .cons h hs, _, r => by
    cases r with
    | cons r1 r2 =>
      obtain ⟨as, a⟩ := dl I h r1
      obtain ⟨bs, b⟩ := datVs_reads I hs r2
      exact ⟨_, .cons a b⟩
end
def pR (K : W.Frag) : R2 := fun x y H Q => ∃ d e, eE K H x d ∧ eE K H y e ∧ d.canLay0 = true ∧ e.canLay0 = true ∧ d.depth ≤ 150 ∧ Q (.bl (d.eqv e)) H
def vm (K : W.Frag) : R2 := fun x y H Q => ∃ d e, eE K H x d ∧ eE K H y e ∧ d.canLay0 = true ∧ e.canLay0 = true ∧ d.depth ≤ 150 ∧ Q (.bl (!d.eqv e)) H
theorem CM (hu : X.A.units + 150 < cLine) : OpR X (compareOp .Eq) (pR X.K) := by
 intro pins s σ H x y v u Q I rx ry h
 obtain ⟨d, e, hd, he, cd, ce, dp, q⟩ := h
 obtain ⟨as, ra⟩ := dl I hd rx
 obtain ⟨bs, rb⟩ := dl I he ry
 exact PySem.SeqAt.compareEq_reads ra rb cd ce (by have := Nat.min_le_left d.depth e.depth; omega) ⟨.bl _, H, I, rfl, q⟩
theorem Dj (hu : X.A.units + 150 < cLine) : OpR X (compareOp .NotEq) (vm X.K) := by
 intro pins s σ H x y v u Q I rx ry h
 obtain ⟨d, e, hd, he, cd, ce, dp, q⟩ := h
 obtain ⟨as, ra⟩ := dl I hd rx
 obtain ⟨bs, rb⟩ := dl I he ry
 exact PySem.SeqAt.compareNe_reads ra rb cd ce (by have := Nat.min_le_left d.depth e.depth; omega) ⟨.bl _, H, I, rfl, q⟩
theorem bR.units150 {k : Nat} {A : Around} (r : bR k A) : A.units + 150 < cLine := by have := r.un; omega
def cP (K : W.Frag) : R2 := fun x y H Q => match x, y with
 | .ref a, y => vm K (.ref a) y H Q
 | x, .ref b => vm K x (.ref b) H Q
 | x, y => mNe x y H Q
theorem dL (hu : X.A.units + 150 < cLine) : OpR X (compareOp .NotEq) (cP X.K) := ((Dj hu).or oNe).imp fun x y H Q q => by
 unfold cP at q
 split at q
 · exact .inl q
 · exact .inl q
 · exact .inr q
def mL : List V → Hp → VK → Prop := fun xs H Q => match xs with | [.int i, .int j] => Q (.int (if j < i then j else i)) H | _ => False
theorem Cb (hc : X.calm = true) : cm X (.builtin "min") mL := fun pins s σ H xs us Q I r q => by
 unfold mL at q
 split at q
 · exact uY hc pins s σ H _ us Q I r ⟨_, _, rfl, q⟩
 · exact q.elim
variable {o : Expr} {to : TE} {name : Str} {apos cpos : Pos} {T id : String} {rm : V → List V → Hp → VK → Prop}
end
def ky (ns : List Int) : List PyData := ns.map PyData.int
theorem mB {K : W.Frag} {H : Hp} : ∀ ns : List Int, DatVs K H (ns.map V.int) (ky ns)
 | [] => .nil
 | i :: r => .cons (.int i) (mB r)
theorem lc : ∀ ns : List Int, (PyData.list (ky ns)).canLay0 = true
 | [] => rfl
 | i :: r => lc r
theorem jK : ∀ ns : List Int, PyData.depthAll (ky ns) = 0
 | [] => rfl
 | i :: r => by show max 0 (PyData.depthAll (ky r)) = 0; rw [jK r]; rfl
theorem sw (ns : List Int) : (PyData.list (ky ns)).depth ≤ 150 := by show PyData.depthAll (ky ns) + 1 ≤ 150; rw [jK]; decide
end L2
namespace L2
open PySem PySem.Spec PyProof.Rows
theorem bo {n : Nat} (h : n ≤ 1000000) : n ≤ sizeLine := by rw [sizeLine_eq]; omega
theorem mH (k : Nat) : ((2 ^ k : Nat) : Int) = (2 : Int) ^ k := by simp
theorem ck (k : Nat) : (0 : Int) < 2 ^ k := by have := Nat.two_pow_pos k; rw [← mH]; omega
theorem zM {k : Nat} (h : k ≤ 60) : (2 : Int) ^ k ≤ 2 ^ 60 := by
 have b : (2:Nat) ^ k ≤ 2 ^ 60 := Nat.pow_le_pow_right (by decide) h
 rw [← mH k]; omega
theorem nQ (ns : List Int) (lo hi : Option Int) : ∃ zs : List Int, fA (ns.map V.int) lo hi = zs.map V.int ∧ zs.length ≤ ns.length := by
 refine ⟨(ns.drop (HT.sIx ns.length 0 lo)).take (HT.sIx ns.length ns.length hi - HT.sIx ns.length 0 lo), ?_, ?_⟩
 · unfold fA
   rw [List.length_map, List.map_take, List.map_drop]
 · rw [List.length_take, List.length_drop]; omega
theorem uk {α : Type} {xs : List α} {i : Int} (h0 : 0 ≤ i) (h1 : i < xs.length) : ∃ c, atI xs i = some c := by
 unfold atI ixN
 rw [if_pos h0, if_pos h1]
 have : i.toNat < xs.length := by omega
 exact ⟨xs[i.toNat], by show xs[i.toNat]? = _; rw [List.getElem?_eq_getElem this]⟩
theorem rN (x y : Nat) : x ||| y = (x &&& y) + (x ^^^ y) := by
  have h : ∀ n, ∀ x y : Nat, x < 2 ^ n → y < 2 ^ n → x ||| y = (x &&& y) + (x ^^^ y) := by
    intro n
    induction n with
    | zero => intro x y hx hy; have : x = 0 := by simpa using hx
              have : y = 0 := by simpa using hy
              subst_vars; rfl
    | succ n ih =>
      intro x y hx hy
      have i := ih (x / 2) (y / 2) (by omega) (by omega)
      rw [← Nat.div_add_mod (x ||| y) 2, ← Nat.div_add_mod (x &&& y) 2, ← Nat.div_add_mod (x ^^^ y) 2]
      rw [Nat.or_div_two, Nat.and_div_two, Nat.xor_div_two, i]
      have hm : (x ||| y) % 2 = (x &&& y) % 2 + (x ^^^ y) % 2 := by
        have a := @Nat.or_mod_two_pow x y 1
        have b := @Nat.and_mod_two_pow x y 1
        have c := @Nat.xor_mod_two_pow x y 1
        rw [Nat.pow_one] at a b c
        rw [a, b, c]
        rcases Nat.mod_two_eq_zero_or_one x with h | h <;> rcases Nat.mod_two_eq_zero_or_one y with h' | h' <;> rw [h, h'] <;> rfl
      omega
  have h2 : max x y < 2 ^ (max x y) := Nat.lt_two_pow_self
  exact h (max x y) x y (by omega) (by omega)
theorem sJ (x y : Nat) : Builtin.bitXor x y = ((x ^^^ y : Nat) : Int) := by
 unfold Builtin.bitXor Builtin.bitOr
 have e1 : Builtin.bitAnd x y = ((x &&& y : Nat) : Int) := by
  unfold Builtin.bitAnd
  rw [decide_eq_true (by omega : (0:Int) ≤ x), decide_eq_true (by omega : (0:Int) ≤ y)]; rfl
 have n (z : Nat) : Builtin.bitNot z < 0 := by unfold Builtin.bitNot; omega
 have nn (z : Nat) : (Builtin.bitNot (Builtin.bitNot z)).toNat = z := by unfold Builtin.bitNot; omega
 have e2 : Builtin.bitAnd (Builtin.bitNot x) (Builtin.bitNot y) = Builtin.bitNot ((x ||| y : Nat) : Int) := by
  unfold Builtin.bitAnd
  rw [decide_eq_false (by have := n x; omega : ¬ 0 ≤ Builtin.bitNot x), decide_eq_false (by have := n y; omega : ¬ 0 ≤ Builtin.bitNot y)]
  show Builtin.bitNot (((Builtin.bitNot (Builtin.bitNot x)).toNat ||| (Builtin.bitNot (Builtin.bitNot y)).toNat : Nat) : Int) = _
  rw [nn, nn]
 rw [e1, e2, rN]
 unfold Builtin.bitNot
 omega
theorem mD (x : Nat) : Builtin.bitAnd x 1 = ((x % 2 : Nat) : Int) := by
 unfold Builtin.bitAnd
 rw [decide_eq_true (by omega : (0:Int) ≤ x), decide_eq_true (by decide : (0:Int) ≤ 1)]
 show (((x : Int).toNat &&& (1 : Int).toNat : Nat) : Int) = _
 rw [Int.toNat_natCast, show (1 : Int).toNat = 1 from rfl, Nat.and_one_is_mod]
end L2
namespace L2
open PySem PySem.Spec PyProof.Rows
section
variable {X : Cx}
theorem bR.units1 {k : Nat} {A : Around} (r : bR k A) : A.units + 1 < cLine := by have := r.un; omega
def Cc : R2 := fun x y H Q => ∃ a v, x = .ref a ∧ gG H a y (some v) ∧ Q v H
theorem zK (hu : X.A.units + 1 < cLine) : IxR X Cc := by
 intro value slice pins s σ H x y v u Q I rx ry h hs
 obtain ⟨a, w0, rfl, g, q⟩ := h
 obtain rfl : v = Value.ref a := rx
 have hT := qF I g
 have h2 : wpAny (model X.prog X.w) X.A (getItem (.ref a) u) (EP X pins σ Q) X.xe s := uw hu I g ry fun w' s3 I3 rw' => ⟨w0, H, I3, rw', q⟩
 unfold subscriptTail
 refine wpAny_bind ?_
 rw [getitemInPython_of_ne hT.not_modules]
 refine wpAny_bind (wpAny_specialOf hT PySem.F.slot_dict_getitem.lookup ?_)
 have fin : wpAny (model X.prog X.w) X.A (subscripted slice false (.ref a) u) (fun r s₃ => wpAny (model X.prog X.w) X.A (letTemporaryGo value (.ref a) r >>= fun _ => pure r) (EP X pins σ Q) X.xe s₃) X.xe s := by
  rw [hs]
  exact wpAny_operating (wpAny_mono h2 (fun r s₃ h₃ => wpAny_bind (wpAny_letTemporaryGo (wpAny_pure h₃))) fun _ _ x => x)
 first
  | exact wpAny_pure (wpAny_bind fin)
  | exact wpAny_bind (wpAny_pure (wpAny_bind fin))
  | exact wpAny_bind fin
def aq (K : W.Frag) : R2 := fun x y H Q => rIx K x y H Q ∨ Cc x y H Q
theorem aj (hu : X.A.units + 1 < cLine) : IxR X (aq X.K) := AH.or (zK hu)
variable {o e : Expr} {to te : TE} {p pos : Pos}
def Aq : R2 := fun y x H Q => ∃ a o, x = .ref a ∧ gG H a y o ∧ Q (.bl o.isSome) H
theorem BO (hu : X.A.units + 1 < cLine) : OpR X (compareOp .In) Aq := by
 intro pins s σ H x y v u Q I rx ry h
 obtain ⟨a, ov, rfl, g, q⟩ := h
 obtain rfl : u = Value.ref a := ry
 exact Ho hu I g rx fun s3 I3 => ⟨.bl ov.isSome, H, I3, rfl, q⟩
def Bq (K : W.Frag) : R2 := fun y x H Q => ∃ d ds, eE K H y d ∧ (eE K H x (.list ds) ∨ eE K H x (.tuple ds)) ∧ PyData.canLayAll0 ds = true ∧ d.canLay0 = true ∧ d.depth ≤ 140 ∧ Q (.bl (ds.any fun e => e.eqv d)) H
theorem CT (hu : X.A.units + 150 < cLine) : OpR X (compareOp .In) (Bq X.K) := by
 intro pins s σ H x y v u Q I rx ry h
 obtain ⟨d, ds, hd, hx, c1, c2, dp, q⟩ := h
 obtain ⟨as, ra⟩ := dl I hd rx
 have hm : X.A.units + 1 + min (PyData.depthAll ds) d.depth < cLine := by have := Nat.min_le_right (PyData.depthAll ds) d.depth; omega
 rcases hx with hx | hx
 · obtain ⟨bs, rb⟩ := dl I hx ry
   exact PySem.SeqAt.in_list_reads rb ra c1 c2 hm ⟨.bl _, H, I, rfl, q⟩
 · obtain ⟨bs, rb⟩ := dl I hx ry
   exact PySem.SeqAt.in_tuple_reads rb ra c1 c2 hm ⟨.bl _, H, I, rfl, q⟩
def sI (K : W.Frag) : R2 := fun y x H Q => match y, x with
 | y, .ref a => Aq y (.ref a) H Q ∨ Bq K y (.ref a) H Q
 | y, x => vJ y x H Q
theorem HZ (hu : X.A.units + 150 < cLine) : OpR X (compareOp .In) (sI X.K) := ((BO (by omega)).or ((CT hu).or Ig)).imp fun x y H Q q => by
 unfold sI at q
 split at q
 · exact q.elim .inl fun z => .inr (.inl z)
 · exact .inr (.inr q)
def pX : TE := fun σ H Q => uo σ H Q ∨ tT σ H Q
theorem ro : QE X (.Dict [] [] pos) pX := ⟨fun pins s σ H Q I h => h.elim (we pins s σ H Q I) (xu pins s σ H Q I)⟩
theorem ul : cm X (.builtin "len") (fun xs H Q => ∃ p kvs, xs = [.ref p] ∧ H p = some (.dT kvs) ∧ Q (.int kvs.length) H) := by
 intro pins s σ H xs us Q I r h
 obtain ⟨a, kvs, rfl, e, q⟩ := h
 obtain ⟨u, rfl, r1⟩ := kL r
 cases r1
 obtain ⟨z, hd, ps, rel, dd⟩ := yg I.hok e
 have hl : ps.length = kvs.length := (Paired.length rel).symm
 have hT : s.TypeIs (.ref a) "dict" := dd.typeIs
 obtain ⟨o, es, ep, ho, hc, hdat, he, his, hn⟩ := dd
 have hsz : es.size = kvs.length := by rw [← hl]; have := congrArg List.length he; simpa using this
 have M : MeetsIn X.prog X.w (Builtin.«dict.__len__» ⟨[.ref a], []⟩) (fun _ R s => s.heap.get? a = some o ∧ R (.ok (.ret (.int kvs.length s.toks))) { s with toks := s.toks + 1 }) :=
  .of_wp fun A R s ⟨ho, h⟩ => by
   show wpAny _ _ (dictSize a >>= _) _ _ s
   unfold dictSize
   refine wpAny_bind (wpAny_bind (wpAny_dictEntries ho hdat (wpAny_pure ?_)))
   show wpAny _ _ (Builtin.Dict.pendingCount a >>= _) _ _ s
   refine wpAny_bind (wpAny_pendingCount_other hd ?_)
   refine wpAny_ret_mkInt ?_
   rw [Nat.add_zero, hsz]; exact h
 refine Calls.call_function_entry kind_len plain_len entry_len (args_len1 _) ?_
 unfold Builtin.«len»
 refine wpAny_bind (m := oneArg "len" _) (wpAny_pure ?_)
 refine wpAny_bind (m := callSpecial? (.ref a) (Str.ofString "__len__")) (wpAny_callSpecial?_slot (name := Str.ofString "__len__") hT F.slot_dict_len
  (call_meetsIn F.slot_dict_len hT F.entry_dict_len (F.args_dict_len_1 _) M ⟨ho, ?_⟩))
 show wpAny _ _ _ _ _ { s with toks := s.toks + 1 }
 refine wpAny_bind (wpAny_holding (wpAny_pure ?_))
 refine wpAny_bind (wpAny_letGo ?_)
 have zz : kvs.length ≤ sizeLine := z
 rw [sizeLine_eq] at zz
 show wpAny _ _ (if ((kvs.length : Nat) : Int) < 0 then _ else _) _ _ _
 rw [if_neg (by omega)]
 show wpAny _ _ (if ((kvs.length : Nat) : Int) ≥ 2 ^ 63 then _ else _) _ _ _
 rw [if_neg (by omega)]
 exact wpAny_bind (wpAny_mkInt (wpAny_pure ⟨_, rfl, ⟨.int kvs.length, H, I.tok _, ⟨_, rfl⟩, q⟩⟩))
def cn (K : W.Frag) : List V → Hp → VK → Prop := fun xs H Q => AS K xs H Q ∨ ∃ p kvs, xs = [.ref p] ∧ H p = some (.dT kvs) ∧ Q (.int kvs.length) H
theorem cK : cm X (.builtin "len") (cn X.K) := Hd.or ul
def Cl (H : Hp) (a : Addr) (y d : V) (r : V) (H' : Hp) : Prop := (gG H a y (some r) ∧ H' = H) ∨ (gG H a y none ∧ sh H a y d H' ∧ r = d)
theorem gA {A : Around} {E : Value → Shared → Prop} {s : Shared} {P : Program} {w : World} {K : Type} [DecidableEq K] {knd : HeapKind P w K} {d a : Addr} {xs : List (K × Addr × Value)} {k : K} {v : Value} {Q : Value → Shared → Prop} (hu : knd.room A) (hkey : knd.is s.heap k a) (hm : s.heap.DictOfH knd d xs)
   (hthere : ∀ p, atKey xs k = some p → Q p.2 { s with toks := s.toks + knd.draws k })
   (hQ : atKey xs k = none → ∀ h', h'.DictOfH knd d (storedH xs k a v) → Heap.SameBut d s.heap h' → Q v { s with heap := h', toks := s.toks + knd.draws k })
   (hsz : xs.length ≤ sizeLine) :
   wpAny (model P w) A (dictSetDefault d (.ref a) v) Q E s := by
 obtain ⟨o, es, ep, ho, hc, hd, he, his, hn⟩ := hm
 unfold dictSetDefault
 try with_reducible refine wpAny_holding ?_
 refine wpAny_bind (knd.pyHash hu hkey ?_)
 refine wpAny_bind (wpAny_dictFind_heap (s := { s with toks := s.toks + knd.draws k }) hu hkey ho hd he his hn ?_ ?_)
 · intro hno
   have hnot : k ∉ xs.map (·.1) := not_mem_keys_of_get hno
   refine wpAny_bind (wpAny_rule (wpAny_bind (wpAny_updateDictKeys (hz := by have e := size_of_entries he; omega) (s := { s with toks := s.toks + knd.draws k }) ho hd (wpAny_pure (hQ (atKey_none_of_get hno) _ ⟨_, _, ep + 1, Heap.get?_update_self _ ho (Obj.isFreed_of_dict (Obj.data_mapDictKeys hd _)),
     hc.mapDictKeys _, Obj.data_mapDictKeys hd _, ?_, ?_, ?_⟩ (Heap.SameBut.update ..))))))
   · rw [storedH_new (atKey_none_of_get hno)]
     simp [he, entryOfKey]
   · rw [storedH_new (atKey_none_of_get hno)]
     intro x hx
     rcases List.mem_append.mp hx with hx | hx
     · exact knd.keeps (his x hx) ho hd (Heap.SameBut.update ..)
     · simp only [List.mem_singleton] at hx
       subst hx
       exact knd.keeps hkey ho hd (Heap.SameBut.update ..)
   · rw [storedH_new (atKey_none_of_get hno)]
     rw [List.map_append, List.nodup_append]
     refine ⟨hn, by simp, ?_⟩
     intro x hx y hy
     simp only [List.map_cons, List.map_nil, List.mem_singleton] at hy
     subst hy
     exact fun e => hnot (e ▸ hx)
 · intro j p hj
   refine wpAny_bind (wpAny_dictEntries (s := { s with toks := s.toks + knd.draws k }) ho hd ?_)
   rw [entry_at he j, hj]
   exact wpAny_bind (wpAny_rule (wpAny_pure (hthere p (atKey_of_get hn hj))))
end
end L2
namespace L2
open PySem PySem.Spec PyProof.Rows
theorem xI {h : Heap} {a : Addr} {its : Array Value} (p : PlainL h a its) : h.IsList a its := let ⟨o, n, e, c, _, d⟩ := p; ⟨o, e, c, n, d⟩
section
variable {X : Cx} {a b : Expr} {t : TA} {p pos ep : Pos} {elts : List Expr} {ek : Nat}
end
end L2
namespace L2
open PySem PySem.Spec PyProof.Rows
set_option genInjectivity false in
set_option genSizeOf false in
structure cT where
 qual : Str
 body : FuncBody
 scope : Scope
 ps : List Str
 ys : List Str
def oF (t : cT) (cs : List Addr) (c : Addr) (fd : FuncData) : Prop :=
 fd.qualname = t.qual ∧ fd.body = t.body ∧ fd.scope = t.scope ∧ fd.globals = mainGlobals ∧ fd.closure = t.ys.zip cs ∧ fd.code = .ref c ∧ fd.builtins = builtinsNs ∧
  (∀ us : List Value, us.length = t.ps.length → bindArgs fd ⟨us, []⟩ = pure (t.ps.zip us)) ∧ cs.Nodup ∧ cs.length = t.ys.length
def fw (f : Addr) (t : cT) (cs : List Addr) (c : Addr) : HO := .ext fun h => ∃ od fd sl, h.get? f = some ⟨.type "function", od, .func fd, sl⟩ ∧ oF t cs c fd
def fN (c : Addr) (qual : Str) : HO := .ext fun h => ∃ o vs tk, h.get? c = some o ∧ o.data = .fields vs ∧ vs[1]? = some (.str qual tk)
def bg (c : Addr) (v : V) : HO := .ext fun h => ∃ u o, bh v u ∧ h.get? c = some o ∧ o.data = .cell (some u)
abbrev cX (H : Hp) : List Addr → List V → Prop := Paired fun c v => H c = some (bg c v)
structure gy (H : Hp) (f : Addr) (t : cT) (cs : List Addr) (cvs : List V) : Prop where
 ex : ∃ c, H f = some (fw f t cs c) ∧ H c = some (fN c t.qual)
 cells : cX H cs cvs
theorem cX.mem {H : Hp} {cs : List Addr} {cvs : List V} (h : cX H cs cvs) : ∀ c ∈ cs, ∃ v, H c = some (bg c v) := by
  induction h with
  | nil => intro c hc; cases hc
  | cons r t ih =>
    intro c hc
    rcases List.mem_cons.mp hc with rfl | hc
    · exact ⟨_, r⟩
    · exact ih c hc
theorem cX.get {H : Hp} {cs : List Addr} {cvs : List V} (h : cX H cs cvs) : ∀ {i : Nat} {v : V}, cvs[i]? = some v → ∃ c, cs[i]? = some c ∧ H c = some (bg c v) := by
  induction h with
  | nil => intro i v e; cases e
  | @cons c w cs ws r t ih =>
    intro i v e
    cases i with
    | zero => cases e; exact ⟨c, rfl, r⟩
    | succ i => exact ih e
def dm (cs : List Addr) (H : Hp) : Hp := fun b => if b ∈ cs then none else H b
def cR (cs : List Addr) (H H' : Hp) : Hp := fun b => if b ∈ cs then H b else H' b
theorem iy {cs : List Addr} {H : Hp} {b : Addr} (h : b ∈ cs) : dm cs H b = none := if_pos h
theorem cz {cs : List Addr} {H : Hp} {b : Addr} (h : b ∉ cs) : dm cs H b = H b := if_neg h
theorem ip {cs : List Addr} {H H' : Hp} {b : Addr} (h : b ∈ cs) : cR cs H H' b = H b := if_pos h
theorem cf {cs : List Addr} {H H' : Hp} {b : Addr} (h : b ∉ cs) : cR cs H H' b = H' b := if_neg h
theorem mK (cs : List Addr) (H : Hp) : cR cs H (dm cs H) = H := by
 funext b
 by_cases h : b ∈ cs
 · exact ip h
 · rw [cf h, cz h]
theorem tQ {cs : List Addr} {H H' : Hp} {d : Addr} {o : HO} (h : d ∉ cs) : cR cs H (upd H' d o) = upd (cR cs H H') d o := by
 funext b
 by_cases hb : b ∈ cs
 · have : b ≠ d := fun e => h (e ▸ hb)
   rw [ip hb, aK this, ip hb]
 · rw [cf hb]
   by_cases e : b = d
   · subst e; rw [am, am]
   · rw [aK e, aK e, cf hb]
theorem cX.notin {H : Hp} {cs : List Addr} {cvs : List V} (h : cX H cs cvs) {b : Addr} {o : HO} (e : H b = some o) (hn : ∀ φ, o ≠ .ext φ) : b ∉ cs := fun hb => by
 obtain ⟨v, ev⟩ := h.mem b hb
 rw [e] at ev
 exact hn _ (Option.some.inj ev)
theorem cX.hide {H : Hp} {cs : List Addr} {cvs : List V} (h : cX H cs cvs) {b : Addr} {o : HO} (e : H b = some o) (hn : ∀ φ, o ≠ .ext φ) : dm cs H b = some o := by
 rw [cz (h.notin e hn)]; exact e
section
variable {P : Program} {w : World} {fs : List Addr} {H H' : Hp} {h h' : Heap} {cs : List Addr} {cvs : List V}
theorem zO (hc : cX H cs cvs) (ok : HOk P w H h) : HOk P w (dm cs H) h := fun b o e => by
 by_cases hb : b ∈ cs
 · rw [iy hb] at e; cases e
 · rw [cz hb] at e
   exact (ok b o e).stay (fun c u _ q => q) (fun c q => hc.hide q fun φ z => nomatch z) fun c xs q => hc.hide q fun φ z => nomatch z
theorem qZ (hc : cX H cs cvs) (hfs : ∀ b ∈ fs, H b = none) (ok : HOk P w H h) (u : Un fs [] (dm cs H) H' h h') (ok' : HOk P w H' h') : Un fs [] H (cR cs H H') h h' ∧ HOk P w (cR cs H H') h' := by
 have obj : ∀ c ∈ cs, ∃ v o, H c = some (bg c v) ∧ h.get? c = some o ∧ h'.get? c = some o ∧ H' c = none := fun c hm => by
   obtain ⟨v, ev⟩ := hc.mem c hm
   obtain ⟨_, ⟨o, eo⟩, _⟩ := (show bB P w H h c (bg c v) from ok c _ ev)
   refine ⟨v, o, ev, eo, u.keep c o eo (iy hm) (fun z => ?_) (by simp), u.free c o eo (iy hm) (by simp)⟩
   rw [hfs c z] at ev; cases ev
 have nin : ∀ b, H b = none → b ∉ cs := fun b e hb => by
   obtain ⟨v, ev⟩ := hc.mem b hb
   rw [e] at ev; cases ev
 have nin' : ∀ b o, H' b = some o → b ∉ cs := fun b o e hb => by
   obtain ⟨_, _, _, _, _, z⟩ := obj b hb
   rw [e] at z; cases z
 refine ⟨⟨fun b o e n hb hx => u.keep b o e (by rw [cz (nin b n)]; exact n) hb hx, fun b o e n hb hx => u.slot b o e (by rw [cz (nin b n)]; exact n) hb hx,
   fun b o e n hx => by rw [cf (nin b n)]; exact u.free b o e (by rw [cz (nin b n)]; exact n) hx, u.there, fun b xs e => ?_, fun b o v e => ?_, fun b ps e => ?_⟩, fun b o e => ?_⟩
 · have hb := hc.notin e fun φ z => nomatch z
   rw [cf hb]; exact u.tups b xs (by rw [cz hb]; exact e)
 · have hb := hc.notin e fun φ z => nomatch z
   rw [cf hb]; exact u.frzs b o v (by rw [cz hb]; exact e)
 · have hb := hc.notin e fun φ z => nomatch z
   rw [cf hb]; exact u.tbls b ps (by rw [cz hb]; exact e)
 · by_cases hb : b ∈ cs
   · rw [ip hb] at e
     obtain ⟨v, o', ev, e1, e2, _⟩ := obj b hb
     rw [e] at ev; cases ev
     obtain ⟨φ1, _, φ3⟩ := (show bB P w H h b (bg b v) from ok b _ e)
     exact ⟨φ3 h h' φ1 fun q hq => by rw [e1] at hq; cases hq; exact e2, ⟨o', e2⟩, φ3⟩
   · rw [cf hb] at e
     exact (ok' b o e).stay (fun c u _ q => q) (fun c q => by rw [cf (nin' c _ q)]; exact q) fun c xs q => by rw [cf (nin' c _ q)]; exact q
theorem CR.back {outer : List Env} {s s' : Shared} {Q : VK} {E : XK} {r : Result} (hc : cX H cs cvs) (hfs : ∀ b ∈ frs outer, H b = none) (ok : HOk P w H s.heap)
    (h : CR (CX1 P w) outer P w (dm cs H) s (fun v H' => Q v (cR cs H H')) (fun c a H' => E c a (cR cs H H')) r s') : CR (CX1 P w) outer P w H s Q E r s' := by
  cases r with
  | error e =>
    obtain ⟨a, C, H', rfl, F, q⟩ := h
    obtain ⟨u, k⟩ := qZ hc hfs ok F.un F.hok
    have na : a ∉ cs := fun hb => by
      obtain ⟨v, ev⟩ := hc.mem a hb
      obtain ⟨_, ⟨o, eo⟩, _⟩ := (show bB P w H s.heap a (bg a v) from ok a _ ev)
      rw [F.new] at eo; cases eo
    obtain ⟨oe, vs, a0, T, oT, ts, t1, t2, t3, t4, t5, t6, t7, t8, t9, t10, t11⟩ := F.tr
    have nT : T ∉ cs := fun hb => by
      obtain ⟨v, ev⟩ := hc.mem T hb
      obtain ⟨_, ⟨o, eo⟩, _⟩ := (show bB P w H s.heap T (bg T v) from ok T _ ev)
      rw [t10] at eo; cases eo
    exact ⟨a, C, _, rfl, ⟨F.os, F.bare, u, k, F.new, by rw [cf na]; exact F.free, ⟨oe, vs, a0, T, oT, ts, t1, t2, t3, t4, t5, t6, t7, t8, t9, t10, by rw [cf nT]; exact t11⟩⟩, q⟩
  | ok fl =>
    cases fl with
    | ret u =>
      obtain ⟨v, H', os, bare, un, hok, rv, q⟩ := h
      obtain ⟨u', k⟩ := qZ hc hfs ok un hok
      exact ⟨v, _, os, bare, u', k, rv, q⟩
    | next => exact False.elim h
    | brk => exact False.elim h
    | cont => exact False.elim h
end
structure jp (P : Program) (w : World) (K : W.Frag) (mg : Str → Option Value) (base : Heap) (k : Nat) (t : cT) (sp : Sp) : Prop where
 run : ∀ (A : Around) (outer : List Env) (s : Shared) (H : Hp) (f : Addr) (cs : List Addr) (us : List Value) (vs cvs : List V) (Q : VK) (E : XK), bR k A → mZ P w K mg base A outer s H → gy H f t cs cvs → br vs us → vs.length = t.ps.length →
  sp (vs ++ cvs) (dm cs H) (fun v H' => Q v (cR cs H H')) (fun c a H' => E c a (cR cs H H')) → codeAny (model P w) A (.call (.ref f) ⟨us, []⟩) (CR (CX1 P w) outer P w H s Q E) s
def iA (N : List Str) (vs cvs : List V) : St := vs.map some ++ (List.replicate (N.length - vs.length - cvs.length) none ++ cvs.map some)
def lS (P : Program) (w : World) (K : W.Frag) (mg : Str → Option Value) (base : Heap) (N : List Str) (qual : Str) (scope : Scope) (f c : Addr) (cl : List (Str × Addr)) (A : Around) (outer : List Env) (s : Shared) (H : Hp) (E : XK) : Cx where
 prog := P
 w := w
 K := K
 mg := mg
 base := base
 A := A.deeper (W.envX qual scope s.heap.objs.size f (.ref c) cl)
 N := N
 s₀ := s
 H₀ := H
 env := W.envX qual scope s.heap.objs.size f (.ref c) cl
 outer := outer
 stack := W.envX qual scope s.heap.objs.size f (.ref c) cl :: outer
 ex := []
 calm := true
 fn := fun _ => false
 pn := []
 xe := fun e s' => wpAny (model P w) (A.deeper (W.envX qual scope s.heap.objs.size f (.ref c) cl)) (leaving (W.envX qual scope s.heap.objs.size f (.ref c) cl) e) (fun _ s'' => CX1 P w outer H s E e s'') (fun e' s'' => CX1 P w outer H s E e' s'') s'
structure jl (N ps ys : List Str) (sc : Scope) : Prop where
 kind : sc.kind = .function
 co : sc.isCoroutine = false
 gen : sc.isGenerator = false
 nd : N.Nodup
 pre : N.take ps.length = ps
 suf : N.drop (N.length - ys.length) = ys
 le : ps.length + ys.length ≤ N.length
 par : ∀ x ∈ ps, sc.names.lookup x = some .local
 nocell : ∀ x ∈ sc.names, x.2 ≠ .cell
 fr : ∀ x ∈ ys, sc.names.lookup x = some .free
 frs : ∀ y ∈ sc.names, y.2 = .free → y.1 ∈ ys
theorem lP {ys : List Str} {cs : List Addr} (hl : cs.length = ys.length) (nd : ys.Nodup) : ∀ {i : Nat} {y : Str} {c : Addr}, ys[i]? = some y → cs[i]? = some c → (ys.zip cs).lookup y = some c := by
  induction ys generalizing cs with
  | nil => intro i y c e; cases e
  | cons a r ih =>
    intro i y c e1 e2
    cases cs with
    | nil => cases e2
    | cons b cs =>
      cases i with
      | zero => cases e1; cases e2; show (List.lookup _ ((_, _) :: _)) = _; rw [List.lookup_cons]; simp
      | succ i =>
        have hne : y ≠ a := fun e => (List.nodup_cons.mp nd).1 (e ▸ List.mem_of_getElem? (show r[i]? = some y from e1))
        show (List.lookup y ((a, b) :: r.zip cs)) = _
        rw [List.lookup_cons, show (y == a) = false from by simpa using hne]
        exact ih (by simpa using hl) (List.nodup_cons.mp nd).2 (show r[i]? = some y from e1) (show cs[i]? = some c from e2)
theorem gW {ys : List Str} {cs : List Addr} : ∀ {y : Str} {c : Addr}, (ys.zip cs).lookup y = some c → ∃ i : Nat, ys[i]? = some y ∧ cs[i]? = some c := by
  induction ys generalizing cs with
  | nil => intro y c e; cases e
  | cons a r ih =>
    intro y c e
    cases cs with
    | nil => cases e
    | cons b cs =>
      have e : (List.lookup y ((a, b) :: r.zip cs)) = some c := e
      rw [List.lookup_cons] at e
      by_cases hy : (y == a) = true
      · rw [hy] at e; cases e; exact ⟨0, by simpa using (eq_of_beq hy).symm, rfl⟩
      · rw [show (y == a) = false from by simpa using hy] at e
        obtain ⟨i, h1, h2⟩ := ih e
        exact ⟨i + 1, h1, h2⟩
theorem mQ {ps : List Str} {us : List Value} (nd : ps.Nodup) : ∀ {i : Nat} {x : Str} {u : Value}, ps[i]? = some x → us[i]? = some u → (ps.zip us).reverse.lookup x = some u := by
  induction ps generalizing us with
  | nil => intro i x u e; cases e
  | cons a r ih =>
    intro i x u e1 e2
    cases us with
    | nil => cases e2
    | cons b us =>
      show (List.lookup x ((a, b) :: r.zip us).reverse) = _
      rw [List.reverse_cons, List.lookup_append]
      cases i with
      | zero =>
        cases e1; cases e2
        have : (r.zip us).reverse.lookup a = none := by
          rw [List.lookup_eq_none_iff]
          intro p hp
          have := (List.of_mem_zip (List.mem_reverse.mp hp)).1
          simp only [beq_eq_false_iff_ne, ne_eq, bne_iff_ne]
          intro e
          exact (List.nodup_cons.mp nd).1 (by rw [← e] at this; exact this)
        rw [this]; simp
      | succ i =>
        rw [ih (List.nodup_cons.mp nd).2 (show r[i]? = some x from e1) (show us[i]? = some u from e2)]; rfl
end L2
namespace L2
open PySem PySem.Spec PyProof.Rows
section
variable {P : Program} {w : World} {K : W.Frag} {mg : Str → Option Value} {base : Heap} {N ps ys : List Str} {qual : Str} {scope : Scope} {f c : Addr} {A : Around} {outer : List Env} {s : Shared} {H : Hp} {E : XK} {us : List Value} {vs cvs : List V} {cs : List Addr} {h1 : Heap} {tk : Nat}
theorem zC (S : jl N ps ys scope) (hd : A.handled = none) (e0 : mZ P w K mg base A outer s H) (ca : cX H cs cvs) (hcs : cs.Nodup) (hcl : cs.length = ys.length) (hl : vs.length = ps.length) (r : br vs us)
   (hns : h1.Ns s.heap.objs.size (fun x => (ps.zip us).reverse.lookup x)) (hk : ∀ b o, s.heap.get? b = some o → h1.get? b = some o) :
   Inv (lS P w K mg base N qual scope f c (ys.zip cs) A outer s (dm cs H) E) [] (iA N vs cvs) (dm cs H) { s with heap := h1, toks := tk } := by
 have ndY : ys.Nodup := by rw [← S.suf]; exact S.nd.sublist (List.drop_sublist _ _)
 have ndP : ps.Nodup := by rw [← S.pre]; exact S.nd.sublist (List.take_sublist _ _)
 have lcv : cvs.length = ys.length := by rw [← hcl]; exact (Paired.length ca).symm
 have cellOf : ∀ c ∈ cs, ∃ v, h1.IsCell c v := fun c hm => by
   obtain ⟨v, ev⟩ := ca.mem c hm
   obtain ⟨⟨u, o, _, eo, hd⟩, _, _⟩ := (show bB P w H s.heap c (bg c v) from e0.hok c _ ev)
   exact ⟨_, o, hk _ _ eo, hd⟩
 have memC : ∀ x c, (ys.zip cs).lookup x = some c → c ∈ cs := fun x c e => by
   obtain ⟨i, _, e2⟩ := gW e
   exact List.mem_of_getElem? e2
 have noA : ∀ b : Addr, b ∉ (lS P w K mg base N qual scope f c (ys.zip cs) A outer s (dm cs H) E).ex := fun b z => absurd (show b ∈ ([] : List Addr) from z) (by simp)
 have hid : ∀ b, H b = none → dm cs H b = none := fun b e => by
   by_cases hb : b ∈ cs
   · exact iy hb
   · rw [cz hb]; exact e
 refine ⟨⟨e0.mod, S.kind, rfl, rfl, Nat.le_refl _, fun y z c h1 h2 => ?_, fun y hy => ?_, fun y c hf _ => ?_, fun _ => hd, Around.frames_deeper e0.frames, .inr ⟨rfl, rfl⟩, fun b z => absurd z (noA b), fun b o e => ⟨(e0.bs b o e).1, hid b (e0.bs b o e).2⟩, e0.bsz, fun b _ _ => noA b, fun b z => absurd z (noA b), e0.funs, fun b hb => hid b (e0.frf b hb)⟩,
   rfl, e0.bare, Un.kept hk, ⟨_, hns, fun i y v q1 q2 q3 => ?_⟩, fun y c h => cellOf c (memC y c h), hid _ (e0.hok.fresh (Nat.le_refl _)), fun y c h => iy (memC y c h), fun p hp => absurd (show p ∈ ([] : List (Addr × Obj)) from hp) (by simp), (zO ca e0.hok).kept hk, ?_⟩
 · obtain ⟨i, e1, e2⟩ := gW (show (ys.zip cs).lookup y = some c from h1)
   obtain ⟨j, e3, e4⟩ := gW (show (ys.zip cs).lookup z = some c from h2)
   have : i = j := by
     obtain ⟨a1, b1⟩ := List.getElem?_eq_some_iff.mp e2
     obtain ⟨a2, b2⟩ := List.getElem?_eq_some_iff.mp e4
     exact (List.getElem_inj hcs).mp (b1.trans b2.symm)
   subst this
   rw [e1] at e3; exact Option.some.inj e3
 · have hy : scope.names.lookup y = some .cell ∨ scope.names.lookup y = some .free := hy
   rcases hy with hy | hy
   · exact absurd rfl (S.nocell _ (PySem.mem_of_lookup hy))
   · obtain ⟨i, hi, e⟩ := List.mem_iff_getElem.mp (S.frs _ (PySem.mem_of_lookup hy) rfl)
     have hi2 : i < cs.length := by omega
     exact ⟨cs[i], lP hcl ndY (List.getElem?_eq_some_iff.mpr ⟨hi, e⟩) (List.getElem?_eq_getElem hi2)⟩
 · exact absurd (show false = true from hf) Bool.false_ne_true
 · unfold iA at q2
   by_cases hi : i < vs.length
   · rw [List.getElem?_append_left (by simpa using hi), List.getElem?_map] at q2
     have ha : vs[i]? = some v := by
       cases e : vs[i]? with
       | none => rw [e] at q2; cases q2
       | some a => rw [e] at q2; cases q2; rfl
     obtain ⟨u, hu, rv⟩ := r.get ha
     have hp : ps[i]? = some y := by
       rw [← S.pre, List.getElem?_take_of_lt (by omega)]; exact q1
     exact ⟨u, rv, .inl ⟨S.par y (List.mem_of_getElem? hp), mQ ndP hp hu⟩⟩
   · rw [List.getElem?_append_right (by simpa using hi), List.length_map] at q2
     by_cases hj : i - vs.length < N.length - vs.length - cvs.length
     · rw [List.getElem?_append_left (by simpa using hj), List.getElem?_replicate] at q2
       split at q2 <;> cases q2
     · rw [List.getElem?_append_right (by simpa using hj), List.length_replicate, List.getElem?_map] at q2
       have ha : cvs[i - vs.length - (N.length - vs.length - cvs.length)]? = some v := by
        cases e : cvs[i - vs.length - (N.length - vs.length - cvs.length)]? with
        | none => rw [e] at q2; cases q2
        | some a => rw [e] at q2; cases q2; rfl
       have hle := S.le
       have hiN : i < N.length := (List.getElem?_eq_some_iff.mp q1).1
       have hx : i - vs.length - (N.length - vs.length - cvs.length) = i - (N.length - ys.length) := by omega
       rw [hx] at ha
       have hy : ys[i - (N.length - ys.length)]? = some y := by
        have e1 : N.drop (N.length - ys.length) = ys := S.suf
        have e2 : (N.drop (N.length - ys.length))[i - (N.length - ys.length)]? = some y := by
         rw [List.getElem?_drop]
         rw [show N.length - ys.length + (i - (N.length - ys.length)) = i by omega]; exact q1
        rw [e1] at e2; exact e2
       obtain ⟨c, ec, hc⟩ := ca.get ha
       obtain ⟨⟨u, o, ru, eo, hdo⟩, _, _⟩ := (show bB P w H s.heap c (bg c v) from e0.hok c _ hc)
       exact ⟨u, ru, .inr ⟨.inr (S.fr y (List.mem_of_getElem? hy)), c, lP hcl ndY hy ec, o, hk _ _ eo, hdo⟩⟩
 · unfold iA
   show _ = N.length
   have := S.le
   rw [List.length_append, List.length_append, List.length_map, List.length_map, List.length_replicate]
   omega
end
section
variable {P : Program} {w : World} {K : W.Frag} {mg : Str → Option Value} {base : Heap} {k : Nat} {t : cT} {N : List Str} {sp : Sp}
theorem uT {body : List Stmt} (hb : t.body = .stmts body) (S : jl N t.ps t.ys t.scope)
    (hbody : ∀ (f c : Addr) (cl : List (Str × Addr)) (A : Around) (outer : List Env) (s : Shared) (H : Hp) (vs cvs : List V) (Q : VK) (E : XK), bR k (A.deeper (W.envX t.qual t.scope s.heap.objs.size f (.ref c) cl)) → vs.length = t.ps.length → cvs.length = t.ys.length → sp (vs ++ cvs) H Q E →
      ∃ td, PSs (lS P w K mg base N t.qual t.scope f c cl A outer s H E) body td ∧ td { nx := fun _ H' => Q .non H', rt := Q } (iA N vs cvs) H) : jp P w K mg base (k + 1) t sp := by
  refine ⟨fun A outer s H f cs us vs cvs Q E hr e0 ca r hl hsp => ?_⟩
  obtain ⟨c, hf, hcc⟩ := ca.ex
  have KX : K.In s.heap := e0.mod.kin.keeps fun b o e => (e0.bs b o e).1
  have lim : s.heap.NoLimit := e0.mod.nolimit.keeps fun b o e => (e0.bs b o e).1
  obtain ⟨⟨od, fd, sl, ho, h1, h2, h3, h4, h5, h6, h7, h8, h9, h10⟩, _, _⟩ := (show bB P w H s.heap f (fw f t cs c) from e0.hok f _ hf)
  obtain ⟨⟨o, vs', tk, hco, hdo, hv⟩, _, _⟩ := (show bB P w H s.heap c (fN c t.qual) from e0.hok c _ hcc)
  have hcd : s.heap.CodeRec fd.code fd.qualname := ⟨c, o, vs', tk, h6, hco, hdo, by rw [h1]; exact hv⟩
  refine codeAny_mono (codeAny_call_function (R := CR (CX1 P w) outer P w (dm cs H) s (fun v H' => Q v (cR cs H H')) (fun c a H' => E c a (cR cs H H'))) hr.depth ho rfl (by rw [h3]; exact S.co) (by rw [h3]; exact S.gen) (h2.trans hb) hcd ?_) fun r s' h => CR.back ca.cells e0.frf e0.hok h
  rw [h8 us (by rw [← r.length]; exact hl), h3, h4, h5, h1, h6, h7]
  refine wpAny_pure (wpAny_newFunctionEnv S.nocell (fun y hy => S.par y.1 (List.of_mem_zip hy).1) (fun h' hns hsb => ⟨lim.fresh _ hsb, ?_⟩) S.kind)
  have hk : ∀ b o, s.heap.get? b = some o → h'.get? b = some o := fun b o e => hsb.extBut b o (Nat.ne_of_lt (Heap.lt_size e)) (Heap.get?_push_of_some _ e)
  have lcv : cvs.length = t.ys.length := by rw [← h10]; exact (Paired.length ca.cells).symm
  obtain ⟨td, ht, hq⟩ := hbody f c (t.ys.zip cs) A outer s (dm cs H) vs cvs _ _ (hr.deeper _) hl lcv hsp
  have I := zC (tk := s.toks + (t.ps.zip us).length) (qual := t.qual) (f := f) (c := c) (E := fun c a H' => E c a (cR cs H H')) S hr.hd e0 ca.cells h9 h10 hl r hns hk
  show codeAny _ _ (.func body (W.envX t.qual t.scope s.heap.objs.size f (.ref c) (t.ys.zip cs))) _ _
  refine codeAny_func ?_
  refine wpAny_mono (ht [] _ (iA N vs cvs) _ _ I hq) (fun fl s' hs => ?_) fun e s' hs => hs
  cases fl with
  | ret u =>
    obtain ⟨v, σ', H', J, rv, q⟩ := hs
    exact ⟨v, H', J.os, J.bare, J.base, J.hok, rv, q⟩
  | next =>
    obtain ⟨σ', H', J, q⟩ := hs
    exact ⟨V.non, H', J.os, J.bare, J.base, J.hok, rfl, q⟩
  | brk =>
    obtain ⟨_, _, _, q⟩ := hs
    exact False.elim q
  | cont =>
    obtain ⟨_, _, _, q⟩ := hs
    exact False.elim q
end
end L2
namespace L2
open PySem PySem.Spec PyProof.Rows
def BM (mg : Str → Option Value) (h : Heap) : Prop := ∃ bm ob, mg "__builtins__" = some (.ref bm) ∧ bm ≠ builtinsNs ∧ h.get? bm = some ob ∧ ob.cls = .type "module" ∧ ob.dict = some builtinsNs ∧ ob.data = .plain
section
variable {X : Cx} {pins : List (Addr × Obj)} {σ : St} {H : Hp} {s : Shared} {P c : Addr} {ps : Array Value} {t : cT} {cs : List Addr} {h' : Heap} {tk : Nat} {fd : FuncData}
theorem xk {more : Array Value} (I : Inv X pins σ H s) (hP : H P = some (.tbl ps)) (hx : Heap.ExtBut P s.heap h') (hge : s.heap.objs.size ≤ c) (hlt : c < h'.objs.size) (hrec : h'.CodeRec (.ref c) t.qual)
   (htb : h'.get? P = some (W.tabObj (ps ++ more))) (hfd : oF t cs c fd) :
   Inv X pins σ (upd (upd (upd H P (.tbl (ps ++ more))) c (fN c t.qual)) h'.objs.size (fw h'.objs.size t cs c)) { s with heap := h'.push { cls := .type "function", data := .func fd }, toks := tk } := by
 have hcn : H c = none := I.hok.fresh hge
 have hfn : H h'.objs.size = none := I.hok.fresh (Nat.le_of_lt (Nat.lt_of_le_of_lt hge hlt))
 have ncP : c ≠ P := (bj hP hcn).symm
 have nfP : h'.objs.size ≠ P := (bj hP hfn).symm
 have ncf : c ≠ h'.objs.size := Nat.ne_of_lt hlt
 have old : ∀ b o, s.heap.get? b = some o → b ≠ c ∧ b ≠ h'.objs.size := fun b o e => ⟨Nat.ne_of_lt (Nat.lt_of_lt_of_le (Heap.lt_size e) hge), Nat.ne_of_lt (Nat.lt_of_lt_of_le (Heap.lt_size e) (Nat.le_of_lt (Nat.lt_of_le_of_lt hge hlt)))⟩
 have keepP : ∀ b o, b ≠ P → s.heap.get? b = some o → (h'.push { cls := .type "function", data := .func fd }).get? b = some o := fun b o hb e => Heap.get?_push_of_some _ (hx b o hb e)
 have neP : ∀ b, H b = none → b ≠ P := fun b e z => by rw [z, hP] at e; cases e
 have obj : ∀ b o, H b = some o → ∃ u, s.heap.get? b = some u := fun b o e => wA (I.hok b o e)
 have same : ∀ b o, H b = some o → b ≠ P → (upd (upd (upd H P (.tbl (ps ++ more))) c (fN c t.qual)) h'.objs.size (fw h'.objs.size t cs c)) b = some o := fun b o e hb => by
   rw [aK (bj e hfn), aK (bj e hcn), aK hb]; exact e
 refine I.un ⟨fun b o e n hb hx' => keepP b o (neP b n) e, fun b o e n hb hx' => ⟨o.slots, keepP b o (neP b n) e⟩, fun b o e n hx' => ?_, fun b o e hx' => ?_, fun b xs e => same b _ e (kS e hP (fun z => nomatch z)), fun b o u e => same b _ e (kS e hP (fun z => nomatch z)), fun b qs e => ?_⟩ fun b o e => ?_
 · rw [aK (old b o e).2, aK (old b o e).1, aK (neP b n)]; exact n
 · by_cases hb : b = P
   · subst hb; exact ⟨_, Heap.get?_push_of_some _ htb⟩
   · exact ⟨o, keepP b o hb e⟩
 · by_cases hb : b = P
   · subst hb
     rw [hP] at e; cases e
     exact ⟨more, by rw [aK nfP.symm, aK ncP.symm, am]⟩
   · exact ⟨#[], by rw [same b _ e hb]; simp⟩
 · by_cases hf : b = h'.objs.size
   · subst hf
     rw [am] at e; cases e
     refine ⟨⟨_, fd, _, Heap.get?_push_size _ rfl, hfd⟩, ⟨_, Heap.get?_push_size _ rfl⟩, ?_⟩
     rintro h1 h2 ⟨od, fd', sl, e1, e2⟩ k
     exact ⟨od, fd', sl, k _ e1, e2⟩
   · rw [aK hf] at e
     by_cases hc : b = c
     · subst hc
       rw [am] at e; cases e
       obtain ⟨c2, oc, vs, tq, e0, e1, e2, e3⟩ := hrec
       cases e0
       refine ⟨⟨oc, vs, tq, Heap.get?_push_of_some _ e1, e2, e3⟩, ⟨_, Heap.get?_push_of_some _ e1⟩, ?_⟩
       rintro h1 h2 ⟨o, vs, tk, a1, a2, a3⟩ k
       exact ⟨o, vs, tk, k _ a1, a2, a3⟩
     · rw [aK hc] at e
       by_cases hp : b = P
       · subst hp
         rw [am] at e; cases e
         exact Heap.get?_push_of_some _ htb
       · rw [aK hp] at e
         refine (I.hok b o e).stay (fun a u ha q => keepP a u ?_ q) (fun a q => same a _ q (kS q hP (fun z => nomatch z))) fun a xs q => same a _ q (kS q hP (fun z => nomatch z))
         rcases ha with rfl | ha
         · exact hp
         · exact kS ha hP (fun z => nomatch z)
theorem wS (I : Inv X pins σ H s) (hk : ∀ b o, s.heap.get? b = some o → h'.get? b = some o) (hsz : s.heap.objs.size ≤ h'.objs.size) (hfd : oF t cs c fd) :
  Inv X pins σ (upd H h'.objs.size (fw h'.objs.size t cs c)) { s with heap := h'.push { cls := .type "function", data := .func fd }, toks := tk } := by
 refine I.laid (a := h'.objs.size) (o := fw h'.objs.size t cs c) (fun b u e => Heap.get?_push_of_some _ (hk b u e)) hsz ⟨⟨_, fd, _, Heap.get?_push_size _ rfl, hfd⟩, ⟨_, Heap.get?_push_size _ rfl⟩, ?_⟩
 rintro h1 h2 ⟨od, fd', sl, e1, e2⟩ k
 exact ⟨od, fd', sl, k _ e1, e2⟩
end
def vQ (P : Addr) (pos : Pos) (t : cT) (cs : List Addr) : TE := fun _ H Q => ∃ ps, H P = some (.tbl ps) ∧ TriplesOk ps.toList ∧
  ((codeAmong pos ps.toList = none ∧ ∀ c f, H c = none → H f = none → c ≠ f → Q (.ref f) (upd (upd (upd H P (.tbl (ps ++ #[rawInt pos.line, rawInt pos.col, .ref c]))) c (fN c t.qual)) f (fw f t cs c))) ∨
   ∃ c, codeAmong pos ps.toList = some (.ref c) ∧ ∀ f, H f = none → Q (.ref f) (upd H f (fw f t cs c)))
section
variable {X : Cx} {c0 P : Addr} {params : Arguments} {scope : Scope} {pos : Pos} {t : cT} {cs : List Addr}
theorem zR {pins : List (Addr × Obj)} {σ : St} {H : Hp} {s : Shared} {ps : Array Value} (I : Inv X pins σ H s) (hP : H P = some (.tbl ps)) (B : BM X.mg X.base) :
   s.heap.get? P = some (W.tabObj ps) ∧ s.heap.Ns mainGlobals X.mg ∧ mainGlobals ≠ P ∧ s.heap.BuiltinsAt X.mg P := by
 have hPo : s.heap.get? P = some (W.tabObj ps) := I.hok P _ hP
 have hg : s.heap.Ns mainGlobals X.mg := I.mod.glob.keeps I.bk
 have hgP : mainGlobals ≠ P := fun q => by
   obtain ⟨o, es, ep, e, hd, _⟩ := hg
   rw [q, hPo] at e; cases e; cases hd
 obtain ⟨bm, ob, b1, b2, b3, b4, b5, b6⟩ := B
 have b3' := I.bk _ _ b3
 refine ⟨hPo, hg, hgP, bm, ob, b1, b2, fun q => ?_, fun q => ?_, b3', b4, b5, b6⟩
 · obtain ⟨o, es, ep, e, hd, _⟩ := hg
   rw [q, e] at b3'; cases b3'; rw [hd] at b6; cases b6
 · rw [q, hPo] at b3'; cases b3'; cases b4
theorem ya (i : Nat) {name : Str} {body : List Stmt} (hN : X.N.Nodup) (B : BM X.mg X.base) (C : W.CodeHd X.base c0 P) (hcode : X.env.code = .ref c0) (hcl : closureFor scope X.env = pure (t.ys.zip cs)) (nd : cs.Nodup) (hl : cs.length = t.ys.length)
   (hq : qualnameIn X.env name name = t.qual) (hb : t.body = .stmts body) (hs : t.scope = scope)
   (hbind : ∀ (cl : List (Str × Addr)) (doc pm cdv ct : Value) (us : List Value), us.length = t.ps.length → bindArgs (W.fnX name t.qual params body scope cl .none .none doc pm none cdv ct) ⟨us, []⟩ = pure (t.ps.zip us))
   (hi : X.N[i]? = some name := by rfl) (hx : Loc X.env.scope name := by first | exact .inl rfl | exact .inr rfl) (hf : X.fn name = true ∨ X.env.scope.names.lookup name = some .local := by first | exact .inl rfl | exact .inr rfl)
   (hd0 : params.defaults = [] := by rfl) (hk0 : params.kw_defaults = [] := by rfl) (ha : annTrees params none X.env = [] := by rfl) :
   QS X (.FunctionDef name params body [] none [] scope none name pos) (aB (vQ P pos t cs) (ar i)) := ⟨fun pins s σ H D I h => by
 obtain ⟨ps, hP, ht, h⟩ := h
 obtain ⟨hPo, hg, hgP, hB⟩ := zR I hP B
 have hfd : ∀ (doc pm ct : Value) (c : Addr), oF t cs c (W.fnX name t.qual params body scope (t.ys.zip cs) .none .none doc pm none (.ref c) ct) := fun doc pm ct c => ⟨rfl, hb.symm, hs.symm, rfl, rfl, rfl, rfl, hbind _ _ _ _ _, nd, hl⟩
 refine W.nestDef_K hd0 hk0 ha ?_
 rw [hq]
 rcases h with ⟨hn, q⟩ | ⟨c, hff, q⟩
 · refine W.makeFunction_K hcl I.ok.glob hg hcode (C.keeps I.bk) hPo ht hn hgP hB fun c ctv doc h' tk hx' hge hlt hrec htb => ?_
   have I2 := xk (tk := tk) (cs := cs) I hP hx' hge hlt hrec htb (hfd doc ((X.mg "__name__").getD .none) ctv c)
   exact fR I2 hN hi hx (v := .ref h'.objs.size) rfl (fun s' I3 => ⟨_, _, I3, q c h'.objs.size (I.hok.fresh hge) (I.hok.fresh (Nat.le_of_lt (Nat.lt_of_le_of_lt hge hlt))) (Nat.ne_of_lt hlt)⟩) hf
 · refine W.makeFunction_hit hcl I.ok.glob hg hcode (C.keeps I.bk) hPo ht hff hB fun ctv doc h' tk hk hsz => ?_
   have I2 := wS (tk := tk) (cs := cs) I hk hsz (hfd doc ((X.mg "__name__").getD .none) ctv c)
   exact fR I2 hN hi hx (v := .ref h'.objs.size) rfl (fun s' I3 => ⟨_, _, I3, q h'.objs.size (I.hok.fresh hsz)⟩) hf⟩
end
section
variable {X : Cx} {k : Nat} {E : St → XK} {x : Str} {p pos : Pos} {e : Expr} {es : List Expr} {ta : TE}
abbrev jA := List (cT × Sp)
def kD (ks : jA) (f : Addr) (vs : List V) (H : Hp) (Q : VK) (E : XK) : Prop := ∃ ts ∈ ks, ∃ cs cvs, gy H f ts.1 cs cvs ∧ vs.length = ts.1.ps.length ∧ ts.2 (vs ++ cvs) (dm cs H) (fun v H' => Q v (cR cs H H')) (fun c a H' => E c a (cR cs H H'))
def fQ (ks : jA) (E : St → XK) (ta : TE) (t : TA) : TE := fun σ H Q => ta σ H fun x H1 => ∃ f, x = .ref f ∧ (∃ ts ∈ ks, ∃ cs cvs, gy H1 f ts.1 cs cvs) ∧ t σ H1 fun vs H2 => kD ks f vs H2 Q (E σ)
theorem tP {P : Program} {w : World} {H : Hp} {h : Heap} {f : Addr} {t : cT} {cs : List Addr} {cvs : List V} (ok : HOk P w H h) (c : gy H f t cs cvs) : W.FnAt f h := by
 obtain ⟨c', hf, _⟩ := c.ex
 obtain ⟨⟨od, fd, sl, ho, _⟩, _, _⟩ := (show bB P w H h f (fw f t cs c') from ok f _ hf)
 exact ⟨_, _, _, _, ho⟩
def nq (P : Program) (w : World) (K : W.Frag) (mg : Str → Option Value) (base : Heap) (k : Nat) (ks : jA) : Prop := ∀ ts ∈ ks, jp P w K mg base k ts.1 ts.2
theorem fI {ks : jA} {t : TA} (hk : nq X.prog X.w X.K X.mg X.base k ks) (hr : bR k X.A) (hx : oR (CX1 X.prog X.w) X E) (hg : QE X (.Name x p) ta) (ha : QA X (e :: es) t) (hs : bV (e :: es) = true := by rfl) :
    QE X (.Call (.Name x p) (e :: es) [] pos) (fQ ks E ta t) := ⟨fun pins s σ H Q I h => by
  have h' : (cV e && bV es) = true := hs
  refine wpAny_Call_Name_kw (thn (hg.out pins s σ H _ I h) fun u s1 ⟨y, H1, I1, ry, f, ey, ⟨ts, hts, cs, cvs, ca⟩, q⟩ => ?_)
  subst ey
  obtain rfl : u = Value.ref f := ry
  refine W.callWith_F (tP I1.hok ca) (thn (ha.out pos pins s1 σ H1 _ I1 q) fun us s2 ⟨vs, H2, I2, rv, ts2, hm2, cs2, cvs2, ca2, hl, hsp⟩ => ⟨tP I2.hok ca2, ?_⟩)
    (bW (Bool.and_eq_true_iff.mp h').1 es X.env) (du (Bool.and_eq_true_iff.mp h').2)
  refine wpAny_call (codeAny_mono ((hk ts2 hm2).run X.A X.stack s2 H2 f cs2 us vs cvs2 Q (E σ) hr I2.env0 ca2 rv hl hsp) fun r s' hq => ?_)
  cases r with
  | error e => exact hx pins σ H2 s2 e s' I2 hq
  | ok fl =>
    cases fl with
    | ret u => exact I2.after hq
    | next => exact False.elim hq
    | brk => exact False.elim hq
    | cont => exact False.elim hq⟩
end
end L2
namespace L2
open PySem PySem.Spec PyProof.Rows
structure lQ where
 nx : St → Hp → Prop
 rt : St → VK
abbrev TSM := lQ → St → Hp → Prop
def SPM (X : Cx) (pins : List (Addr × Obj)) (D : lQ) (f : Flow) (s' : Shared) : Prop :=
 match f with
 | .next => ∃ σ' H', Inv X pins σ' H' s' ∧ D.nx σ' H'
 | .ret u => ∃ v σ' H', Inv X pins σ' H' s' ∧ bh v u ∧ D.rt σ' v H'
 | _ => False
structure QM (X : Cx) (st : Stmt) (t : TSM) : Prop where
 out : ∀ (pins : List (Addr × Obj)) (s : Shared) (σ : St) (H : Hp) (D : lQ), Inv X pins σ H s → t D σ H → wpAny (model X.prog X.w) X.A (exec st X.env) (SPM X pins D) X.xe s
structure QMs (X : Cx) (st : List Stmt) (t : TSM) : Prop where
 out : ∀ (pins : List (Addr × Obj)) (s : Shared) (σ : St) (H : Hp) (D : lQ), Inv X pins σ H s → t D σ H → wpAny (model X.prog X.w) X.A (execs st X.env) (SPM X pins D) X.xe s
def sP (t u : TSM) : TSM := fun D σ H => t { D with nx := fun σ' H' => u D σ' H' } σ H
def oC (t : TS) : TSM := fun D σ H => t { nx := D.nx, rt := fun _ _ => False } σ H
def xA (te : TE) : TSM := fun D σ H => te σ H (D.rt σ)
section
variable {X : Cx} {st : Stmt} {sts l m : List Stmt} {t u : TSM} {tS : TS} {e c : Expr} {te : TE} {tc : TT} {pos : Pos}
theorem qp (h : QS X st tS) : QM X st (oC tS) := ⟨fun pins s σ H D I hq => thn (h.out pins s σ H _ I hq) fun f s1 q => by
 cases f with
 | next => exact q
 | ret v => obtain ⟨_, _, _, _, _, z⟩ := q; exact z.elim
 | brk => obtain ⟨_, _, _, z⟩ := q; exact z.elim
 | cont => obtain ⟨_, _, _, z⟩ := q; exact z.elim⟩
theorem yG (h : QE X e te) : QM X (.Return (some e) pos) (xA te) := ⟨fun pins s σ H D I hq =>
 wpAny_Return_some (thn (h.out pins s σ H _ I hq) fun v s1 ⟨x, H1, I1, r1, q1⟩ => ⟨x, σ, H1, I1, r1, q1⟩)⟩
theorem pS (h1 : QM X st t) (h2 : QMs X sts u) : QMs X (st :: sts) (sP t u) := ⟨fun pins s σ H D I h => by
  refine wpAny_execs_cons (thn (h1.out pins s σ H _ I h) fun f s1 q => ?_)
  cases f with
  | next =>
    obtain ⟨σ', H', I', q⟩ := q
    exact h2.out pins s1 σ' H' D I' q
  | ret v => exact q
  | brk => exact q
  | cont => exact q⟩
theorem yd (h1 : QM X st t) : QMs X [st] t := ⟨fun pins s σ H D I h => by
 refine wpAny_execs_cons (thn (h1.out pins s σ H D I h) fun f s1 q => ?_)
 cases f with
 | next => exact wpAny_execs_nil q
 | ret v => exact q
 | brk => exact q
 | cont => exact q⟩
end
def ej : List (Nat × Addr) → St → Hp → Hp
  | [], _, H => H
  | (i, c) :: r, σ, H => match σ[i]? with
    | some (some v) => ej r σ (upd H c (bg c v))
    | _ => ej r σ H
theorem lL {P : Program} {w : World} {fs : List Addr} {H : Hp} {h h' : Heap} {σ : St} : ∀ (cs : List (Nat × Addr)) (H' : Hp), (cs.map (·.2)).Nodup → (∀ p ∈ cs, H' p.2 = none ∧ h.objs.size ≤ p.2 ∧ ∀ v, σ[p.1]? = some (some v) → ∃ u o, bh v u ∧ h'.get? p.2 = some o ∧ o.data = .cell (some u)) →
    Un fs [] H H' h h' → HOk P w H' h' → Un fs [] H (ej cs σ H') h h' ∧ HOk P w (ej cs σ H') h'
  | [], H', _, _, u, ok => ⟨u, ok⟩
  | (i, c) :: r, H', nd, hc, u, ok => by
    unfold ej
    have ndr := (List.nodup_cons.mp nd).2
    have hcr : ∀ p ∈ r, H' p.2 = none ∧ h.objs.size ≤ p.2 ∧ ∀ v, σ[p.1]? = some (some v) → ∃ u o, bh v u ∧ h'.get? p.2 = some o ∧ o.data = .cell (some u) := fun p hp => hc p (List.mem_cons_of_mem _ hp)
    split
    · rename_i v hv
      obtain ⟨hn, hge, hcell⟩ := hc (i, c) List.mem_cons_self
      have hn : H' c = none := hn
      have hge : h.objs.size ≤ c := hge
      obtain ⟨uv, o, ru, eo, hd⟩ := hcell v hv
      have eo : h'.get? c = some o := eo
      refine lL r (upd H' c (bg c v)) ndr (fun p hp => ⟨?_, (hcr p hp).2⟩) ⟨u.keep, u.slot, fun b ob e n hx => ?_, u.there, fun b xs e => ?_, fun b ob z e => ?_, fun b ps e => ?_⟩ fun b ob e => ?_
      · have : p.2 ≠ c := fun z => (List.nodup_cons.mp nd).1 (by rw [← z]; exact List.mem_map.mpr ⟨p, hp, rfl⟩)
        rw [aK this]; exact (hcr p hp).1
      · rw [aK (Nat.ne_of_lt (Nat.lt_of_lt_of_le (Heap.lt_size e) hge))]; exact u.free b ob e n hx
      · have z := u.tups b xs e; rw [aK (bj z hn)]; exact z
      · have z := u.frzs b ob _ e; rw [aK (bj z hn)]; exact z
      · obtain ⟨more, z⟩ := u.tbls b ps e; exact ⟨more, by rw [aK (bj z hn)]; exact z⟩
      · by_cases hb : b = c
        · subst hb
          rw [am] at e; cases e
          refine ⟨⟨uv, o, ru, eo, hd⟩, ⟨o, eo⟩, ?_⟩
          rintro h1 h2 ⟨u', o', r', e', d'⟩ k
          exact ⟨u', o', r', k _ e', d'⟩
        · rw [aK hb] at e
          exact (ok b ob e).stay (fun a q _ z => z) (fun a q => by rw [aK (bj q hn)]; exact q) fun a xs q => by rw [aK (bj q hn)]; exact q
    · exact lL r H' ndr hcr u ok
theorem Fun.okM {P : Program} {w : World} {K : W.Frag} {mg : Str → Option Value} {base : Heap} {x qual : Str} {st : Stmt} {f c0 : Addr} {fd : FuncData} {N ps : List Str} {k : Nat} {sp : Sp} {caps : Nat → List (Nat × Addr)} (F : Fun K x qual st f fd) (hcd : fd.code = .ref c0) (S : aF N ps (ap st)) (len : ∀ vs H Q E, sp vs H Q E → vs.length = ps.length)
    (hcaps : ∀ (L : Nat) (p : Nat × Addr), p ∈ caps L → ∃ y, N[p.1]? = some y ∧ (ap st).names.lookup y = some .cell ∧ (cellsFrom (L + 1) (ap st).names []).lookup y = some p.2) (hnd : ∀ L, ((caps L).map (·.2)).Nodup)
    (hbody : ∀ (A : Around) (outer : List Env) (s : Shared) (H : Hp) (vs : List V) (Q : VK) (E : XK), bR k (A.deeper (envOfC qual (ap st) s.heap.objs.size f (.ref c0))) → sp vs H Q E →
      ∃ t, QMs (gR (CX1 P w) P w K mg base N qual (ap st) f (.ref c0) A outer s H E) (bi st) t ∧ t { nx := fun σ H' => (∀ p ∈ caps s.heap.objs.size, H' p.2 = none) → Q .non (ej (caps s.heap.objs.size) σ H'), rt := fun σ v H' => (∀ p ∈ caps s.heap.objs.size, H' p.2 = none) → Q v (ej (caps s.heap.objs.size) σ H') } (dk N vs) H) : aZ P w K mg base (CX1 P w) (k + 1) f fd ps sp := by
  obtain ⟨oc, od, kV, doc, pm, an, cdv, ct, osl, rfl, lk, hcd'⟩ := F.ex
  obtain rfl : cdv = .ref c0 := hcd
  refine ⟨len, fun A outer s H args us vs Q E hr e0 hb r hsp => ?_⟩
  have hl := len _ _ _ _ hsp
  have KX : K.In s.heap := e0.mod.kin.keeps fun b o e => (e0.bs b o e).1
  have lim : s.heap.NoLimit := e0.mod.nolimit.keeps fun b o e => (e0.bs b o e).1
  have hkind : ∀ y ∈ ps.zip us, (ap st).names.lookup y.1 = some .local ∨ ((ap st).names.lookup y.1 = some .cell ∧ ((cellsFrom (s.heap.objs.size + 1) (ap st).names []).lookup y.1).isSome = true) := fun ⟨n, v⟩ hy => by
    rcases S.par n (List.of_mem_zip hy).1 with q | q
    · exact .inl q
    · exact .inr ⟨q, W.cellsFrom_some _ _ _ (.inl q)⟩
  refine codeAny_call_function hr.depth (KX _ _ lk) rfl S.co S.gen rfl (W.codeRec_of KX hcd') (hb _ _ _ _ ?_)
  refine wpAny_newFunctionEnv_cells S.kind hkind fun env he s1 x => ?_
  subst he
  refine ⟨lim.keeps x.toInCall.keep, codeAny_func ?_⟩
  obtain ⟨t, ht, hq⟩ := hbody A outer s H vs Q E (hr.deeper _) hsp
  have I : Inv (gR (CX1 P w) P w K mg base N qual (ap st) f (.ref c0) A outer s H E) [] (dk N vs) H s1 := nG S hr.hd e0 hl r x
  refine wpAny_mono (ht.out [] s1 (dk N vs) H _ I hq) (fun fl s' hs => ?_) fun e s' hs => hs
  have fin : ∀ {σ' : St} {H' : Hp} {v : V} {u : Value}, Inv (gR (CX1 P w) P w K mg base N qual (ap st) f (.ref c0) A outer s H E) [] σ' H' s' → bh v u → ((∀ p ∈ caps s.heap.objs.size, H' p.2 = none) → Q v (ej (caps s.heap.objs.size) σ' H')) → CE outer P w H s Q u s' :=
    fun {σ' H' v u} J rv q => by
      have free : ∀ p ∈ caps s.heap.objs.size, H' p.2 = none := fun p hp => by
        obtain ⟨y, _, _, hc⟩ := hcaps _ p hp
        exact J.freeC y p.2 hc
      have hcond : ∀ p ∈ caps s.heap.objs.size, H' p.2 = none ∧ s.heap.objs.size ≤ p.2 ∧ ∀ v, σ'[p.1]? = some (some v) → ∃ u o, bh v u ∧ s'.heap.get? p.2 = some o ∧ o.data = .cell (some u) := fun p hp => by
        obtain ⟨y, hy, hk, hc⟩ := hcaps _ p hp
        refine ⟨free p hp, J.ok.cab y p.2 rfl hc, fun v hv => ?_⟩
        obtain ⟨m, _, hloc⟩ := J.loc
        obtain ⟨u', r', lk'⟩ := hloc p.1 y v hy hv (.inr (.inl hk))
        rcases lk' with ⟨z, _⟩ | ⟨_, c, ec, o, eo, hd⟩
        · have z : (ap st).names.lookup y = some .local := z
          rw [hk] at z; cases z
        · have ec : (cellsFrom (s.heap.objs.size + 1) (ap st).names []).lookup y = some c := ec
          rw [hc] at ec; cases ec
          exact ⟨u', o, r', eo, hd⟩
      obtain ⟨un, ok⟩ := lL (P := P) (w := w) (σ := σ') (caps s.heap.objs.size) H' (hnd _) hcond J.base J.hok
      exact ⟨v, _, J.os, J.bare, un, ok, rv, q free⟩
  cases fl with
  | ret u =>
    obtain ⟨v, σ', H', J, rv, q⟩ := hs
    exact fin J rv q
  | next =>
    obtain ⟨σ', H', J, q⟩ := hs
    exact fin (v := V.non) (u := Value.none) J rfl q
  | brk => exact False.elim hs
  | cont => exact False.elim hs
end L2
namespace L2
open PySem PySem.Spec PyProof.Rows
theorem ve {P : Program} {w : World} {K : W.Frag} {mg mb : Str → Option Value} {CX : CXT} {k : Nat} {fa a : Addr} {fd : FuncData} {x : Str} {sp : Sp} {s₁ : Shared} {vs : List Value} {ns : List Int} {tabs : List (Addr × Addr)}
    (KX : K.In s₁.heap) (hns : s₁.heap.Ns mainGlobals mg) (hb : s₁.heap.Ns builtinsNs mb) (hbb : ∀ x : Str, x ≠ "__name__" → mb x = bootBuiltins x) (hlim : s₁.heap.NoLimit) (hg : s₁.gens = #[]) (hB : BM mg s₁.heap)
    (hT : ∀ q ∈ tabs, W.CodeHd s₁.heap q.1 q.2 ∧ s₁.heap.get? q.2 = some (W.tabObj #[])) (hKT : W.noTabs K = true)
    (ha : s₁.heap.get? a = some { cls := .type "list", data := .seq vs.toArray }) (hi : IntsAre vs ns) (hl : ns.length ≤ sizeLine) (hr : bR k callerA)
    (F : ∀ base : Heap, K.In base → base.Ns mainGlobals mg → BM mg base → (∀ q ∈ tabs, W.CodeHd base q.1 q.2) → aZ P w K mg base CX k fa fd [x] sp) (hbind : ∀ (s : Shared) (u : Value), BindsTo s fd ⟨[u], []⟩ [(x, u)])
    (hsp : ∀ H : Hp, (∀ q ∈ tabs, H q.2 = some (.tbl #[])) → SqL K H a (ns.map V.int) → sp [.ref a] H (fun v _ => v = .bl true) fun _ _ _ => False)
    (hCX : ∀ H e s', CX [] H s₁ (fun _ _ _ => False) e s' → False) :
    codeAny (model P w) callerA (.call (.ref fa) ⟨[.ref a], []⟩) (fun r s' => r = .ok (.ret (.bool true)) ∧ OldK s₁.heap s'.heap ∧ s'.os = s₁.os ∧ AllBare s'.gens) s₁ := by
  have rv := nI hi
  have lenV := hi.length
  have tabK : ∀ q ∈ tabs, K.lookup q.2 = none := fun q hq => by
    cases e : K.lookup q.2 with
    | none => rfl
    | some o =>
      have e2 := KX _ _ e
      rw [(hT q hq).2] at e2; cases e2
      have := List.all_eq_true.mp hKT _ (W.mem_of_lookupK e)
      exact absurd (show false = true from this) Bool.false_ne_true
  have tabA : ∀ q ∈ tabs, q.2 ≠ a := fun q hq e => by
    have e2 := (hT q hq).2
    rw [e, ha] at e2; cases e2
  have core : ∀ H : Hp, (∀ q ∈ tabs, H q.2 = some (.tbl #[])) → SqL K H a (ns.map V.int) → HOk P w H s₁.heap → (∀ b, H b ≠ none → (b = a ∧ ∃ o xs, H b = some (.frz o (.lst xs))) ∨ ∃ q ∈ tabs, q.2 = b) → (∀ b, H b ≠ none → K.lookup b = none) →
      codeAny (model P w) callerA (.call (.ref fa) ⟨[.ref a], []⟩) (fun r s' => r = .ok (.ret (.bool true)) ∧ OldK s₁.heap s'.heap ∧ s'.os = s₁.os ∧ AllBare s'.gens) s₁ := by
    intro H hO hS hok hA hK
    have base_of : ∀ {b : Addr} {o : Obj}, s₁.heap.get? b = some o → H b = none → (ir s₁.heap H).get? b = some o := fun e n => vx e n
    have noA : ∀ {b : Addr} {o : Obj}, s₁.heap.get? b = some o → o.cls ≠ .none → o.cls ≠ .type "list" → H b = none := fun {b o} e c1 c2 => by
      cases q : H b with
      | none => rfl
      | some u =>
        rcases hA b (by rw [q]; simp) with ⟨rfl, _⟩ | ⟨p, hp, rfl⟩
        · rw [ha] at e; cases e; exact absurd rfl c2
        · rw [(hT p hp).2] at e; cases e; exact absurd rfl c1
    have noD : ∀ {b : Addr} {o : Obj} {es : Array DictEntry} {ep : Nat}, s₁.heap.get? b = some o → o.data = .dict es ep → H b = none := fun {b o es ep} e d => by
      cases q : H b with
      | none => rfl
      | some u =>
        rcases hA b (by rw [q]; simp) with ⟨rfl, _⟩ | ⟨p, hp, rfl⟩
        · rw [ha] at e; cases e; cases d
        · rw [(hT p hp).2] at e; cases e; cases d
    have nsK : ∀ {b : Addr} {m : Str → Option Value}, s₁.heap.Ns b m → (ir s₁.heap H).Ns b m := fun {b m} ⟨o, es, ep, e, d, r⟩ => ⟨o, es, ep, base_of e (noD e d), d, r⟩
    have hKb : K.In (ir s₁.heap H) := fun b o e => base_of (KX b o e) (by
      cases q : H b with
      | none => rfl
      | some u => rw [hK b (by rw [q]; simp)] at e; cases e)
    have hBb : BM mg (ir s₁.heap H) := by
      obtain ⟨bm, ob, b1, b2, b3, b4, b5, b6⟩ := hB
      exact ⟨bm, ob, b1, b2, base_of b3 (noA b3 (by rw [b4]; intro z; cases z) (by rw [b4]; intro z; exact absurd (Value.type.inj z) (by decide))), b4, b5, b6⟩
    have hCb : ∀ q ∈ tabs, W.CodeHd (ir s₁.heap H) q.1 q.2 := fun q hq => by
      obtain ⟨o, vs, file, tf, flags, tg, inF, text, tt, e1, e2, r⟩ := (hT q hq).1
      exact ⟨o, vs, file, tf, flags, tg, inF, text, tt, base_of e1 (noA e1 (by rw [e2]; intro z; cases z) (by rw [e2]; intro z; exact absurd (Value.type.inj z) (by decide))), e2, r⟩
    have hM : Mod K mg (ir s₁.heap H) := ⟨hKb, nsK hns, ⟨mb, nsK hb, hbb⟩, let ⟨mc, h1, h2⟩ := hlim; ⟨mc, nsK h1, h2⟩⟩
    have e0 : mZ P w K mg (ir s₁.heap H) callerA [] s₁ H := ⟨rfl, hM, fun b o e => zF e, Nat.le_of_eq (tO _ _), trivial, fun b hb => absurd (show b ∈ ([] : List Addr) from hb) (by simp), hok, .of_eq hg⟩
    refine codeAny_mono ((F _ hKb (nsK hns) hBb hCb).run callerA [] s₁ H ⟨[.ref a], []⟩ [.ref a] [.ref a] _ _ hr e0 (hbind s₁ (.ref a)) (.cons rfl .nil) (hsp H hO hS)) fun r s' h => ?_
    cases r with
    | error e => exact (hCX H e s' h).elim
    | ok fl =>
      cases fl with
      | next => exact False.elim h
      | brk => exact False.elim h
      | cont => exact False.elim h
      | ret u =>
        obtain ⟨v, H', os, bare, un, hok', r', q⟩ := h
        have q' : v = .bl true := q
        subst q'
        obtain rfl : u = Value.bool true := r'
        have all : ∀ b o, s₁.heap.get? b = some o → s'.heap.get? b = some o ∨ ∃ q ∈ tabs, q.2 = b ∧ ∃ more, s'.heap.get? b = some (W.tabObj more) := fun b o e => by
          cases q : H b with
          | none => exact .inl (un.keep b o e q (by intro z; exact absurd (show b ∈ ([] : List Addr) from z) (by simp)) (by simp))
          | some u =>
            rcases hA b (by rw [q]; simp) with ⟨rfl, ob, xs, z⟩ | ⟨p, hp, rfl⟩
            · have z2 := un.frzs b ob _ z
              obtain ⟨e1, _⟩ := hok b _ z
              obtain ⟨e2, _⟩ := hok' b _ z2
              rw [e] at e1; cases e1
              exact .inl e2
            · obtain ⟨more, z2⟩ := un.tbls p.2 _ (hO p hp)
              exact .inr ⟨p, hp, rfl, _, hok' p.2 _ z2⟩
        refine ⟨rfl, ⟨fun b o e => ?_, fun b o e => ?_⟩, os, bare⟩
        · rcases all b o e with z | ⟨p, hp, rfl, more, z⟩
          · exact .inl z
          · have e2 := (hT p hp).2
            rw [e] at e2; cases e2
            exact .inr (.inl ⟨((hT p hp).1.tab (hT p hp).2).isCodeTable, rfl, #[], more, rfl, by rw [Array.empty_append]; exact z⟩)
        · rcases all b o e with z | ⟨p, hp, rfl, more, z⟩
          · exact ⟨_, z⟩
          · exact ⟨_, z⟩
  cases hk : K.lookup a with
  | some o =>
    have e := KX a o hk
    rw [ha] at e
    cases e
    refine core (fun b => if b ∈ tabs.map (·.2) then some (.tbl #[]) else none) (fun q hq => if_pos (List.mem_map.mpr ⟨q, hq, rfl⟩)) (.inr ⟨_, vs.toArray, _, hk, rfl, rfl, rfl, by rw [List.size_toArray, lenV]; exact hl, by simpa using rv⟩) (fun b u z => ?_) (fun b z => ?_) fun b z => ?_
    · by_cases hb : b ∈ tabs.map (·.2)
      · have z' := (if_pos hb).symm.trans z
        cases z'
        obtain ⟨q, hq, rfl⟩ := List.mem_map.mp hb
        exact (hT q hq).2
      · have z' := (if_neg hb).symm.trans z
        cases z'
    · by_cases hb : b ∈ tabs.map (·.2)
      · obtain ⟨q, hq, e⟩ := List.mem_map.mp hb
        exact .inr ⟨q, hq, e⟩
      · exact absurd (if_neg hb) z
    · by_cases hb : b ∈ tabs.map (·.2)
      · obtain ⟨q, hq, rfl⟩ := List.mem_map.mp hb
        exact tabK q hq
      · exact absurd (if_neg hb) z
  | none =>
    refine core (fun b => if b = a then some (.frz { cls := .type "list", data := .seq vs.toArray } (.lst (ns.map V.int))) else if b ∈ tabs.map (·.2) then some (.tbl #[]) else none)
      (fun q hq => by show (if q.2 = a then _ else _) = _; rw [if_neg (tabA q hq), if_pos (List.mem_map.mpr ⟨q, hq, rfl⟩)]) (.inl (.inr ⟨{ cls := .type "list", data := .seq vs.toArray }, if_pos rfl⟩)) (fun b u z => ?_) (fun b z => ?_) fun b z => ?_
    · by_cases hb : b = a
      · have z' := (if_pos hb).symm.trans z
        cases z'
        subst hb
        exact ⟨ha, by rw [List.length_map]; exact hl, vs, _, rv, ha⟩
      · have z' : (if b ∈ tabs.map (·.2) then some (HO.tbl #[]) else none) = some u := (if_neg hb).symm.trans z
        by_cases hb2 : b ∈ tabs.map (·.2)
        · rw [if_pos hb2] at z'; cases z'
          obtain ⟨q, hq, rfl⟩ := List.mem_map.mp hb2
          exact (hT q hq).2
        · rw [if_neg hb2] at z'; cases z'
    · by_cases hb : b = a
      · exact .inl ⟨hb, _, _, if_pos hb⟩
      · by_cases hb2 : b ∈ tabs.map (·.2)
        · obtain ⟨q, hq, e⟩ := List.mem_map.mp hb2
          exact .inr ⟨q, hq, e⟩
        · exact absurd ((if_neg hb).trans (if_neg hb2)) z
    · by_cases hb : b = a
      · rw [hb]; exact hk
      · by_cases hb2 : b ∈ tabs.map (·.2)
        · obtain ⟨q, hq, rfl⟩ := List.mem_map.mp hb2
          exact tabK q hq
        · exact absurd ((if_neg hb).trans (if_neg hb2)) z
theorem wQ {l : W.OpenLaw} {n k : Nat} {q : Program} {loose : List Str} {XP : (Str → Option Value) → Heap → Prop} {YP : World → Heap → Prop} {d : DefRec} {K : Params → W.Frag} {CX : World → CXT} {x : Str} {names : List Str}
  (hn : l.most = some n) (hn2 : n ≤ sizeLine) (hdf : d.params.defaults = []) (hr : bR k callerA)
  (hY : ∀ (w : World) (h : Heap), YP w h → (K w.params).In h)
  (hq : ∀ y ∈ names, ((PyProof.Rows.recsOf q).find? fun e => e.name == y).isSome = true)
  (F : ∀ (w : World) (mg : Str → Option Value) (fa : Addr) (h : Heap), (K w.params).In h → h.Ns mainGlobals mg → mg d.name = some (.ref fa) →
   ∃ (fd : FuncData) (tabs : List (Addr × Addr)) (sp : Sp), (∀ (s : Shared) (u : Value), BindsTo s fd ⟨[u], []⟩ [(x, u)]) ∧ W.noTabs (K w.params) = true ∧ (∀ t ∈ tabs, ∃ y ∈ names, W.tabIn (K w.params) y = some t) ∧
    (∀ base : Heap, (K w.params).In base → base.Ns mainGlobals mg → BM mg base → (∀ t ∈ tabs, W.CodeHd base t.1 t.2) → aZ l.prog w (K w.params) mg base (CX w) k fa fd [x] sp) ∧
    ∀ (H : Hp) (a : Addr) (ns : List Int), ns.length ≤ n → (∀ t ∈ tabs, H t.2 = some (.tbl #[])) → SqL (K w.params) H a (ns.map V.int) → sp [.ref a] H (fun v _ => v = .bl true) fun _ _ _ => False)
  (hCX : ∀ (w : World) (H : Hp) (s : Shared) (e : Value) (s' : Shared), CX w [] H s (fun _ _ _ => False) e s' → False) :
  W.WalkO q loose XP YP l.row.toRowW d [] (fun f vs => PySem.call f vs) := by
 refine Att.attach_call hn hdf fun w s₀ s₁ mg mb fa o pm cd doc a vs ns G Y ho hd hcd hmg hobj hints hlen hg => ?_
 have KX := hY w _ Y
 obtain ⟨fd, tabs, sp, hb, hKT, htabs, hF, hsp⟩ := F w mg fa _ KX G.T.g hmg
 refine ve (tabs := tabs) KX G.T.g G.T.b G.T.builtins G.T.nolimit hg G.T.bmain (fun t ht => ?_) hKT hobj hints (Nat.le_trans hlen hn2) hr hF hb (fun H hO hS => hsp H a ns hlen hO hS) fun H e s' => hCX w H s₁ e s'
 obtain ⟨y, hy, e⟩ := htabs t ht
 obtain ⟨dd, hdd⟩ := Option.isSome_iff_exists.mp (hq y hy)
 exact W.tab_of G.T KX hdd e
end L2
namespace L2
open PySem PySem.Spec PyProof.Rows
section
variable {X : Cx}
theorem SPM.unwish {E : Value → Shared → Prop} {pins : List (Addr × Obj)} {D : lQ} {f : Flow} {s' : Shared} (h : SPM (X.wish E) pins D f s') : SPM X pins D f s' := by
 cases f with
 | next => obtain ⟨σ', H', I, q⟩ := h; exact ⟨σ', H', I.unwish, q⟩
 | brk => exact h
 | cont => exact h
 | ret u => obtain ⟨v, σ', H', I, r, q⟩ := h; exact ⟨v, σ', H', I.unwish, r, q⟩
theorem QMs.nox {st : List Stmt} {t : TSM} (h : QMs X.nox st t) : QMs X st t := ⟨fun pins s σ H D I hw =>
 wpAny_mono (h.out pins s σ H D (I.wish _) hw) (fun _ _ q => SPM.unwish q) fun _ _ z => False.elim z⟩
theorem jp.mono {P : Program} {w : World} {K : W.Frag} {mg : Str → Option Value} {base : Heap} {j k : Nat} {t : cT} {sp : Sp} (F : jp P w K mg base j t sp) (h : j ≤ k) : jp P w K mg base k t sp :=
 ⟨fun A outer s H f cs us vs cvs Q E hr => F.run A outer s H f cs us vs cvs Q E (hr.mono h)⟩
def ni : V → List V → Hp → VK → Prop := fun x vs H Q => ∃ a y d r H', x = .ref a ∧ vs = [y, d] ∧ Cl H a y d r H' ∧ Q r H'
theorem nO (hu : X.A.units + 1 < cLine) : MtR X "dict.setdefault" ni := by
 intro pins s σ H x xs v us Q I rx rs h
 obtain ⟨a, y, d, r, H', rfl, rfl, g, q⟩ := h
 obtain rfl : v = Value.ref a := rx
 obtain ⟨uy, ud, rfl, ry, rd⟩ := oX rs
 rcases g with ⟨g, rfl⟩ | ⟨g, p, rfl⟩
 · rcases g with ⟨kvs, k, e, rfl, l⟩ | ⟨kvs, k, b, e, rfl, eb, l⟩
   · obtain ⟨z, hd, vs, rel, dd⟩ := kN I.hok e
     obtain ⟨w', hw, rw'⟩ := eO.some_of (v := r) (o := valueAt vs k) (by rw [l]; exact rel.val k)
     exact call_meetsIn PySem.F.slot_dict_setdefault dd.typeIs PySem.F.entry_dict_setdefault (PySem.F.args_dict_setdefault_3 _ _ _) (kt_meets_setdefault (cA X.prog X.w) a (lV ry) hd ud)
       ⟨vs, dd, by rw [← rel.length]; exact z, (fun v' hv' => by rw [hw] at hv'; cases hv'; exact ⟨r, H', I.tok _, rw', q⟩), (fun hn => by rw [hw] at hn; cases hn)⟩
   · cases (show uy = Value.ref b from ry)
     obtain ⟨z, hd, xs, rel, dd⟩ := lX I.hok e
     obtain ⟨w', hw, rw'⟩ := eO.some_of (v := r) (o := (atKey xs k).map (·.2)) (by rw [l]; exact rel.val k)
     obtain ⟨pp, hp, hp2⟩ := Option.map_eq_some_iff.mp hw
     refine wpAny_call_entry PySem.F.slot_dict_setdefault dd.typeIs PySem.F.entry_dict_setdefault ?_ (PySem.F.args_dict_setdefault_3 _ _ _)
     unfold Builtin.«dict.setdefault»
     refine wpAny_bind ?_
     unfold Builtin.Dict.keyAndDefault
     refine wpAny_bind (wpAny_notOrdered_dict dd.typeIs ?_)
     show wpAny _ _ (pure (a, Value.ref b, some ud)) _ _ s
     refine wpAny_pure ?_
     show wpAny _ _ (if (a == sysModules) = true then _ else (dictSetDefault a (.ref b) ud >>= _)) _ _ s
     rw [if_neg (by rw [hd]; exact Bool.false_ne_true)]
     refine wpAny_bind (gA (tupleKind_room_in1 hu) (kj I.hok eb) dd (fun p' hp' => ?_) (fun hn => ?_) (by rw [← Paired.length rel]; exact z))
     · rw [hp] at hp'; cases hp'
       exact wpAny_pure ⟨_, rfl, ⟨r, H', I.tok _, by rw [hp2]; exact rw', q⟩⟩
     · rw [hp] at hn; cases hn
 · rcases g with ⟨kvs, k, e, rfl, l⟩ | ⟨kvs, k, b, e, rfl, eb, l⟩
   · rcases p with ⟨kvs', k', e', ey, lz, rfl⟩ | ⟨kvs', k', b', e', ey, _⟩
     · have ek : k = k' := by cases k <;> cases k' <;> first | (cases ey; rfl) | cases ey
       subst ek
       obtain ⟨z, hd, vs, rel, dd⟩ := FI I.hok e'
       have ee : kvs = kvs' := by
         rcases e with e | ⟨o, e⟩
         · rw [e'] at e; cases e; rfl
         · rw [e'] at e; cases e
       subst ee
       have hn : valueAt vs k = none := eO.none_of (by rw [l]; exact rel.val k)
       refine call_meetsIn PySem.F.slot_dict_setdefault dd.typeIs PySem.F.entry_dict_setdefault (PySem.F.args_dict_setdefault_3 _ _ _) (kt_meets_setdefault (cA X.prog X.w) a (lV ry) hd ud)
         ⟨vs, dd, by rw [← rel.length]; exact z, (fun v' hv' => by rw [hn] at hv'; cases hv'), fun _ h' dd' hs => ?_⟩
       have he : ∃ q, h'.get? a = some q := let ⟨q, _, _, hq, _⟩ := dd'; ⟨q, hq⟩
       have hl : (dH kvs k r).length ≤ sizeLine := by have := iT kvs k r; omega
       exact ⟨r, _, rn I (by rw [e']; exact True.intro) hs he (CB hl hd (rel.put k rd) dd'), rd, q⟩
     · cases k <;> cases ey
   · rcases p with ⟨kvs', k', e', ey, _⟩ | ⟨kvs', k', b', e', ey, eb', lz, rfl⟩
     · cases k' <;> cases ey
     · cases ey
       have ek : k = k' := jh (HO.tup.inj (Option.some.inj (eb.symm.trans eb')))
       subst ek
       cases (show uy = Value.ref b from ry)
       obtain ⟨z, hd, xs, rel, dd⟩ := yg I.hok e'
       have ee : kvs = kvs' := by
         rcases e with e | ⟨o, e⟩
         · rw [e'] at e; cases e; rfl
         · rw [e'] at e; cases e
       subst ee
       have hn : atKey xs k = none := by
         have := eO.none_of (o := (atKey xs k).map (·.2)) (by rw [l]; exact rel.val k)
         exact Option.map_eq_none_iff.mp this
       refine wpAny_call_entry PySem.F.slot_dict_setdefault dd.typeIs PySem.F.entry_dict_setdefault ?_ (PySem.F.args_dict_setdefault_3 _ _ _)
       unfold Builtin.«dict.setdefault»
       refine wpAny_bind ?_
       unfold Builtin.Dict.keyAndDefault
       refine wpAny_bind (wpAny_notOrdered_dict dd.typeIs ?_)
       show wpAny _ _ (pure (a, Value.ref b, some ud)) _ _ s
       refine wpAny_pure ?_
       show wpAny _ _ (if (a == sysModules) = true then _ else (dictSetDefault a (.ref b) ud >>= _)) _ _ s
       rw [if_neg (by rw [hd]; exact Bool.false_ne_true)]
       refine wpAny_bind (gA (tupleKind_room_in1 hu) (kj I.hok eb) dd (fun p' hp' => ?_) (fun _ h' dd' hs => ?_) (by rw [← Paired.length rel]; exact z))
       · rw [hn] at hp'; cases hp'
       · obtain ⟨q', es, ep, hq, h2, h3, h4, _, h5⟩ := dd'
         have hl : (dH kvs k r).length ≤ sizeLine := by have := iT kvs k r; omega
         refine wpAny_pure ⟨_, rfl, ⟨r, _, rn (ob := .dT (dH kvs k r)) I (by rw [e']; exact True.intro) hs ⟨q', hq⟩ ⟨hl, hd, _, (rel.put k eb rd).keeps fun c ys ec => ?_, q', es, ep, hq, h2, h3, h4, h5⟩, rd, q⟩⟩
         rw [aK (kS ec e' (fun z => nomatch z))]
         exact ec
def Its (z : Str) : It := ⟨fun i _ => i < z.length, fun i H x H' => H' = H ∧ ∃ c, z.cps[i]? = some c ∧ x = .str ⟨#[c]⟩, fun i _ => z.length ≤ i⟩
theorem xG {P : Program} {w : World} {K : W.Frag} {tg : Expr} (z : Str) (t : Tok) (it : Addr) : lF P w K tg (Its z) [it] it (fun i h => h.IsStrIter it "str_ascii_iterator" z t i) where
 mem := by simp
 obj := fun i h st b hb => by
  have e : b = it := by simpa using hb
  subst e
  obtain ⟨o, e, c, d⟩ := st
  exact ⟨o, e, fun v z => by rw [d] at z; cases z⟩
 keep := fun i h h' st k => let ⟨o, ho, r⟩ := st; ⟨o, k it (by simp) o ho, r⟩
 item := by
  intro X hP hw hK hc i pins s σ H E I hf st hg
  subst hP hw hK
  obtain ⟨f0, f1, f2, f3, f4, f5⟩ := hf it (by simp)
  have hi : i < z.cps.size := hg
  refine wpAny_pyNext_ascii_item st (c := z.cps[i]) (Array.getElem?_eq_getElem hi) fun h' st' sb => ?_
  have I1 : Inv X pins σ H { s with heap := h', toks := s.toks + 1 } := I.turned (t' := s.toks + 1) (fun b o hb e => (sb.2 b hb).trans e) f0 f1 f3 f4 f5
  obtain ⟨o, e, c, d⟩ := id st'
  exact ⟨_, rfl, mE (s := { s with heap := h', toks := s.toks + 1 }) e c d (by decide) ⟨.str ⟨#[z.cps[i]]⟩, H, I1, ⟨_, rfl⟩, ⟨rfl, _, Array.getElem?_eq_getElem hi, rfl⟩, st', fun b hb => (hf b hb).1⟩⟩
 done := by
  intro X hP hw hK hc i pins s σ H E I hf st hg
  subst hP hw hK
  obtain ⟨f0, f1, f2, f3, f4, f5⟩ := hf it (by simp)
  exact wpAny_pyNext_ascii_end (I.ok.hd hc) st (Array.getElem?_eq_none (show z.cps.size ≤ i from hg)) fun h' eb => ⟨rfl, I.turned (t' := s.toks) (fun b o hb e => eb b o hb e) f0 f1 f3 f4 f5⟩
 self := fun A i s Q E st h => by
  refine wpAny_pyIter_slot st.typeIs F.slot_str_ascii_iterator_iter (wpAny_call_entry F.slot_str_ascii_iterator_iter st.typeIs F.entry_str_ascii_iterator_iter ?_ (F.args_str_ascii_iterator_iter_1 _))
  show wpAny _ _ (ret (.ref it)) _ _ s
  exact wpAny_pure ⟨_, rfl, "str_ascii_iterator", _, st.typeIs, F.slot_str_ascii_iterator_next.lookup, h⟩
variable {a : Expr} {ta : TE} {tg : Expr}
def eX (K : W.Frag) (tl : TE) : TI := fun σ H R => tl σ H fun x H1 => match x with
 | .str z => z.cps.all (· < 128) = true ∧ R (Its z) H1
 | x => ∃ a, x = .ref a ∧ (((∃ xs, SqL K H1 a xs) ∧ R (Itl K a) H1) ∨ ((∃ xs, SqT K H1 a xs) ∧ R (Itt K a) H1))
theorem gm (h : QE X a ta) : QI X tg a (eX X.K ta) := ⟨fun pins s σ H R I hw => by
  refine thn (h.out pins s σ H _ I hw) fun v s1 ⟨x, H1, I1, r1, q1⟩ => ?_
  cases x with
  | str z =>
    obtain ⟨t, rfl⟩ := r1
    refine wpAny_pyIter_ascii q1.1 ?_
    refine ⟨s1.heap.objs.size, [s1.heap.objs.size], _, _, H1, rfl, I1.kept (t' := s1.toks) fun b o e => Heap.get?_push_of_some _ e, xG z t _, ⟨_, Heap.get?_push_size _ rfl, rfl, rfl⟩, fun b hb => ?_, q1.2⟩
    have e : b = s1.heap.objs.size := by simpa using hb
    subst e
    exact I1.fpOk (Nat.le_refl _) (I1.hok.fresh (Nat.le_refl _))
  | ref c =>
    obtain ⟨a, e, q⟩ := q1
    cases e
    cases r1
    rcases q with ⟨⟨xs, hq⟩, q⟩ | ⟨⟨xs, hq⟩, q⟩
    · obtain ⟨its, rv, p, hz⟩ := I1.list hq
      refine wpAny_pyIter_list (xI p) ?_
      refine ⟨s1.heap.objs.size, [s1.heap.objs.size], _, _, H1, rfl, I1.kept (t' := s1.toks) fun b o e => Heap.get?_push_of_some _ e, tM _ _, ⟨_, Heap.get?_push_size _ rfl, rfl, rfl⟩, fun b hb => ?_, q⟩
      have e : b = s1.heap.objs.size := by simpa using hb
      subst e
      exact I1.fpOk (Nat.le_refl _) (I1.hok.fresh (Nat.le_refl _))
    · obtain ⟨its, rv, p, hz⟩ := I1.tuple hq
      refine wpAny_pyIter_tuple (show s1.heap.IsTuple c its.toArray from p) ?_
      refine ⟨s1.heap.objs.size, [s1.heap.objs.size], _, _, H1, rfl, I1.kept (t' := s1.toks) fun b o e => Heap.get?_push_of_some _ e, rT _ _, ⟨_, Heap.get?_push_size _ rfl, rfl, rfl⟩, fun b hb => ?_, q⟩
      have e : b = s1.heap.objs.size := by simpa using hb
      subst e
      exact I1.fpOk (Nat.le_refl _) (I1.hok.fresh (Nat.le_refl _))
  | _ => obtain ⟨_, e, _⟩ := q1; cases e⟩
theorem yY : OpR X (binaryOp .Mult) (fun x y H Q => ∃ z n, x = .str z ∧ y = .int n ∧ (-1000 ≤ n ∧ n ≤ 1000 ∧ z.length ≤ 1000) ∧ Q (.str (Txt.mul z n)) H) := by
 intro pins s σ H x y v u Q I rx ry h
 obtain ⟨z, n, rfl, rfl, ⟨h1, h2, h3⟩, q⟩ := h
 obtain ⟨t, rfl⟩ := rx
 obtain ⟨t', rfl⟩ := ry
 refine SB.mul ⟨?_, fun hn _ => ?_, fun hn _ => ?_⟩ fun t' k => ⟨.str _, H, I.tok k, ⟨_, rfl⟩, q⟩
 · rw [decide_eq_false (by omega), decide_eq_false (by omega)]; rfl
 · intro hgt
   have h5 : (1000 : Int) ≤ (2 ^ 63 - 1) / n := Int.le_ediv_of_mul_le (by omega) (by omega)
   omega
 · have h6 : z.length * n.toNat ≤ 1000 * 1000 := Nat.mul_le_mul h3 (by omega)
   exact decide_eq_false (by rw [sizeLine_eq]; omega)
end
end L2
namespace L2
open PySem PySem.Spec PyProof.Rows
theorem vg {J : It} {n : Nat} {it : Nat → V} {Pk : Hp → Prop} {g : TG} {tb : TS} {D : iv} {σ : St} {H : Hp} (T : fv J n it Pk) (Pv : Nat → St → Hp → Prop) (h0 : Pv 0 σ H) (hl : ∀ i σ H, i ≤ n → Pv i σ H → Pk H)
   (hs : ∀ i σ H, i < n → Pv i σ H → g (it i) σ H fun σ2 H2 => tb { D with nx := Pv (i + 1), ct := Pv (i + 1), bk := D.nx } σ2 H2) (hd : ∀ σ H, Pv n σ H → D.nx σ H) :
   ∃ W : Nat → Nat → St → Hp → Prop, (∃ m, W 0 m σ H) ∧ ∀ i m σ H, W i m σ H →
    (J.stop i H ∧ D.nx σ H) ∨ (J.go i H ∧ ∃ N : St → Hp → Prop, (∀ σ' H', N σ' H' → ∃ m', m' < m ∧ W (i + 1) m' σ' H') ∧ ∀ x H', J.yld i H x H' → g x σ H' fun σ2 H2 => tb { D with nx := N, ct := N, bk := D.nx } σ2 H2) := by
 refine ⟨fun i m σ H => m = n - i ∧ i ≤ n ∧ Pv i σ H, ⟨n, by simp, Nat.zero_le _, h0⟩, ?_⟩
 rintro i m σ H ⟨rfl, hi, p⟩
 have q := hl i σ H hi p
 by_cases hlt : i < n
 · refine .inr ⟨T.go i H hlt q, Pv (i + 1), fun σ' H' p' => ⟨n - (i + 1), by omega, rfl, hlt, p'⟩, fun x H' y => ?_⟩
   obtain ⟨rfl, rfl⟩ := T.yld i H x H' hlt q y
   exact hs i σ _ hlt p
 · have e : i = n := by omega
   subst e
   exact .inl ⟨T.stop H q, hd σ H p⟩
theorem kE {α β : Type} {f : α → β} {l : List α} {i : Nat} {x : β} (h : (l.map f)[i]? = some x) : ∃ a, l[i]? = some a ∧ x = f a := by
 rw [List.getElem?_map] at h
 cases e : l[i]? with
 | none => rw [e] at h; cases h
 | some a => rw [e] at h; cases h; exact ⟨a, rfl, rfl⟩
theorem gy.keep {H H' : Hp} {f : Addr} {t : cT} {cs : List Addr} {cvs : List V} (k : ∀ b φ, H b = some (.ext φ) → H' b = some (.ext φ)) (c : gy H f t cs cvs) : gy H' f t cs cvs := by
 obtain ⟨⟨a, h1, h2⟩, h3⟩ := c
 refine ⟨⟨a, k _ _ h1, k _ _ h2⟩, ?_⟩
 clear h1 h2
 induction h3 with
 | nil => exact .nil
 | cons r t ih => exact .cons (k _ _ r) ih
theorem nR (k : List Key) : (k.map kV).all jY = true := by
 rw [List.all_map, List.all_eq_true]
 intro x _
 cases x <;> rfl
def bN : Key → PyData
 | .inl i => .int i
 | .inr z => .str z
theorem jD {K : W.Frag} {H : Hp} : ∀ k : List Key, DatVs K H (k.map kV) (k.map bN)
 | [] => .nil
 | .inl i :: r => .cons (.int i) (jD r)
 | .inr z :: r => .cons (.str z) (jD r)
theorem gF {K : W.Frag} {H : Hp} {a : Addr} {k : List Key} (h : H a = some (.tup (k.map kV))) : eE K H (.ref a) (.tuple (k.map bN)) := .tup (SqT.of h) (jD k)
theorem fE : ∀ k l : List Key, PyData.eqvAll (k.map bN) (l.map bN) = decide (k = l)
  | [], [] => by rfl
  | [], _ :: _ => by rw [decide_eq_false (by simp)]; rfl
  | _ :: _, [] => by rw [decide_eq_false (by simp)]; rfl
  | a :: r, b :: s => by
    show ((bN a).eqv (bN b) && PyData.eqvAll (r.map bN) (s.map bN)) = _
    rw [fE r s]
    have e : (bN a).eqv (bN b) = decide (a = b) := by
      cases a <;> cases b
      · rename_i i j
        show decide (i = j) = decide (Sum.inl i = Sum.inl j)
        simp
      · show false = _; simp
      · show false = _; simp
      · rename_i i j
        show (i == j) = decide ((Sum.inr i : Key) = Sum.inr j)
        by_cases h : i = j <;> simp [h]
    rw [e]
    by_cases h1 : a = b <;> by_cases h2 : r = s <;> simp [h1, h2]
def um : Key → Bool
 | .inl _ => true
 | .inr z => PyData.strOk z
theorem cU : ∀ {k : List Key}, k.all um = true → PyData.canLayAll0 (k.map bN) = true
  | [], _ => rfl
  | .inl i :: r, h => cU (k := r) (by rw [List.all_cons] at h; exact h)
  | .inr z :: r, h => by
    rw [List.all_cons, Bool.and_eq_true] at h
    show (PyData.strOk z && PyData.canLayAll0 (r.map bN)) = true
    rw [show PyData.strOk z = true from h.1, cU h.2]; rfl
theorem ia : ∀ k : List Key, PyData.depthAll (k.map bN) = 0
 | [] => rfl
 | .inl i :: r => by show max 0 (PyData.depthAll (r.map bN)) = 0; rw [ia r]; rfl
 | .inr i :: r => by show max 0 (PyData.depthAll (r.map bN)) = 0; rw [ia r]; rfl
theorem ixL {K : W.Frag} {H : Hp} {Q : VK} {L : Addr} {xs : List V} {x : V} {i : Int} {j : Nat} (hL : H L = some (.lst xs)) (e : i = j) (hx : xs[j]? = some x) (q : Q x H) : aq K (.ref L) (.int i) H Q := by
 subst e
 refine .inl (.inl ⟨L, xs, j, x, rfl, rfl, SqL.of hL, ?_, q⟩)
 have hj := (List.getElem?_eq_some_iff.mp hx).1
 rw [ug (by omega) (by omega)]
 simp [List.getD_eq_getElem?_getD, hx]
theorem tc1 {i : Nat} {σ : St} {x : V} {H : Hp} {R : List V → Hp → Prop} (e : σ[i]? = some (some x)) (h : R [x] H) : aa (ab i) af σ H R := by
 unfold aa af ab
 rw [e]; exact h
theorem Ds (k : List Key) : (PyData.tuple (k.map bN)).depth ≤ 150 := by show PyData.depthAll (k.map bN) + 1 ≤ 150; rw [ia]; decide
theorem uH {k l : List Key} (h : (!(PyData.tuple (k.map bN)).eqv (.tuple (l.map bN))) = true) : k ≠ l := fun e => by
 have h : (!PyData.eqvAll (k.map bN) (l.map bN)) = true := h
 rw [fE, decide_eq_true e] at h; cases h
theorem CO {k l : List Key} (h : (!(PyData.tuple (k.map bN)).eqv (.tuple (l.map bN))) = false) : k = l := by
 have h : (!PyData.eqvAll (k.map bN) (l.map bN)) = false := h
 rw [fE] at h
 simpa using h
def nS (K : W.Frag) (ns : List Str) : Bool := decide ((ns.map fun n => (W.tabIn K n).map (·.2)).Nodup)
theorem xT {l : List Addr} (h : (l.map some).Nodup) : l.Nodup := List.Pairwise.of_map some (fun a b h e => h (congrArg some e)) h
end L2
namespace HT
open PySem PyProof.Rows
theorem iz : fillsNumberSlot (.type "tuple") "mul" = pure false :=
 PySem.fillsNumberSlot_seq (id := "tuple.__mul__") (r := some (.builtin "tuple.__rmul__")) F.slot_tuple_mul.lookup (by decide +kernel) F.slot_tuple_rmul.lookup (by decide +kernel)
theorem kh : seqRepeat? (.type "tuple") = pure (some (.builtin "tuple.__mul__")) := by
 unfold seqRepeat?
 rw [PySem.seqSlot_of (T := "tuple") (name := "__mul__") (id := "tuple.__mul__") F.slot_tuple_mul.lookup (by decide +kernel), PySem.seqSlot_of (T := "tuple") (name := "__rmul__") (id := "tuple.__rmul__") F.slot_tuple_rmul.lookup (by decide +kernel)]
 rfl
theorem jj (a : Int) (t : Tok) (l : Addr) (items : Array Value) (n : Nat) (dd : Option Addr) (sl : Array (Option Value)) :
  Meets (Builtin.«int.__rmul__» ⟨[.int a t, .ref l], []⟩) (fun _ R s => s.heap.get? l = some { cls := .type "tuple", dict := dd, data := .seq items n, slots := sl } ∧ R (.ok (.ret Value.notImplemented)) s) :=
 .of_wp fun prog w A R s h => by obtain ⟨hp, g, d, tk, os⟩ := s; obtain ⟨hl, h⟩ := h; wp_walk; exact ⟨_, rfl, h⟩
theorem rS (l : Addr) (items : Array Value) (n : Nat) (x : Int) (u : Tok) (dd : Option Addr) (sl : Array (Option Value)) (h0 : (decide (x < -(2 ^ 63)) || decide (x ≥ 2 ^ 63)) = false) (h1 : (items.isEmpty || x == 1) = true) :
  Meets (Builtin.«tuple.__mul__» ⟨[.ref l, .int x u], []⟩) (fun _ R s => s.heap.get? l = some { cls := .type "tuple", dict := dd, data := .seq items n, slots := sl } ∧ R (.ok (.ret (.ref l))) s) :=
 .of_wp fun prog w A R s h => by obtain ⟨hp, g, d, tk, os⟩ := s; obtain ⟨hl, h⟩ := h; have f1 := AutoSeq1.idx_int; have f2 := AutoSeq1.sub_tuple_tuple; wp_walk using wpAny_loadPart' hl; refine wpAny_ite_false (decide_eq_false (by rw [h0]; decide)) ?_; wp_walk using wpAny_loadPart' hl; exact ⟨_, rfl, h⟩
theorem sO (l : Addr) (items : Array Value) (n : Nat) (x : Int) (u : Tok) (dd : Option Addr) (sl : Array (Option Value)) (h0 : (decide (x < -(2 ^ 63)) || decide (x ≥ 2 ^ 63)) = false) (h1 : (items.isEmpty || x == 1) = false)
  (h2 : (decide (x ≤ 0) || items.isEmpty) = false) (h3 : ¬ ((items.size : Int) * x > (2 ^ 63 - 1) / 8)) (h4 : ¬ Builtin.Tuple.tupleTooMany (items.size * x) = true) (h5 : (List.foldl (fun x1 x2 => x1 ++ x2) #[] (List.replicate x.toNat items)).size ≤ sizeLine) :
  Meets (Builtin.«tuple.__mul__» ⟨[.ref l, .int x u], []⟩) (fun _ R s => s.heap.get? l = some { cls := .type "tuple", dict := dd, data := .seq items n, slots := sl } ∧ R (.ok (.ret (Value.ref s.heap.objs.size))) { s with heap := s.heap.push { cls := Value.type "tuple", data := Data.seq (List.foldl (fun x1 x2 => x1 ++ x2) #[] (List.replicate x.toNat items)) }, toks := s.toks }) :=
 .of_wp fun prog w A R s h => by obtain ⟨hp, g, d, tk, os⟩ := s; obtain ⟨hl, h⟩ := h; have f1 := AutoSeq1.idx_int; have f2 := AutoSeq1.sub_tuple_tuple; wp_walk using wpAny_loadPart' hl; refine wpAny_ite_false (decide_eq_false (by rw [h0]; decide)) ?_; wp_walk using wpAny_loadPart' hl; refine wpAny_ite_false (decide_eq_false h3) ?_; wp_walk using wpAny_loadPart' hl; exact ⟨_, rfl, h⟩
end HT
namespace L2
open PySem PySem.Spec PyProof.Rows
section
variable {X : Cx}
def yj : R2 := fun x y H Q => ∃ a k xs, x = .ref a ∧ y = .int k ∧ H a = some (.tup xs) ∧ xs ≠ [] ∧ 1 ≤ k ∧ k ≤ 1000 ∧ xs.length ≤ 1000 ∧ ∀ p H', ay H H' → H' p = some (.tup (List.replicate k.toNat xs).flatten) → Q (.ref p) H'
theorem zS : OpR X (binaryOp .Mult) yj := by
 intro pins s σ H x y v u Q I rx ry h
 obtain ⟨a, k, xs, rfl, rfl, ha, hne, k1, k2, hl, q⟩ := h
 cases rx
 obtain ⟨t, rfl⟩ := ry
 obtain ⟨its, r, p1, hz⟩ := I.tuple (.inl (.inl ha))
 have hlen : its.length = xs.length := r.length.symm
 have hits : its ≠ [] := fun z => hne (r.nil_iff.mp z)
 obtain ⟨⟨cls, dd, data, sl⟩, ho, hc, n, hd⟩ := id p1
 simp only at hc hd
 subst hc hd
 have h0 : (decide (k < -(2 ^ 63)) || decide (k ≥ 2 ^ 63)) = false := by rw [decide_eq_false (by omega), decide_eq_false (by omega)]; rfl
 have hemp : its.toArray.isEmpty = false := by cases its with | nil => exact (hits rfl).elim | cons _ _ => rfl
 by_cases e : k = 1
 · subst e
   refine PySem.wpAny_binaryOp_repeat_ref (T := "tuple") (U := "int") (by decide) ⟨_, ho, rfl⟩ (fun s' => typeIs_int s' 1 t) HT.iz F.fills_int_mul F.slot_int_rmul HT.kh F.slot_int_index.lookup
     (call_meets F.slot_int_rmul (typeIs_int s 1 t) F.entry_int_rmul (F.args_int_rmul_2 _ _) (HT.jj 1 t a its.toArray n dd sl)
      ⟨ho, rfl, ⟨_, ho, rfl⟩, call_meets F.slot_tuple_mul ⟨_, ho, rfl⟩ F.entry_tuple_mul (F.args_tuple_mul_2 _ _) (HT.rS a its.toArray n 1 t dd sl h0 (by rw [hemp]; rfl)) ⟨ho, ?_⟩⟩)
   exact ⟨.ref a, H, I, rfl, q a H ay.rfl' (by rw [ha]; simp)⟩
 · have hsz : its.length * k.toNat ≤ 1000000 := Nat.le_trans (Nat.mul_le_mul (by omega : its.length ≤ 1000) (by omega : k.toNat ≤ 1000)) (by decide)
   have hszI : ((its.toArray.size : Nat) : Int) * k ≤ 1000000 := by
     have e1 : ((its.length * k.toNat : Nat) : Int) = (its.length : Int) * k := by rw [Int.natCast_mul, Int.toNat_of_nonneg (by omega)]
     rw [List.size_toArray, ← e1]; omega
   have hnew : List.foldl (fun x1 x2 => x1 ++ x2) #[] (List.replicate k.toNat its.toArray) = (List.replicate k.toNat its).flatten.toArray := by
     have := nV its k.toNat []
     rw [List.nil_append] at this
     exact this
   refine PySem.wpAny_binaryOp_repeat_ref (T := "tuple") (U := "int") (by decide) ⟨_, ho, rfl⟩ (fun s' => typeIs_int s' k t) HT.iz F.fills_int_mul F.slot_int_rmul HT.kh F.slot_int_index.lookup
     (call_meets F.slot_int_rmul (typeIs_int s k t) F.entry_int_rmul (F.args_int_rmul_2 _ _) (HT.jj k t a its.toArray n dd sl)
      ⟨ho, rfl, ⟨_, ho, rfl⟩, call_meets F.slot_tuple_mul ⟨_, ho, rfl⟩ F.entry_tuple_mul (F.args_tuple_mul_2 _ _) (HT.sO a its.toArray n k t dd sl h0 (by rw [hemp]; simp [e]) (by rw [hemp, decide_eq_false (by omega)]; rfl) (by omega) ?_ ?_) ⟨ho, ?_⟩⟩)
   · unfold Builtin.Tuple.tupleTooMany
     rw [sizeLine_eq]
     simp only [gt_iff_lt, decide_eq_true_eq]
     omega
   · rw [hnew, List.size_toArray, rk, Nat.mul_comm]
     exact bo hsz
   · rw [hnew]
     refine ⟨.ref s.heap.objs.size, _, I.laid (t' := s.toks) (o := .tup (List.replicate k.toNat xs).flatten) (fun b ob q => Heap.get?_push_of_some _ q) (Nat.le_refl _) ?_, rfl, q _ _ (ay.upd (I.hok.fresh (Nat.le_refl _))) am⟩
     exact ⟨by rw [rk, ← hlen, Nat.mul_comm]; exact bo hsz, _, r.rep k.toNat, IsTup.new _ _⟩
def bG : R2 := fun x y H Q => match x, y with
 | .str z, .int n => (-1000 ≤ n ∧ n ≤ 1000 ∧ z.length ≤ 1000) ∧ Q (.str (Txt.mul z n)) H
 | .ref a, .int n => yj (.ref a) (.int n) H Q
 | x, y => xi x y H Q
theorem cj : OpR X (binaryOp .Mult) bG := (yY.or (zS.or Gu)).imp fun x y H Q q => by
 unfold bG at q
 split at q
 · exact .inl ⟨_, _, rfl, rfl, q.1, q.2⟩
 · exact .inr (.inl q)
 · exact .inr (.inr q)
end
end L2
namespace L2
open PySem PySem.Spec PyProof.Rows
end L2
namespace L2
open PySem PySem.Spec PyProof.Rows
section
variable {X : Cx}
theorem Bb : OpR X (compareOp .Is) (fun x y H Q => ∃ b c, x = .bl b ∧ y = .bl c ∧ Q (.bl (decide (b = c))) H) := by
 intro pins s σ H x y v u Q I rx ry h
 obtain ⟨b, c, rfl, rfl, q⟩ := h
 cases rx
 cases ry
 refine wpAny_is_plain (by rfl) (bz I q ?_)
 cases b <;> cases c <;> rfl
def ke : R2 := fun x y H Q => match x, y with
 | .bl b, .bl c => Q (.bl (decide (b = c))) H
 | x, y => wL x y H Q
theorem sX : OpR X (compareOp .Is) ke := (Bb.or oIs).imp fun x y H Q q => by
 unfold ke at q
 split at q
 · exact .inl ⟨_, _, rfl, rfl, q⟩
 · exact .inr q
end
end L2
namespace HT
open PySem PyProof.Rows
theorem sub_tuple_dict : isSubtype (.type "tuple") (.type "dict") = pure false := by rw [isSubtype_type]; kernel_rfl
theorem nu : isSubtype (.type "dict") (.type "tuple") = pure false := by rw [isSubtype_type]; kernel_rfl
theorem sg (l b : Addr) (o : Obj) (hc : o.cls = .type "dict") (o2 : Obj) (hc2 : o2.cls = .type "tuple") :
  Meets (Builtin.«dict.__eq__» ⟨[.ref l, .ref b], []⟩) (fun _ R s => s.heap.get? l = some o ∧ s.heap.get? b = some o2 ∧ R (.ok (.ret .notImplemented)) s) :=
 .of_wp fun prog w A R s h => by
  obtain ⟨hp, g, d, tk, os⟩ := s; obtain ⟨hl, hb, h⟩ := h; obtain ⟨cls, dd, data, sl⟩ := o; obtain ⟨cls2, dd2, data2, sl2⟩ := o2
  simp only at hc hc2; subst hc hc2
  have f1 := sub_tuple_dict; wp_walk using wpAny_loadPart' hl, wpAny_loadPart' hb; exact ⟨_, rfl, h⟩
theorem qG (l b : Addr) (o : Obj) (hc : o.cls = .type "tuple") (o2 : Obj) (hc2 : o2.cls = .type "dict") :
  Meets (Builtin.«tuple.__eq__» ⟨[.ref l, .ref b], []⟩) (fun _ R s => s.heap.get? l = some o ∧ s.heap.get? b = some o2 ∧ R (.ok (.ret .notImplemented)) s) :=
 .of_wp fun prog w A R s h => by
  obtain ⟨hp, g, d, tk, os⟩ := s; obtain ⟨hl, hb, h⟩ := h; obtain ⟨cls, dd, data, sl⟩ := o; obtain ⟨cls2, dd2, data2, sl2⟩ := o2
  simp only at hc hc2; subst hc hc2
  have f1 := nu; wp_walk using wpAny_loadPart' hl, wpAny_loadPart' hb; exact ⟨_, rfl, h⟩
end HT
namespace L2
open PySem PySem.Spec PyProof.Rows
section
variable {X : Cx}
def yD (K : W.Frag) : R2 := fun x y H Q => ∃ a b ys, x = .ref a ∧ y = .ref b ∧ ((∃ kvs, H a = some (.dK kvs)) ∨ ∃ kvs, H a = some (.dT kvs)) ∧ SqT K H b ys ∧ Q (.bl false) H
theorem zX (hu : X.A.units < cLine) : OpR X (compareOp .Eq) (yD X.K) := by
 intro pins s σ H x y v u Q I rx ry h
 obtain ⟨a, b, ys, rfl, rfl, ha, hb, q⟩ := h
 cases rx
 cases ry
 obtain ⟨its, _, p1, _⟩ := I.tuple hb
 obtain ⟨o2, ho2, hc2, _⟩ := id p1
 obtain ⟨o, ho, hc⟩ : ∃ o, s.heap.get? a = some o ∧ o.cls = .type "dict" := by
  rcases ha with ⟨kvs, e⟩ | ⟨kvs, e⟩
  · obtain ⟨_, _, _, _, o, _, _, h1, h2, _⟩ := (show bB X.prog X.w H s.heap a (.dK kvs) from I.hok a _ e)
    exact ⟨o, h1, h2.1⟩
  · obtain ⟨_, _, _, _, o, _, _, h1, h2, _⟩ := (show bB X.prog X.w H s.heap a (.dT kvs) from I.hok a _ e)
    exact ⟨o, h1, h2.1⟩
 have hne : a ≠ b := fun e => by
  subst e
  rw [ho] at ho2; cases ho2
  rw [hc] at hc2; exact absurd hc2 (by simp)
 show wpAny _ _ (richCompare .Eq (.ref a) (.ref b)) _ _ s
 exact SeqAt.rc_eq_decline_or (k := false) ⟨_, ho, hc⟩ ⟨_, ho2, hc2⟩ (by decide) F.sub_tuple_dict F.slot_dict_eq F.slot_tuple_eq_refl
  (fun _ hq => call_meets F.slot_dict_eq ⟨_, ho, hc⟩ F.entry_dict_eq (F.args_dict_eq_2 _ _) (HT.sg a b o hc o2 hc2) ⟨ho, ho2, hq⟩)
  (fun _ hq => call_meets F.slot_tuple_eq_refl ⟨_, ho2, hc2⟩ F.entry_tuple_eq (F.args_tuple_eq_2 _ _) (HT.qG b a o2 hc2 o hc) ⟨ho2, ho, hq⟩)
  (fun _ hq => wpAny_isSame_ref_other hne ho ho2 (by rw [hc]; simp) hq) (.inr hu) ⟨.bl false, H, I, rfl, q⟩
def be (K : W.Frag) : R2 := fun x y H Q => match x, y with
 | .ref a, .ref b => Ae K (.ref a) (.ref b) H Q ∨ pR K (.ref a) (.ref b) H Q ∨ yD K (.ref a) (.ref b) H Q
 | .ref a, y => pR K (.ref a) y H Q
 | x, .ref b => pR K x (.ref b) H Q
 | x, y => mEq x y H Q
theorem bD (hu : X.A.units + 150 < cLine) : OpR X (compareOp .Eq) (be X.K) := ((Ce (by omega)).or ((CM hu).or ((zX (by omega)).or oEq))).imp fun x y H Q q => by
 unfold be at q
 split at q
 · exact q.elim .inl fun z => z.elim (fun z => .inr (.inl z)) fun z => .inr (.inr (.inl z))
 · exact .inr (.inl q)
 · exact .inr (.inl q)
 · exact .inr (.inr (.inr q))
end
end L2
namespace HT
open PySem PyProof.Rows
theorem lp : typeLookup (.type "tuple") "__reversed__" = pure none := by rw [typeLookup_type, builtinLookup_eq_fast]; kernel_rfl
theorem nX : Manifest.owners.lookup (String.ofList ['d', 'e', 's', 'r', 'e', 'v', 'e', 'r'].reverse) = some Manifest.sig_reversed := by kernel_rfl
theorem dZ : Slot "reversed" "__next__" "reversed.__next__" :=
 .of (owner := "reversed") (n := "__next__") (by rw [typeLookup_type, builtinLookup_eq_fast]; kernel_rfl) (by decide +kernel) (by decide +kernel) (by decide +kernel)
  (by first | exact .inl (by decide +kernel) | exact .inr (by decide +kernel)) (by rw [isSubtype_type]; kernel_rfl)
theorem iZ : entryFor table "reversed.__next__" = some Builtin.«reversed.__next__» := entryFor_of_tree (by kernel_rfl)
theorem jH (a : Value) : argsOk "reversed.__next__" ⟨[a], []⟩ := by
 unfold argsOk; rw [signature?_of (id := "reversed.__next__") (n := ['_', '_', 't', 'x', 'e', 'n', '_', '_']) (o := ['d', 'e', 's', 'r', 'e', 'v', 'e', 'r']) (by kernel_rfl) nX]; kernel_rfl
theorem jI : Slot "reversed" "__iter__" "reversed.__iter__" :=
 .of (owner := "reversed") (n := "__iter__") (by rw [typeLookup_type, builtinLookup_eq_fast]; kernel_rfl) (by decide +kernel) (by decide +kernel) (by decide +kernel)
  (by first | exact .inl (by decide +kernel) | exact .inr (by decide +kernel)) (by rw [isSubtype_type]; kernel_rfl)
theorem oj (a : Value) : argsOk "reversed.__iter__" ⟨[a], []⟩ := by
 unfold argsOk; rw [signature?_of (id := "reversed.__iter__") (n := ['_', '_', 'r', 'e', 't', 'i', '_', '_']) (o := ['d', 'e', 's', 'r', 'e', 'v', 'e', 'r']) (by kernel_rfl) nX]; kernel_rfl
theorem nj : entryFor table "reversed.__iter__" = some Builtin.«dict_keyiterator.__iter__» :=
 entryFor_alias (id' := "dict_keyiterator.__iter__") (by kernel_rfl) (by first | rfl | decide +kernel | (unfold String.splitOn; simp +decide [String.splitOnAux])) (by decide +kernel) (by kernel_rfl)
theorem ot : Slot "reversed" "__init__" "object.__init__" :=
 .of (owner := "object") (n := "__init__") (by rw [typeLookup_type, builtinLookup_eq_fast]; kernel_rfl) (by decide +kernel) (by decide +kernel) (by decide +kernel)
  (by first | exact .inl (by decide +kernel) | exact .inr (by decide +kernel)) (by rw [isSubtype_type]; kernel_rfl)
theorem sQ : TypeCalled "reversed" "reversed.__new__" "object.__init__" :=
 ⟨by decide +kernel, PySem.F.create_reversed, ⟨_, _, PySem.F.mro_reversed⟩, PySem.F.made_reversed, by decide +kernel, PySem.F.sub_reversed_self, ot⟩
theorem pN : isSubtype (.type "tuple") (.type "dict") = pure false := by rw [isSubtype_type]; kernel_rfl
def pM (t : Addr) (i : Int) : Obj := { cls := .type "reversed", data := .fields #[.ref t, rawInt i] }
theorem oi (t : Addr) (items : Array Value) : Meets (Builtin.«reversed.__new__» ⟨[.type "reversed", .ref t], []⟩) (fun _ R s => IsTup s.heap t items ∧ (items.size : Int) < 2 ^ 63 ∧
  R (.ok (.ret (.ref s.heap.objs.size))) { s with heap := s.heap.push (pM t ((items.size : Int) - 1)), toks := s.toks + 1 + 1 }) :=
 .of_wp fun prog w A R s h => by
  obtain ⟨ht, hz, h⟩ := h
  unfold Builtin.«reversed.__new__»
  refine wpAny_bind (wpAny_of_eq (newClass_reversed _) ?_)
  try dsimp only
  refine wpAny_bind (wpAny_of_eq (a := ()) (by first | rfl | kernel_rfl) ?_)
  refine wpAny_bind (wpAny_of_eq (a := ()) (by first | rfl | kernel_rfl) ?_)
  try dsimp only
  refine wpAny_bind (wpAny_specialOf ht.typeIs lp ?_)
  try dsimp only
  refine wpAny_bind (wpAny_bind (wpAny_isInstance (T := "tuple") (b := false) ht.typeIs pN ?_))
  rw [if_neg (by simp)]
  refine wpAny_bind (wpAny_specialOf (r := some (.builtin "tuple.__getitem__")) ht.typeIs slot_tuple_getitem.lookup ?_)
  show wpAny _ _ (if (["tuple.__getitem__", "str.__getitem__", "bytes.__getitem__", "bytearray.__getitem__", "memoryview.__getitem__", "numpy.ndarray.__getitem__", "sqlite3.Row.__getitem__"].contains "tuple.__getitem__") = true then _ else _) _ _ s
  rw [if_pos (by decide)]
  refine wpAny_pure ?_
  rw [if_neg (by simp)]
  refine wpAny_bind (len_tuple ht hz ?_)
  refine wpAny_bind (wpAny_of_eq (a := some ((items.size : Nat) : Int)) rfl ?_)
  show wpAny _ _ (newObj (.type "reversed") (.fields #[.ref t, rawInt ((items.size : Int) - 1)]) >>= _) _ _ _
  exact wpAny_bind (wpAny_newObj_type (wpAny_pure ⟨_, rfl, h⟩))
section
variable {prog : Program} {w : World} {A : Around} {E : Value → Shared → Prop} {s : Shared}
theorem jL {t : Addr} {items : Array Value} {Q : Value → Shared → Prop} (ht : IsTup s.heap t items) (hz : (items.size : Int) < 2 ^ 63)
  (h : Q (.ref s.heap.objs.size) { s with heap := s.heap.push (pM t ((items.size : Int) - 1)), toks := s.toks + 1 + 1 }) : wpAny (model prog w) A (call (.type "reversed") [.ref t]) Q E s :=
 callType_new sQ (by decide) (PySem.F.typeCall_reversed_1 _) (PySem.F.newCall_reversed_1 _) (fun obj => PySem.F.args_object_init_2 obj _) PySem.F.entry_reversed_new (oi t items) ⟨ht, hz, ⟨_, Heap.get?_push_size _ rfl, rfl⟩, h⟩
def iG (h : Heap) (a t : Addr) (i : Int) : Prop := h.get? a = some (pM t i)
theorem iG.typeIs {a t : Addr} {i : Int} (x : iG s.heap a t i) : s.TypeIs (.ref a) "reversed" := ⟨_, x, rfl⟩
theorem ol {it t : Addr} {i : Nat} {items : Array Value} {x : Value} {Q : Option Value → Shared → Prop} (hit : iG s.heap it t (i : Int)) (ht : IsTup s.heap t items) (hz : (items.size : Int) < 2 ^ 63) (hx : items[i]? = some x)
   (hQ : ∀ h', iG h' it t ((i : Int) - 1) → Heap.SameBut it s.heap h' → Q (some x) { s with heap := h', toks := s.toks + 1 }) : wpAny (model prog w) A (pyNext (.ref it)) Q E s := by
 have hi : i < items.size := by
   rcases Nat.lt_or_ge i items.size with h | h
   · exact h
   · rw [Array.getElem?_eq_none h] at hx; cases hx
 unfold pyNext
 refine wpAny_bind (wpAny_attempt (wpAny_callSpecial?_slot (name := Str.ofString "__next__") hit.typeIs dZ
   (wpAny_call_entry dZ hit.typeIs iZ ?_ (jH _))))
 unfold Builtin.«reversed.__next__»
 refine wpAny_bind (wpAny_of_eq (a := (Value.ref it, [])) rfl ?_)
 try dsimp only
 refine wpAny_bind (wpAny_field hit rfl (x := .ref t) rfl ?_)
 refine wpAny_bind (wpAny_field hit rfl (x := rawInt (i : Int)) rfl ?_)
 show wpAny _ _ (if (i : Int) < 0 then _ else _) _ _ s
 rw [if_neg (by omega)]
 refine wpAny_bind (wpAny_specialOf (r := some (.builtin "tuple.__getitem__")) ht.typeIs slot_tuple_getitem.lookup ?_)
 rw [if_neg (by simp)]
 refine wpAny_bind (wpAny_mkInt ?_)
 refine wpAny_bind (wpAny_attempt (getItem_tuple (j := i) (x := x) ht (by omega) (by omega) ?_ hx ?_))
 · unfold seqIndex?
   simp
   omega
 · refine wpAny_bind (wpAny_field (s := { s with toks := s.toks + 1 }) hit rfl (x := rawInt (i : Int)) rfl ?_)
   refine wpAny_bind (wpAny_setField_rec hit (by simp) fun h' y sb => ?_)
   exact wpAny_pure ⟨x, rfl, wpAny_pure (hQ h' y sb)⟩
theorem pU {it t : Addr} {Q : Option Value → Shared → Prop} (hh : A.handled = none) (hit : iG s.heap it t (-1))
  (hQ : ∀ h', Heap.ExtBut it s.heap h' → Q none { s with heap := h' }) : wpAny (model prog w) A (pyNext (.ref it)) Q E s := by
 unfold pyNext
 refine wpAny_bind (wpAny_attempt (wpAny_callSpecial?_slot (name := Str.ofString "__next__") hit.typeIs dZ
  (wpAny_call_entry dZ hit.typeIs iZ ?_ (jH _))))
 unfold Builtin.«reversed.__next__»
 refine wpAny_bind (wpAny_of_eq (a := (Value.ref it, [])) rfl ?_)
 try dsimp only
 refine wpAny_bind (wpAny_field hit rfl (x := .ref t) rfl ?_)
 refine wpAny_bind (wpAny_field hit rfl (x := rawInt (-1)) rfl ?_)
 show wpAny _ _ (if (-1 : Int) < 0 then _ else _) _ _ s
 rw [if_pos (by decide)]
 refine wpAny_bind (wpAny_rule ?_)
 refine wpAny_bind (wpAny_bind (wpAny_setField_rec hit (by simp) fun h1 y1 s1 => ?_))
 refine wpAny_setField_rec y1 (by simp) fun h2 y2 s2 => ?_
 first
 | show wpAny _ _ (newExc (.type "StopIteration") [] >>= _) _ _ _
 | (refine wpAny_bind ?_; show wpAny _ _ (newExc (.type "StopIteration") [] >>= _) _ _ _)
 refine wpAny_bind ?_
 simp only [newExc, newTuple]
 refine wpAny_bind (wpAny_newObj_type ?_ (by size_fits))
 refine wpAny_bind (m := firstArgMember _ _) (wpAny_of_eq (a := Value.none) (by first | rfl | (simp only [firstArgMember]; rfl)) ?_)
 refine wpAny_newObj_type ?_ (by size_fits)
 simp only [raiseNew]
 refine wpAny_bind (wpAny_handled ?_)
 first | rw [show A.in1.handled = none from hh] | rw [hh]
 refine wpAny_bind (wpAny_pure (wpAny_throw ?_))
 refine wpAny_bind (wpAny_isInstance (T := "StopIteration") (b := true) ⟨_, Heap.get?_push_size _ rfl, rfl⟩ isSubtype_stop ?_)
 have eb : Heap.ExtBut it s.heap h2 := fun c o hc e => s2.extBut _ _ hc (s1.extBut _ _ hc e)
 exact wpAny_pure (hQ _ ((eb.push _).push _))
theorem pH {it t : Addr} {i : Int} {Q : Value → Shared → Prop} (hit : iG s.heap it t i) (h : Q (.ref it) s) : wpAny (model prog w) A (pyIter (.ref it)) Q E s := by
 refine wpAny_pyIter_slot hit.typeIs jI (wpAny_call_entry jI hit.typeIs nj ?_ (oj _))
 show wpAny _ _ (ret (.ref it)) _ _ s
 exact wpAny_pure ⟨_, rfl, "reversed", _, hit.typeIs, dZ.lookup, h⟩
end
end HT
namespace L2
open PySem PySem.Spec PyProof.Rows
def vw (K : W.Frag) (a : Addr) (xs : List V) : It :=
 ⟨fun i H => SqT K H a xs ∧ i < xs.length, fun i H x H' => H' = H ∧ xs.reverse[i]? = some x, fun i _ => xs.length ≤ i⟩
theorem xF {P : Program} {w : World} {K : W.Frag} {tg : Expr} (a it : Addr) (xs : List V) : lF P w K tg (vw K a xs) [it] it (fun i h => i ≤ xs.length ∧ HT.iG h it a ((xs.length : Int) - 1 - i)) where
 mem := by simp
 obj := fun i h st b hb => by
  have e : b = it := by simpa using hb
  subst e
  exact ⟨_, st.2, fun v z => by cases z⟩
 keep := fun i h h' st k => ⟨st.1, k it (by simp) _ st.2⟩
 item := by
  intro X hP hw hK hc i pins s σ H E I hf st hg
  subst hP hw hK
  obtain ⟨hq, hi⟩ := hg
  obtain ⟨its, rv, p, hz⟩ := I.tuple hq
  obtain ⟨f0, f1, f2, f3, f4, f5⟩ := hf it (by simp)
  have hl := rv.length
  obtain ⟨x, hx⟩ : ∃ x, xs[xs.length - 1 - i]? = some x := ⟨_, List.getElem?_eq_getElem (by omega)⟩
  obtain ⟨u, hu, ru⟩ := rv.get hx
  have hrx : xs.reverse[i]? = some x := by rw [List.getElem?_reverse hi]; exact hx
  have e1 : (xs.length : Int) - 1 - i = ((xs.length - 1 - i : Nat) : Int) := by omega
  have st2 := st.2
  rw [e1] at st2
  refine HT.ol st2 (show IsTup s.heap a its.toArray from p) (by rw [List.size_toArray]; rw [sizeLine_eq] at hz; omega) (x := u) (by simpa using hu) fun h' st' sb => ?_
  have I1 : Inv X pins σ H { s with heap := h', toks := s.toks + 1 } := I.turned (t' := s.toks + 1) (fun b o hb e => (sb.2 b hb).trans e) f0 f1 f3 f4 f5
  have e2 : ((xs.length - 1 - i : Nat) : Int) - 1 = (xs.length : Int) - 1 - ((i + 1 : Nat) : Int) := by omega
  rw [e2] at st'
  exact ⟨u, rfl, mE (s := { s with heap := h', toks := s.toks + 1 }) st' rfl rfl (by decide) ⟨x, H, I1, ru, ⟨rfl, hrx⟩, ⟨hi, st'⟩, fun b hb => (hf b hb).1⟩⟩
 done := by
  intro X hP hw hK hc i pins s σ H E I hf st hg
  subst hP hw hK
  obtain ⟨f0, f1, f2, f3, f4, f5⟩ := hf it (by simp)
  have hi : xs.length ≤ i := hg
  have e1 : (xs.length : Int) - 1 - i = -1 := by have := st.1; omega
  have st2 := st.2
  rw [e1] at st2
  exact HT.pU (I.ok.hd hc) st2 fun h' eb => ⟨rfl, I.turned (t' := s.toks) (fun b o hb e => eb b o hb e) f0 f1 f3 f4 f5⟩
 self := fun A i s Q E st h => HT.pH st.2 h
theorem qJ : bootBuiltins "reversed" = some (.type "reversed") := by decide +kernel
section
variable {X : Cx} {a : Expr} {t : TA} {p pos : Pos} {tg : Expr}
def BF (K : W.Frag) (t : TA) : TI := fun σ H R => t σ H fun vs H1 => ∃ c xs, vs = [.ref c] ∧ SqT K H1 c xs ∧ R (vw K c xs) H1
theorem DO (hm : X.mg "reversed" = none) (ha : QA X [a] t) (hg : Gl X "reversed" := by rfl) (hs : bV [a] = true := by rfl) : QI X tg (.Call (.Name "reversed" p) [a] [] pos) (BF X.K t) := ⟨fun pins s σ H R I h => by
 have h' : (cV a && bV []) = true := hs
 refine wpAny_Call_Name_kw (jW I hg hm qJ ?_ (by decide) (by decide))
 refine PyProof.Rows.callWith_type1 (thn (ha.out pos pins s σ H _ I h) fun us s1 ⟨vs, H1, I1, r1, q1⟩ => ?_)
  (bW (Bool.and_eq_true_iff.mp h').1 [] X.env) (du (Bool.and_eq_true_iff.mp h').2)
 obtain ⟨c, xs, rfl, hq, q⟩ := q1
 obtain ⟨u, rfl, ru⟩ := kL r1
 cases ru
 obtain ⟨its, rv, p, hz⟩ := I1.tuple hq
 have hl := rv.length
 refine HT.jL (show IsTup s1.heap c its.toArray from p) (by rw [List.size_toArray]; rw [sizeLine_eq] at hz; omega) ?_
 have st : HT.iG (s1.heap.push (HT.pM c ((its.toArray.size : Int) - 1))) s1.heap.objs.size c ((xs.length : Int) - 1 - ((0 : Nat) : Int)) := by
  show (s1.heap.push _).get? _ = _
  have e : (xs.length : Int) - 1 - ((0 : Nat) : Int) = (its.toArray.size : Int) - 1 := by rw [List.size_toArray]; omega
  rw [e]
  exact Heap.get?_push_size _ rfl
 refine HT.pH (s := { s1 with heap := s1.heap.push (HT.pM c ((its.toArray.size : Int) - 1)), toks := s1.toks + 1 + 1 }) st ?_
 refine ⟨s1.heap.objs.size, [s1.heap.objs.size], _, _, H1, rfl, I1.kept (t' := s1.toks + 1 + 1) fun b o e => Heap.get?_push_of_some _ e, xF c _ xs, ⟨Nat.zero_le _, st⟩, fun b hb => ?_, q⟩
 have e : b = s1.heap.objs.size := by simpa using hb
 subst e
 exact I1.fpOk (Nat.le_refl _) (I1.hok.fresh (Nat.le_refl _))⟩
theorem fv.rev {K : W.Frag} {c : Addr} {xs : List V} (d : V) : fv (vw K c xs) xs.length (fun i => xs.reverse.getD i d) (fun H => SqT K H c xs) where
 go := fun i H hi h => ⟨h, hi⟩
 yld := fun i H x H' hi h y => ⟨y.1, by rw [List.getD_eq_getElem?_getD, y.2]; rfl⟩
 stop := fun H h => Nat.le_refl _
def sW : List V → Hp → VK → Prop := fun xs H Q => match xs with | [.int i, .int j] => Q (.int (if j > i then j else i)) H | _ => False
theorem HL (hc : X.calm = true) : cm X (.builtin "max") sW := fun pins s σ H xs us Q I r q => by
 unfold sW at q
 split at q
 · exact vi hc pins s σ H _ us Q I r ⟨_, _, rfl, q⟩
 · exact q.elim
theorem xa : OpR X (binaryOp .FloorDiv) (rI (fun _ j => 0 < j ∧ j < 1267650600228229401496703205376) fun i j => .int (i / j)) := opI fun i j _ _ _ _ _ hc q => by
 have h1 : (0 : Int) < j := hc.1
 have h2 : j < 1267650600228229401496703205376 := hc.2
 have h3 : j.natAbs.log2 < 100 := (Nat.log2_lt (by omega)).mpr (Nat.lt_of_lt_of_eq (m := 1267650600228229401496703205376) (by omega) (by decide))
 exact floordiv_int (by omega) (by rw [Int.fdiv_eq_ediv_of_nonneg i (by omega)]; exact q) (.inl (PyProof.noPylong_of_log2 (by omega)))
def bJ : R2 := fun x y H Q => match x, y with | .int i, .int j => (0 < j ∧ j < 1267650600228229401496703205376) ∧ Q (.int (i / j)) H | _, _ => False
theorem dj : OpR X (binaryOp .FloorDiv) bJ := xa.imp fun x y H Q q => by
 unfold bJ at q
 split at q
 · exact ⟨_, _, rfl, rfl, q.1, q.2⟩
 · exact q.elim
end
end L2
namespace L2
open PySem PySem.Spec PyProof.Rows
section
variable {X : Cx}
theorem xX {x y : Str} {a b : Expr} {ta : TA} {px py pt pos : Pos} {kt k2 : Nat} {pt2 : Pos} (i j : Nat) (hN : X.N.Nodup) (hc : X.calm = true) (ha : QA X [a, b] ta) (hi : X.N[i]? = some x := by rfl) (hj : X.N[j]? = some y := by rfl) (hij : i ≠ j := by decide)
 (hx : X.env.scope.names.lookup x = some .local := by rfl) (hy : X.env.scope.names.lookup y = some .local := by rfl)
 (hw : swappedStores [.Tuple [.Name x px, .Name y py] kt pt] (.Tuple [a, b] k2 pt2) X.env = pure (some [x, y]) := by rfl)
 (hs : swapsWithSole [.Tuple [.Name x px, .Name y py] kt pt] (.Tuple [a, b] k2 pt2) pos.line X.env = pure false := by rfl) :
 QS X (.Assign [.Tuple [.Name x px, .Name y py] kt pt] (.Tuple [a, b] k2 pt2) pos) (mP i j ta) := ⟨Cu hc hN hi hj hij hx hy ha.out hw hs⟩
end
section
variable {α : Type} {l : List α}
theorem FV (h : l.length = 0) : l = [] := List.length_eq_zero_iff.mp h
theorem kK (h : l.length = 1) : ∃ a0, l = [a0] := by
  cases l with
  | nil => simp at h
  | cons a l =>
    obtain rfl := FV (l := l) (by simpa using h)
    exact ⟨a, rfl⟩
theorem sD (h : l.length = 2) : ∃ a0 a1, l = [a0, a1] := by
  cases l with
  | nil => simp at h
  | cons a l =>
    obtain ⟨b0, rfl⟩ := kK (l := l) (by simpa using h)
    exact ⟨a, b0, rfl⟩
theorem sS (h : l.length = 3) : ∃ a0 a1 a2, l = [a0, a1, a2] := by
  cases l with
  | nil => simp at h
  | cons a l =>
    obtain ⟨b0, b1, rfl⟩ := sD (l := l) (by simpa using h)
    exact ⟨a, b0, b1, rfl⟩
theorem yE (h : l.length = 4) : ∃ a0 a1 a2 a3, l = [a0, a1, a2, a3] := by
  cases l with
  | nil => simp at h
  | cons a l =>
    obtain ⟨b0, b1, b2, rfl⟩ := sS (l := l) (by simpa using h)
    exact ⟨a, b0, b1, b2, rfl⟩
theorem xY (h : l.length = 5) : ∃ a0 a1 a2 a3 a4, l = [a0, a1, a2, a3, a4] := by
  cases l with
  | nil => simp at h
  | cons a l =>
    obtain ⟨b0, b1, b2, b3, rfl⟩ := yE (l := l) (by simpa using h)
    exact ⟨a, b0, b1, b2, b3, rfl⟩
theorem yl (h : l.length = 6) : ∃ a0 a1 a2 a3 a4 a5, l = [a0, a1, a2, a3, a4, a5] := by
  cases l with
  | nil => simp at h
  | cons a l =>
    obtain ⟨b0, b1, b2, b3, b4, rfl⟩ := xY (l := l) (by simpa using h)
    exact ⟨a, b0, b1, b2, b3, b4, rfl⟩
theorem yx (h : l.length = 7) : ∃ a0 a1 a2 a3 a4 a5 a6, l = [a0, a1, a2, a3, a4, a5, a6] := by
  cases l with
  | nil => simp at h
  | cons a l =>
    obtain ⟨b0, b1, b2, b3, b4, b5, rfl⟩ := yl (l := l) (by simpa using h)
    exact ⟨a, b0, b1, b2, b3, b4, b5, rfl⟩
end
end L2
namespace L2
open PySem PySem.Spec PyProof.Rows
section
variable {X : Cx}
end
end L2
namespace L2
open PySem PySem.Spec PyProof.Rows
section
variable {M : Model} {A : Around} {E : Value → Shared → Prop} {s : Shared}
end
section
variable {X : Cx}
end
end L2
namespace L2
open PySem PySem.Spec PyProof.Rows
section
variable {X : Cx} {pos ep px py pz : Pos} {ek : Nat} {x y z : Str} {iter : Expr} {wi : TI} {tS : TS}
end
end L2
namespace L2
open PySem PySem.Spec PyProof.Rows
theorem bR.le {A : Around} {m n : Nat} (h : bR m A) (d : n ≤ m := by first | decide | omega) : bR n A := h.mono d
theorem scF {N P : List Str} {sc : Scope} (h1 : sc.kind = .function := by rfl) (h2 : sc.isCoroutine = false := by rfl) (h3 : sc.isGenerator = false := by rfl) (h4 : N.Nodup := by decide +kernel) (h5 : N.take P.length = P := by rfl)
 (h6 : ∀ x ∈ P, sc.names.lookup x = some .local ∨ sc.names.lookup x = some .cell := by decide +kernel) (h7 : ∀ y ∈ sc.names, y.2 ≠ .free := by decide +kernel) : aF N P sc := ⟨h1, h2, h3, h4, h5, h6, h7⟩
structure Fm (K : W.Frag) (mg : Str → Option Value) (x qual : Str) (st : Stmt) (a : Addr) (d : FuncData) (ps : List Str) : Prop where
 f : Fun K x qual st a d
 m : mg x = some (.ref a)
 b : eG K d ps []
structure Fa (K : W.Frag) (x qual : Str) (st : Stmt) (a : Addr) (d : FuncData) : Prop where
 m : W.nsIn K mainGlobals x = some (some (.ref a))
 f : Fun K x qual st a d
section
variable {P : Program} {w : World} {K : W.Frag} {mg : Str → Option Value} {base h : Heap} {x qual : Str} {st : Stmt} {a : Addr} {d : FuncData} {ps : List Str}
theorem aW {oc : Value} {od an : Option Addr} {osl : Array (Option Value)} {kV doc pm cdv ct : Value} (m : W.nsIn K mainGlobals x = some (some (.ref a))) (l : K.lookup a = some ⟨oc, od, .func (W.fnOf x qual (bO st) (bi st) (ap st) .none kV doc pm an cdv ct), osl⟩)
 (c : W.codeIn K cdv qual = true) (k : W.keepIn K (.ref a) = true) : Fa K x qual st a (W.fnOf x qual (bO st) (bi st) (ap st) .none kV doc pm an cdv ct) := ⟨m, AK l c k⟩
theorem Fa.code (F : Fa K x qual st a d) (X : K.In h) (G : h.Ns mainGlobals mg) {z t : Addr} (ht : W.tabIn K x = some (z, t)) : d.code = .ref z := by
 obtain ⟨oc, od, kV, doc, pm, an, cdv, ct, osl, e, lk, hcd⟩ := F.f.ex
 exact W.law_code X G ht (W.mg_of X G F.m) (X _ _ lk) rfl
theorem Fun.bt {p : Str} (F : Fun K x qual st a d) (hb : ∀ (kV doc pm : Value) (an : Option Addr) (cdv ct v : Value), bindArgs (W.fnOf x qual (bO st) (bi st) (ap st) .none kV doc pm an cdv ct) ⟨[v], []⟩ = pure [(p, v)] := by intros; rfl) (s : Shared) (v : Value) : BindsTo s d ⟨[v], []⟩ [(p, v)] := by
 obtain ⟨oc, od, kV, doc, pm, an, cdv, ct, osl, rfl, lk, hcd⟩ := F.ex
 exact .of_eq (hb kV doc pm an cdv ct v)
theorem Fun.b1 {p0 : Str} (F : Fun K x qual st a d) (hb : ∀ (kV doc pm : Value) (an : Option Addr) (cdv ct u0 : Value), bindArgs (W.fnOf x qual (bO st) (bi st) (ap st) .none kV doc pm an cdv ct) ⟨[u0], []⟩ = pure (List.zip [p0] [u0]) := by intros; rfl) : eG K d [p0] [] := F.binds fun kV doc pm an cdv ct us hl => by
 obtain ⟨u0, rfl⟩ := L2.kK hl
 exact hb kV doc pm an cdv ct u0
theorem Fa.fm1 {p0 : Str} (F : Fa K x qual st a d) (X : K.In h) (G : h.Ns mainGlobals mg) (hb : ∀ (kV doc pm : Value) (an : Option Addr) (cdv ct u0 : Value), bindArgs (W.fnOf x qual (bO st) (bi st) (ap st) .none kV doc pm an cdv ct) ⟨[u0], []⟩ = pure (List.zip [p0] [u0]) := by intros; rfl) : Fm K mg x qual st a d [p0] := ⟨F.f, W.mg_of X G F.m, F.f.b1 hb⟩
theorem Fun.b2 {p0 p1 : Str} (F : Fun K x qual st a d) (hb : ∀ (kV doc pm : Value) (an : Option Addr) (cdv ct u0 u1 : Value), bindArgs (W.fnOf x qual (bO st) (bi st) (ap st) .none kV doc pm an cdv ct) ⟨[u0, u1], []⟩ = pure (List.zip [p0, p1] [u0, u1]) := by intros; rfl) : eG K d [p0, p1] [] := F.binds fun kV doc pm an cdv ct us hl => by
 obtain ⟨u0, u1, rfl⟩ := L2.sD hl
 exact hb kV doc pm an cdv ct u0 u1
theorem Fa.fm2 {p0 p1 : Str} (F : Fa K x qual st a d) (X : K.In h) (G : h.Ns mainGlobals mg) (hb : ∀ (kV doc pm : Value) (an : Option Addr) (cdv ct u0 u1 : Value), bindArgs (W.fnOf x qual (bO st) (bi st) (ap st) .none kV doc pm an cdv ct) ⟨[u0, u1], []⟩ = pure (List.zip [p0, p1] [u0, u1]) := by intros; rfl) : Fm K mg x qual st a d [p0, p1] := ⟨F.f, W.mg_of X G F.m, F.f.b2 hb⟩
theorem Fun.b3 {p0 p1 p2 : Str} (F : Fun K x qual st a d) (hb : ∀ (kV doc pm : Value) (an : Option Addr) (cdv ct u0 u1 u2 : Value), bindArgs (W.fnOf x qual (bO st) (bi st) (ap st) .none kV doc pm an cdv ct) ⟨[u0, u1, u2], []⟩ = pure (List.zip [p0, p1, p2] [u0, u1, u2]) := by intros; rfl) : eG K d [p0, p1, p2] [] := F.binds fun kV doc pm an cdv ct us hl => by
 obtain ⟨u0, u1, u2, rfl⟩ := L2.sS hl
 exact hb kV doc pm an cdv ct u0 u1 u2
theorem Fa.fm3 {p0 p1 p2 : Str} (F : Fa K x qual st a d) (X : K.In h) (G : h.Ns mainGlobals mg) (hb : ∀ (kV doc pm : Value) (an : Option Addr) (cdv ct u0 u1 u2 : Value), bindArgs (W.fnOf x qual (bO st) (bi st) (ap st) .none kV doc pm an cdv ct) ⟨[u0, u1, u2], []⟩ = pure (List.zip [p0, p1, p2] [u0, u1, u2]) := by intros; rfl) : Fm K mg x qual st a d [p0, p1, p2] := ⟨F.f, W.mg_of X G F.m, F.f.b3 hb⟩
theorem Fun.b4 {p0 p1 p2 p3 : Str} (F : Fun K x qual st a d) (hb : ∀ (kV doc pm : Value) (an : Option Addr) (cdv ct u0 u1 u2 u3 : Value), bindArgs (W.fnOf x qual (bO st) (bi st) (ap st) .none kV doc pm an cdv ct) ⟨[u0, u1, u2, u3], []⟩ = pure (List.zip [p0, p1, p2, p3] [u0, u1, u2, u3]) := by intros; rfl) : eG K d [p0, p1, p2, p3] [] := F.binds fun kV doc pm an cdv ct us hl => by
 obtain ⟨u0, u1, u2, u3, rfl⟩ := L2.yE hl
 exact hb kV doc pm an cdv ct u0 u1 u2 u3
theorem Fa.fm4 {p0 p1 p2 p3 : Str} (F : Fa K x qual st a d) (X : K.In h) (G : h.Ns mainGlobals mg) (hb : ∀ (kV doc pm : Value) (an : Option Addr) (cdv ct u0 u1 u2 u3 : Value), bindArgs (W.fnOf x qual (bO st) (bi st) (ap st) .none kV doc pm an cdv ct) ⟨[u0, u1, u2, u3], []⟩ = pure (List.zip [p0, p1, p2, p3] [u0, u1, u2, u3]) := by intros; rfl) : Fm K mg x qual st a d [p0, p1, p2, p3] := ⟨F.f, W.mg_of X G F.m, F.f.b4 hb⟩
theorem Fun.b5 {p0 p1 p2 p3 p4 : Str} (F : Fun K x qual st a d) (hb : ∀ (kV doc pm : Value) (an : Option Addr) (cdv ct u0 u1 u2 u3 u4 : Value), bindArgs (W.fnOf x qual (bO st) (bi st) (ap st) .none kV doc pm an cdv ct) ⟨[u0, u1, u2, u3, u4], []⟩ = pure (List.zip [p0, p1, p2, p3, p4] [u0, u1, u2, u3, u4]) := by intros; rfl) : eG K d [p0, p1, p2, p3, p4] [] := F.binds fun kV doc pm an cdv ct us hl => by
 obtain ⟨u0, u1, u2, u3, u4, rfl⟩ := L2.xY hl
 exact hb kV doc pm an cdv ct u0 u1 u2 u3 u4
theorem Fa.fm5 {p0 p1 p2 p3 p4 : Str} (F : Fa K x qual st a d) (X : K.In h) (G : h.Ns mainGlobals mg) (hb : ∀ (kV doc pm : Value) (an : Option Addr) (cdv ct u0 u1 u2 u3 u4 : Value), bindArgs (W.fnOf x qual (bO st) (bi st) (ap st) .none kV doc pm an cdv ct) ⟨[u0, u1, u2, u3, u4], []⟩ = pure (List.zip [p0, p1, p2, p3, p4] [u0, u1, u2, u3, u4]) := by intros; rfl) : Fm K mg x qual st a d [p0, p1, p2, p3, p4] := ⟨F.f, W.mg_of X G F.m, F.f.b5 hb⟩
theorem Fun.b6 {p0 p1 p2 p3 p4 p5 : Str} (F : Fun K x qual st a d) (hb : ∀ (kV doc pm : Value) (an : Option Addr) (cdv ct u0 u1 u2 u3 u4 u5 : Value), bindArgs (W.fnOf x qual (bO st) (bi st) (ap st) .none kV doc pm an cdv ct) ⟨[u0, u1, u2, u3, u4, u5], []⟩ = pure (List.zip [p0, p1, p2, p3, p4, p5] [u0, u1, u2, u3, u4, u5]) := by intros; rfl) : eG K d [p0, p1, p2, p3, p4, p5] [] := F.binds fun kV doc pm an cdv ct us hl => by
 obtain ⟨u0, u1, u2, u3, u4, u5, rfl⟩ := L2.yl hl
 exact hb kV doc pm an cdv ct u0 u1 u2 u3 u4 u5
theorem Fa.fm6 {p0 p1 p2 p3 p4 p5 : Str} (F : Fa K x qual st a d) (X : K.In h) (G : h.Ns mainGlobals mg) (hb : ∀ (kV doc pm : Value) (an : Option Addr) (cdv ct u0 u1 u2 u3 u4 u5 : Value), bindArgs (W.fnOf x qual (bO st) (bi st) (ap st) .none kV doc pm an cdv ct) ⟨[u0, u1, u2, u3, u4, u5], []⟩ = pure (List.zip [p0, p1, p2, p3, p4, p5] [u0, u1, u2, u3, u4, u5]) := by intros; rfl) : Fm K mg x qual st a d [p0, p1, p2, p3, p4, p5] := ⟨F.f, W.mg_of X G F.m, F.f.b6 hb⟩
theorem Fun.b7 {p0 p1 p2 p3 p4 p5 p6 : Str} (F : Fun K x qual st a d) (hb : ∀ (kV doc pm : Value) (an : Option Addr) (cdv ct u0 u1 u2 u3 u4 u5 u6 : Value), bindArgs (W.fnOf x qual (bO st) (bi st) (ap st) .none kV doc pm an cdv ct) ⟨[u0, u1, u2, u3, u4, u5, u6], []⟩ = pure (List.zip [p0, p1, p2, p3, p4, p5, p6] [u0, u1, u2, u3, u4, u5, u6]) := by intros; rfl) : eG K d [p0, p1, p2, p3, p4, p5, p6] [] := F.binds fun kV doc pm an cdv ct us hl => by
 obtain ⟨u0, u1, u2, u3, u4, u5, u6, rfl⟩ := L2.yx hl
 exact hb kV doc pm an cdv ct u0 u1 u2 u3 u4 u5 u6
theorem Fa.fm7 {p0 p1 p2 p3 p4 p5 p6 : Str} (F : Fa K x qual st a d) (X : K.In h) (G : h.Ns mainGlobals mg) (hb : ∀ (kV doc pm : Value) (an : Option Addr) (cdv ct u0 u1 u2 u3 u4 u5 u6 : Value), bindArgs (W.fnOf x qual (bO st) (bi st) (ap st) .none kV doc pm an cdv ct) ⟨[u0, u1, u2, u3, u4, u5, u6], []⟩ = pure (List.zip [p0, p1, p2, p3, p4, p5, p6] [u0, u1, u2, u3, u4, u5, u6]) := by intros; rfl) : Fm K mg x qual st a d [p0, p1, p2, p3, p4, p5, p6] := ⟨F.f, W.mg_of X G F.m, F.f.b7 hb⟩
theorem Fun.okS {CX : CXT} {N : List Str} {k : Nat} {sp : Sp} {t : TS} (F : Fun K x qual st a d) (S : aF N ps (ap st)) (len : ∀ vs H Q E, sp vs H Q E → vs.length = ps.length)
  (hrd : ∀ (vs : List V) (H : Hp) (Q : VK) (E : XK), sp vs H Q E → t { nx := fun _ H' => Q .non H', rt := Q } (dk N vs) H)
  (hq : ∀ (cdv : Value) (A : Around) (outer : List Env) (s : Shared) (H : Hp) (E : XK), bR k (A.deeper (envOfC qual (ap st) s.heap.objs.size a cdv)) → QSs (gR CX P w K mg base N qual (ap st) a cdv A outer s H E).nox (bi st) t) : aZ P w K mg base CX (k + 1) a d ps sp :=
 F.okN S len fun cdv A outer s H vs Q E hr h => ⟨t, (hq cdv A outer s H E hr).out, hrd vs H Q E h⟩
end
section
variable {X : Cx} {x q : Str} {e : Expr} {es : List Expr} {t : TA} {p pos : Pos} {st : Stmt} {f : Addr} {fd : FuncData} {ps : List Str} {k : Nat} {sp : Sp}
theorem aD {P : Program} {w : World} (F : aZ X.prog X.w X.K X.mg X.base (CX1 P w) k f fd ps sp) (hr : bR k X.A) (M : Fm X.K X.mg x q st f fd ps)
 (ha : QA X (e :: es) t) (hg : Gl X x := by rfl) (hdb : (x == ("__debug__" : Str)) = false := by decide) (hs : bV (e :: es) = true := by rfl) : QE X (.Call (.Name x p) (e :: es) [] pos) (ai sp (fun _ => E0) t) := zc F hr M.m M.f.kp M.b gq ha hg hdb hs
end
end L2
namespace L2
open PySem PySem.Spec PyProof.Rows
section
variable {X : Cx}
theorem CC {x y z : Str} {px py pz ep pos : Pos} {ek : Nat} {e : Expr} {te : TE} (i j k : Nat) (hN : X.N.Nodup) (hc : X.calm = true) (he : QE X e te) (hi : X.N[i]? = some x := by rfl) (hj : X.N[j]? = some y := by rfl) (hk : X.N[k]? = some z := by rfl)
  (hx : Loc X.env.scope x := by first | exact .inl rfl | exact .inr rfl) (hy : Loc X.env.scope y := by first | exact .inl rfl | exact .inr rfl) (hz : Loc X.env.scope z := by first | exact .inl rfl | exact .inr rfl)
  (fx : X.fn x = true ∨ X.env.scope.names.lookup x = some .local := by first | exact .inl rfl | exact .inr rfl) (fy : X.fn y = true ∨ X.env.scope.names.lookup y = some .local := by first | exact .inl rfl | exact .inr rfl) (fz : X.fn z = true ∨ X.env.scope.names.lookup z = some .local := by first | exact .inl rfl | exact .inr rfl)
  (hs : swapsWithSole [.Tuple [.Name x px, .Name y py, .Name z pz] ek ep] e pos.line X.env = pure false := by rfl) (hw : swappedStores [.Tuple [.Name x px, .Name y py, .Name z pz] ek ep] e X.env = pure none := by rfl) :
  QS X (.Assign [.Tuple [.Name x px, .Name y py, .Name z pz] ek ep] e pos) (aB te (nB X.K 3 (eH (ar i) (eH (ar j) (eH (ar k) nw))))) :=
 ⟨CY he.out (tR hc (iD (ig hN hi hx fx) (iD (ig hN hj hy fy) (iD (ig hN hk hz fz) rl)))) hs hw⟩
end
end L2
namespace L2
open PySem PySem.Spec PyProof.Rows
theorem Dz {α : Type} {l : List α} (h : l.length = 8) : ∃ a0 a1 a2 a3 a4 a5 a6 a7, l = [a0, a1, a2, a3, a4, a5, a6, a7] := by
  cases l with
  | nil => cases h
  | cons a r =>
    obtain ⟨a1, a2, a3, a4, a5, a6, a7, rfl⟩ := yx (l := r) (Nat.succ.inj h)
    exact ⟨_, _, _, _, _, _, _, _, rfl⟩
section
variable {K : W.Frag} {mg : Str → Option Value} {h : Heap} {x qual : Str} {st : Stmt} {a : Addr} {d : FuncData}
theorem Fun.b8 {p0 p1 p2 p3 p4 p5 p6 p7 : Str} (F : Fun K x qual st a d) (hb : ∀ (kV doc pm : Value) (an : Option Addr) (cdv ct u0 u1 u2 u3 u4 u5 u6 u7 : Value), bindArgs (W.fnOf x qual (bO st) (bi st) (ap st) .none kV doc pm an cdv ct) ⟨[u0, u1, u2, u3, u4, u5, u6, u7], []⟩ = pure (List.zip [p0, p1, p2, p3, p4, p5, p6, p7] [u0, u1, u2, u3, u4, u5, u6, u7]) := by intros; rfl) : eG K d [p0, p1, p2, p3, p4, p5, p6, p7] [] := F.binds fun kV doc pm an cdv ct us hl => by
 obtain ⟨u0, u1, u2, u3, u4, u5, u6, u7, rfl⟩ := L2.Dz hl
 exact hb kV doc pm an cdv ct u0 u1 u2 u3 u4 u5 u6 u7
theorem Fa.fm8 {p0 p1 p2 p3 p4 p5 p6 p7 : Str} (F : Fa K x qual st a d) (X : K.In h) (G : h.Ns mainGlobals mg) (hb : ∀ (kV doc pm : Value) (an : Option Addr) (cdv ct u0 u1 u2 u3 u4 u5 u6 u7 : Value), bindArgs (W.fnOf x qual (bO st) (bi st) (ap st) .none kV doc pm an cdv ct) ⟨[u0, u1, u2, u3, u4, u5, u6, u7], []⟩ = pure (List.zip [p0, p1, p2, p3, p4, p5, p6, p7] [u0, u1, u2, u3, u4, u5, u6, u7]) := by intros; rfl) : Fm K mg x qual st a d [p0, p1, p2, p3, p4, p5, p6, p7] := ⟨F.f, W.mg_of X G F.m, F.f.b8 hb⟩
end
end L2
namespace Rs
open PySem PySem.Spec PyProof.Rows L2
def top (i : Nat) : Stmt := PySem.Challenge.pw_rootstamp_k38_whole_papers_of_one_mark_a.main.body.getD i (.Pass ⟨0, 0, 0, 0⟩)
abbrev s_2 : Stmt := top 47
abbrev s_0 : Stmt := top 46
abbrev wF : Stmt := top 55
abbrev s_9 : Stmt := top 54
abbrev s_8 : Stmt := top 53
abbrev wC : Stmt := top 49
abbrev s_1 : Stmt := top 56
abbrev wj : Stmt := top 57
abbrev wB : Stmt := top 66
abbrev vI : Stmt := top 69
abbrev s_7 : Stmt := top 60
abbrev s_6 : Stmt := top 48
abbrev vV : Stmt := top 75
abbrev ld : Stmt := top 50
abbrev xv : Stmt := top 59
abbrev lf : Stmt := top 51
abbrev wU : Stmt := top 67
abbrev s_3 : Stmt := top 70
abbrev xo : Stmt := top 8
abbrev xw : Stmt := top 12
abbrev xH : Stmt := top 30
abbrev vy : Stmt := top 16
abbrev vU : Stmt := top 31
abbrev vX : Stmt := top 9
abbrev wO : Stmt := top 34
abbrev wP : Stmt := top 13
abbrev wt : Stmt := top 15
abbrev vq : Stmt := top 22
abbrev vG : Stmt := top 23
abbrev vO : Stmt := top 33
abbrev xB : Stmt := top 32
abbrev vK : Stmt := top 35
abbrev xE : Stmt := top 37
abbrev wX : Stmt := top 36
abbrev wq : Stmt := top 38
abbrev xz : Stmt := top 39
abbrev xg : Stmt := top 41
abbrev wp : Stmt := top 40
abbrev xN : Stmt := top 62
abbrev vE : Stmt := top 63
abbrev wg : Stmt := top 65
abbrev s_4 : Stmt := top 61
abbrev xU : Stmt := top 68
abbrev wJ : Stmt := top 20
abbrev wN : Stmt := top 19
abbrev vt : Stmt := top 21
abbrev wH : Stmt := top 18
abbrev vv : Stmt := top 14
abbrev wG : Stmt := top 25
abbrev xm : Stmt := top 24
abbrev vR : Stmt := top 26
abbrev xn : Stmt := top 42
abbrev xj : Stmt := top 52
abbrev wE : Stmt := top 28
abbrev xW : Stmt := top 27
abbrev wZ : Stmt := top 71
abbrev vk : Stmt := top 72
abbrev xL : Stmt := top 44
abbrev s_5 : Stmt := top 73
abbrev wf : Stmt := top 74
abbrev vo : Stmt := top 76
def sAt (i : Nat) (l : List Stmt) : Stmt := l.getD i (.Pass ⟨0, 0, 0, 0⟩)
abbrev vY : Stmt := (sAt 1 (bi ld))
def dE : cT := ⟨(("_law_sure" : Str) ++ ".<locals>.") ++ "_law_number", .stmts (bi vY), ap vY, ["_law_term"], ["_law_known", "_law_first"]⟩
abbrev xP : Stmt := (sAt 0 (bi lf))
def fM : cT := ⟨(("_law_planted" : Str) ++ ".<locals>.") ++ "_law_number", .stmts (bi xP), ap xP, ["_law_term"], ["_law_sure_one", "_law_other", "_law_one"]⟩
set_option genInjectivity false in
set_option genSizeOf false in
abbrev Rd (sp : Sp) (t : TS) (N : List Str) : Prop := ∀ (vs : List V) (H : Hp) (Q : VK) (E : XK), sp vs H Q E → t { nx := fun _ H' => Q .non H', rt := Q } (L2.dk N vs) H
abbrev Ln (sp : Sp) (n : Nat) : Prop := ∀ vs H Q E, sp vs H Q E → vs.length = n
structure Adr where
 a_2 : Addr
 d_2 : FuncData
 a_0 : Addr
 d_0 : FuncData
 a_10 : Addr
 d_10 : FuncData
 a_9 : Addr
 d_9 : FuncData
 a_8 : Addr
 d_8 : FuncData
 a_26 : Addr
 d_26 : FuncData
 a_1 : Addr
 d_1 : FuncData
 a_12 : Addr
 d_12 : FuncData
 a_21 : Addr
 d_21 : FuncData
 a_14 : Addr
 d_14 : FuncData
 a_7 : Addr
 d_7 : FuncData
 a_6 : Addr
 d_6 : FuncData
 a_22 : Addr
 d_22 : FuncData
 a_23 : Addr
 d_23 : FuncData
 a_11 : Addr
 d_11 : FuncData
 a_15 : Addr
 d_15 : FuncData
 a_29 : Addr
 d_29 : FuncData
 a_3 : Addr
 d_3 : FuncData
 a_45 : Addr
 d_45 : FuncData
 a_38 : Addr
 d_38 : FuncData
 a_33 : Addr
 d_33 : FuncData
 a_57 : Addr
 d_57 : FuncData
 a_47 : Addr
 d_47 : FuncData
 a_42 : Addr
 d_42 : FuncData
 a_35 : Addr
 d_35 : FuncData
 a_44 : Addr
 d_44 : FuncData
 a_58 : Addr
 d_58 : FuncData
 a_39 : Addr
 d_39 : FuncData
 a_37 : Addr
 d_37 : FuncData
 a_40 : Addr
 d_40 : FuncData
 a_32 : Addr
 d_32 : FuncData
 a_31 : Addr
 d_31 : FuncData
 a_48 : Addr
 d_48 : FuncData
 a_49 : Addr
 d_49 : FuncData
 a_62 : Addr
 d_62 : FuncData
 a_61 : Addr
 d_61 : FuncData
 a_50 : Addr
 d_50 : FuncData
 a_60 : Addr
 d_60 : FuncData
 a_13 : Addr
 d_13 : FuncData
 a_25 : Addr
 d_25 : FuncData
 a_17 : Addr
 d_17 : FuncData
 a_4 : Addr
 d_4 : FuncData
 a_20 : Addr
 d_20 : FuncData
 a_43 : Addr
 d_43 : FuncData
 a_30 : Addr
 d_30 : FuncData
 a_36 : Addr
 d_36 : FuncData
 a_41 : Addr
 d_41 : FuncData
 a_51 : Addr
 d_51 : FuncData
 a_59 : Addr
 d_59 : FuncData
 a_55 : Addr
 d_55 : FuncData
 a_54 : Addr
 d_54 : FuncData
 a_53 : Addr
 d_53 : FuncData
 a_18 : Addr
 d_18 : FuncData
 a_56 : Addr
 d_56 : FuncData
 a_52 : Addr
 d_52 : FuncData
 a_28 : Addr
 d_28 : FuncData
 a_19 : Addr
 d_19 : FuncData
 a_34 : Addr
 d_34 : FuncData
 a_5 : Addr
 d_5 : FuncData
 a_27 : Addr
 d_27 : FuncData
 a_46 : Addr
 d_46 : FuncData
 k_23 : Addr
 t_23 : Addr
 k_15 : Addr
 t_15 : Addr
set_option genInjectivity false in
set_option genSizeOf false in
structure Txt (K : W.Frag) (mg : Str → Option Value) (A : Adr) : Prop where
 f_2 : Fm K mg "_law_bits" "_law_bits" s_2 A.a_2 A.d_2 ["_law_cell"]
 f_0 : Fm K mg "_law_at" "_law_at" s_0 A.a_0 A.d_0 ["_law_script", "_law_k"]
 f_10 : Fm K mg "_law_number" "_law_number" wF A.a_10 A.d_10 ["_law_cell", "_law_depth", "_law_begin_here"]
 f_9 : Fm K mg "_law_meets" "_law_meets" s_9 A.a_9 A.d_9 ["_law_bits_here", "_law_low", "_law_high", "_law_depth", "_law_begin_here"]
 f_8 : Fm K mg "_law_mark" "_law_mark" s_8 A.a_8 A.d_8 ["_law_number_here"]
 f_26 : Fm K mg "_law_text" "_law_text" wC A.a_26 A.d_26 ["_law_cell"]
 f_1 : Fm K mg "_law_begin" "_law_begin" s_1 A.a_1 A.d_1 ["_law_number_here", "_law_begin_here", "_law_more", "_law_low", "_law_high", "_law_free"]
 f_12 : Fm K mg "_law_part" "_law_part" wj A.a_12 A.d_12 ["_law_cell", "_law_bits_here", "_law_low", "_law_high", "_law_depth", "_law_begin_here", "_law_deep"]
 f_21 : Fm K mg "_law_spots" "_law_spots" wB A.a_21 A.d_21 ["_law_part_here", "_law_depth", "_law_begin_here", "_law_path"]
 f_14 : Fm K mg "_law_part_at" "_law_part_at" vI A.a_14 A.d_14 ["_law_part_here", "_law_path"]
 f_7 : Fm K mg "_law_leaves" "_law_leaves" s_7 A.a_7 A.d_7 ["_law_part_here"]
 f_6 : Fm K mg "_law_key" "_law_key" s_6 A.a_6 A.d_6 ["_law_bits_here", "_law_cell", "_law_others"]
 f_22 : Fm K mg "_law_stretch_round" "_law_stretch_round" vV A.a_22 A.d_22 ["_law_bits_here", "_law_key_here", "_law_cell"]
 f_23 : Fm K mg "_law_sure" "_law_sure" ld A.a_23 A.d_23 ["_law_first"]
 f_11 : Fm K mg "_law_open" "_law_open" xv A.a_11 A.d_11 ["_law_stamper", "_law_part_here"]
 f_15 : Fm K mg "_law_planted" "_law_planted" lf A.a_15 A.d_15 ["_law_sure_one", "_law_one", "_law_other"]
 f_29 : Fm K mg "_law_with" "_law_with" wU A.a_29 A.d_29 ["_law_part_here", "_law_path", "_law_new"]
 f_3 : Fm K mg "_law_cut" "_law_cut" s_3 A.a_3 A.d_3 ["_law_stamper", "_law_bits_here", "_law_ends", "_law_depth", "_law_begin_here", "_law_part_here"]
 f_45 : Fm K mg "is_whole" "is_whole" xo A.a_45 A.d_45 ["thing"]
 f_38 : Fm K mg "is_key" "is_key" xw A.a_38 A.d_38 ["bits", "thing"]
 f_33 : Fm K mg "check_stretch" "check_stretch" xH A.a_33 A.d_33 ["bits", "low", "high"]
 f_57 : Fm K mg "span" "span" vy A.a_57 A.d_57 ["bits", "depth", "begin"]
 f_47 : Fm K mg "meets" "meets" vU A.a_47 A.d_47 ["bits", "low", "high", "depth", "begin"]
 f_42 : Fm K mg "is_stamp" "is_stamp" vX A.a_42 A.d_42 ["thing"]
 f_35 : Fm K mg "is_cut" "is_cut" wO A.a_35 A.d_35 ["thing"]
 f_44 : Fm K mg "is_value" "is_value" wP A.a_44 A.d_44 ["thing"]
 f_58 : Fm K mg "start" "start" wt A.a_58 A.d_58 ["bits", "key", "depth"]
 f_39 : Fm K mg "is_leaf" "is_leaf" vq A.a_39 A.d_39 ["bits", "depth", "begin", "thing"]
 f_37 : Fm K mg "is_fork" "is_fork" vG A.a_37 A.d_37 ["bits", "depth", "begin", "thing"]
 f_40 : Fm K mg "is_part" "is_part" vO A.a_40 A.d_40 ["bits", "low", "high", "depth", "begin", "thing"]
 f_32 : Fm K mg "check_part" "check_part" xB A.a_32 A.d_32 ["bits", "low", "high", "depth", "begin", "part"]
 f_31 : Fm K mg "check_paper" "check_paper" vK A.a_31 A.d_31 ["bits", "low", "high", "paper"]
 f_48 : Fm K mg "part_mark" "part_mark" xE A.a_48 A.d_48 ["stamper", "part", "terms"]
 f_49 : Fm K mg "part_terms" "part_terms" wX A.a_49 A.d_49 ["stamper", "part"]
 f_62 : Fm K mg "stretch_terms" "stretch_terms" wq A.a_62 A.d_62 ["stamper", "bits", "low", "high", "paper"]
 f_61 : Fm K mg "stretch_mark" "stretch_mark" xz A.a_61 A.d_61 ["stamper", "bits", "low", "high", "paper"]
 f_50 : Fm K mg "rows_within" "rows_within" xg A.a_50 A.d_50 ["low", "high", "terms"]
 f_60 : Fm K mg "stretch_answer" "stretch_answer" wp A.a_60 A.d_60 ["stamper", "bits", "mark", "low", "high", "paper"]
 f_13 : Fm K mg "_law_part_alike" "_law_part_alike" xN A.a_13 A.d_13 ["_law_found", "_law_due"]
 f_25 : Fm K mg "_law_term_alike" "_law_term_alike" vE A.a_25 A.d_25 ["_law_found", "_law_due"]
 f_17 : Fm K mg "_law_rows_alike" "_law_rows_alike" wg A.a_17 A.d_17 ["_law_found", "_law_due"]
 f_4 : Fm K mg "_law_inner" "_law_inner" s_4 A.a_4 A.d_4 ["_law_part_here", "_law_low", "_law_high"]
 f_20 : Fm K mg "_law_slip_in" "_law_slip_in" xU A.a_20 A.d_20 ["_law_stamper", "_law_bits_here", "_law_part_here", "_law_key_here"]
 f_43 : Fm K mg "is_step" "is_step" wJ A.a_43 A.d_43 ["bits", "least", "thing"]
 f_30 : Fm K mg "are_steps" "are_steps" wN A.a_30 A.d_30 ["bits", "thing"]
 f_36 : Fm K mg "is_end" "is_end" vt A.a_36 A.d_36 ["bits", "key", "place", "thing"]
 f_41 : Fm K mg "is_slip" "is_slip" wH A.a_41 A.d_41 ["bits", "key", "thing"]
 f_51 : Fm K mg "side" "side" vv A.a_51 A.d_51 ["bits", "key", "depth"]
 f_59 : Fm K mg "step_term" "step_term" wG A.a_59 A.d_59 ["bits", "key", "step", "mark"]
 f_55 : Fm K mg "slip_terms" "slip_terms" xm A.a_55 A.d_55 ["stamper", "bits", "key", "slip"]
 f_54 : Fm K mg "slip_mark" "slip_mark" vR A.a_54 A.d_54 ["stamper", "bits", "key", "slip"]
 f_53 : Fm K mg "slip_from" "slip_from" xn A.a_53 A.d_53 ["stamper", "bits", "low", "high", "paper", "key"]
 f_18 : Fm K mg "_law_same" "_law_same" xj A.a_18 A.d_18 ["_law_found", "_law_due"]
 f_56 : Fm K mg "slip_value" "slip_value" wE A.a_56 A.d_56 ["key", "slip"]
 f_52 : Fm K mg "slip_answer" "slip_answer" xW A.a_52 A.d_52 ["stamper", "bits", "mark", "key", "slip"]
 f_28 : Fm K mg "_law_value" "_law_value" wZ A.a_28 A.d_28 ["_law_tree", "_law_key_here"]
 f_19 : Fm K mg "_law_shown" "_law_shown" vk A.a_19 A.d_19 ["_law_stamper", "_law_bits_here", "_law_mark_here", "_law_ends", "_law_key_here", "_law_tree"]
 f_34 : Fm K mg "clash" "clash" xL A.a_34 A.d_34 ["stamper", "terms"]
 f_5 : Fm K mg "_law_is_pair" "_law_is_pair" s_5 A.a_5 A.d_5 ["_law_found", "_law_one", "_law_other"]
 f_27 : Fm K mg "_law_trees_right" "_law_trees_right" wf A.a_27 A.d_27 ["_law_bits_here", "_law_tree", "_law_path", "_law_one", "_law_other", "_law_key_here", "_law_ends", "_law_cell"]
 f_46 : Fm K mg "law" "law" vo A.a_46 A.d_46 ["_law_script"]
 z_bool : mg "bool" = none
 z_int : mg "int" = none
 z_isinstance : mg "isinstance" = none
 z_len : mg "len" = none
 z_list : mg "list" = none
 z_max : mg "max" = none
 z_min : mg "min" = none
 z_range : mg "range" = none
 z_reversed : mg "reversed" = none
 z_str : mg "str" = none
 z_tuple : mg "tuple" = none
 c_MOST_SIGNS : ∃ t, mg "MOST_SIGNS" = some (.int 60 t)
 kc_23 : A.d_23.code = .ref A.k_23
 kc_15 : A.d_15.code = .ref A.k_15
def Ew (A : Adr) (H : Hp) : Prop := H A.t_23 = some (.tbl #[]) ∧ H A.t_15 = some (.tbl #[]) ∧ ([A.t_23, A.t_15] : List Addr).Nodup
theorem Gk : jl ["_law_term", "_law_known", "_law_first"] ["_law_term"] ["_law_known", "_law_first"] dE.scope := ⟨rfl, rfl, rfl, by decide +kernel, rfl, rfl, by decide +kernel, by decide +kernel, by decide +kernel, by decide +kernel, by decide +kernel⟩
theorem EV : jl ["_law_term", "_law_sure_one", "_law_other", "_law_one"] ["_law_term"] ["_law_sure_one", "_law_other", "_law_one"] fM.scope := ⟨rfl, rfl, rfl, by decide +kernel, rfl, rfl, by decide +kernel, by decide +kernel, by decide +kernel, by decide +kernel, by decide +kernel⟩
theorem GV : aF ["_law_cell"] ["_law_cell"] (ap s_2) := scF
theorem qe : aF ["_law_script", "_law_k", "_law_number_here", "_law_cell"] ["_law_script", "_law_k"] (ap s_0) := scF
theorem Fz : aF ["_law_cell", "_law_depth", "_law_begin_here"] ["_law_cell", "_law_depth", "_law_begin_here"] (ap wF) := scF
theorem Cf : aF ["_law_bits_here", "_law_low", "_law_high", "_law_depth", "_law_begin_here", "_law_wide"] ["_law_bits_here", "_law_low", "_law_high", "_law_depth", "_law_begin_here"] (ap s_9) := scF
theorem AC : aF ["_law_number_here"] ["_law_number_here"] (ap s_8) := scF
theorem gX : aF ["_law_cell", "_law_signs", "_law_size", "_law_made", "_law_k"] ["_law_cell"] (ap wC) := scF
theorem AI : aF ["_law_number_here", "_law_begin_here", "_law_more", "_law_low", "_law_high", "_law_free", "_law_own"] ["_law_number_here", "_law_begin_here", "_law_more", "_law_low", "_law_high", "_law_free"] (ap s_1) := scF
theorem gZ : aF ["_law_cell", "_law_bits_here", "_law_low", "_law_high", "_law_depth", "_law_begin_here", "_law_deep", "_law_number_here", "_law_free", "_law_key_here", "_law_more", "_law_own", "_law_left", "_law_right"] ["_law_cell", "_law_bits_here", "_law_low", "_law_high", "_law_depth", "_law_begin_here", "_law_deep"] (ap wj) := scF
theorem pA : aF ["_law_part_here", "_law_depth", "_law_begin_here", "_law_path", "_law_found"] ["_law_part_here", "_law_depth", "_law_begin_here", "_law_path"] (ap wB) := scF
theorem sC : aF ["_law_part_here", "_law_path", "_law_at_here"] ["_law_part_here", "_law_path"] (ap vI) := scF
theorem Hn : aF ["_law_part_here"] ["_law_part_here"] (ap s_7) := scF
theorem rM : aF ["_law_bits_here", "_law_cell", "_law_others", "_law_many", "_law_number_here", "_law_flip"] ["_law_bits_here", "_law_cell", "_law_others"] (ap s_6) := scF
theorem pD : aF ["_law_bits_here", "_law_key_here", "_law_cell", "_law_other"] ["_law_bits_here", "_law_key_here", "_law_cell"] (ap vV) := scF
theorem sM : aF ["_law_first", "_law_known", "_law_number"] ["_law_first"] (ap ld) := scF
theorem oK : aF ["_law_stamper", "_law_part_here", "_law_left", "_law_right", "_law_own"] ["_law_stamper", "_law_part_here"] (ap xv) := scF
theorem yy : aF ["_law_sure_one", "_law_one", "_law_other", "_law_number"] ["_law_sure_one", "_law_one", "_law_other"] (ap lf) := scF
theorem yf : aF ["_law_part_here", "_law_path", "_law_new", "_law_at_here"] ["_law_part_here", "_law_path", "_law_new"] (ap wU) := scF
theorem xb : aF ["_law_stamper", "_law_bits_here", "_law_ends", "_law_depth", "_law_begin_here", "_law_part_here", "_law_left", "_law_right"] ["_law_stamper", "_law_bits_here", "_law_ends", "_law_depth", "_law_begin_here", "_law_part_here"] (ap s_3) := scF
theorem Ex : aF ["thing"] ["thing"] (ap xo) := scF
theorem FM : aF ["bits", "thing"] ["bits", "thing"] (ap xw) := scF
theorem FK : aF ["bits", "low", "high"] ["bits", "low", "high"] (ap xH) := scF
theorem yI : aF ["bits", "depth", "begin", "rest"] ["bits", "depth", "begin"] (ap vy) := scF
theorem yL : aF ["bits", "low", "high", "depth", "begin", "ends"] ["bits", "low", "high", "depth", "begin"] (ap vU) := scF
theorem Ep : aF ["thing"] ["thing"] (ap vX) := scF
theorem DA : aF ["thing"] ["thing"] (ap wO) := scF
theorem DL : aF ["thing"] ["thing"] (ap wP) := scF
theorem FZ : aF ["bits", "key", "depth"] ["bits", "key", "depth"] (ap wt) := scF
theorem Gb : aF ["bits", "depth", "begin", "thing"] ["bits", "depth", "begin", "thing"] (ap vq) := scF
theorem Ft : aF ["bits", "depth", "begin", "thing"] ["bits", "depth", "begin", "thing"] (ap vG) := scF
theorem En : aF ["bits", "low", "high", "depth", "begin", "thing"] ["bits", "low", "high", "depth", "begin", "thing"] (ap vO) := scF
theorem Fr : aF ["bits", "low", "high", "depth", "begin", "part"] ["bits", "low", "high", "depth", "begin", "part"] (ap xB) := scF
theorem ET : aF ["bits", "low", "high", "paper"] ["bits", "low", "high", "paper"] (ap vK) := scF
theorem EU : aF ["stamper", "part", "terms"] ["stamper", "part", "terms"] (ap xE) := scF
theorem oz : aF ["stamper", "part", "left", "right", "marks"] ["stamper", "part"] (ap wX) := scF
theorem DQ : aF ["stamper", "bits", "low", "high", "paper"] ["stamper", "bits", "low", "high", "paper"] (ap wq) := scF
theorem Ez : aF ["stamper", "bits", "low", "high", "paper"] ["stamper", "bits", "low", "high", "paper"] (ap xz) := scF
theorem Fx : aF ["low", "high", "terms"] ["low", "high", "terms"] (ap xg) := scF
theorem rK : aF ["stamper", "bits", "mark", "low", "high", "paper", "terms", "came"] ["stamper", "bits", "mark", "low", "high", "paper"] (ap wp) := scF
theorem Ei : aF ["_law_found", "_law_due"] ["_law_found", "_law_due"] (ap xN) := scF
theorem yt : aF ["_law_found", "_law_due", "_law_k"] ["_law_found", "_law_due"] (ap vE) := scF
theorem yh : aF ["_law_found", "_law_due", "_law_k"] ["_law_found", "_law_due"] (ap wg) := scF
theorem Gs : aF ["_law_part_here", "_law_low", "_law_high"] ["_law_part_here", "_law_low", "_law_high"] (ap s_4) := scF
theorem oN : aF ["_law_stamper", "_law_bits_here", "_law_part_here", "_law_key_here", "_law_steps"] ["_law_stamper", "_law_bits_here", "_law_part_here", "_law_key_here"] (ap xU) := scF
theorem EZ : aF ["bits", "least", "thing"] ["bits", "least", "thing"] (ap wJ) := scF
theorem oV : aF ["bits", "thing", "least", "step"] ["bits", "thing"] (ap wN) := scF
theorem yT : aF ["bits", "key", "place", "thing", "begin"] ["bits", "key", "place", "thing"] (ap vt) := scF
theorem xZ : aF ["bits", "key", "thing", "place"] ["bits", "key", "thing"] (ap wH) := scF
theorem EF : aF ["bits", "key", "depth"] ["bits", "key", "depth"] (ap vv) := scF
theorem rR : aF ["bits", "key", "step", "mark", "depth", "begin"] ["bits", "key", "step", "mark"] (ap wG) := scF
theorem rH : aF ["stamper", "bits", "key", "slip", "terms", "step"] ["stamper", "bits", "key", "slip"] (ap xm) := scF
theorem DM : aF ["stamper", "bits", "key", "slip"] ["stamper", "bits", "key", "slip"] (ap vR) := scF
theorem kJ : aF ["stamper", "bits", "low", "high", "paper", "key", "steps", "part", "turn", "aside"] ["stamper", "bits", "low", "high", "paper", "key"] (ap xn) := scF
theorem Fp : aF ["_law_found", "_law_due"] ["_law_found", "_law_due"] (ap xj) := scF
theorem ym : aF ["key", "slip", "end"] ["key", "slip"] (ap wE) := scF
theorem yK : aF ["stamper", "bits", "mark", "key", "slip", "came"] ["stamper", "bits", "mark", "key", "slip"] (ap xW) := scF
theorem yN : aF ["_law_tree", "_law_key_here", "_law_other", "_law_told"] ["_law_tree", "_law_key_here"] (ap wZ) := scF
theorem mm : aF ["_law_stamper", "_law_bits_here", "_law_mark_here", "_law_ends", "_law_key_here", "_law_tree", "_law_paper_here", "_law_found", "_law_slip", "_law_terms"] ["_law_stamper", "_law_bits_here", "_law_mark_here", "_law_ends", "_law_key_here", "_law_tree"] (ap vk) := scF
theorem pd : aF ["stamper", "terms", "firsts", "term", "ahead"] ["stamper", "terms"] (ap xL) := scF
theorem Hk : aF ["_law_found", "_law_one", "_law_other"] ["_law_found", "_law_one", "_law_other"] (ap s_5) := scF
theorem eJ : aF ["_law_bits_here", "_law_tree", "_law_path", "_law_one", "_law_other", "_law_key_here", "_law_ends", "_law_cell", "_law_sure_one", "_law_mine", "_law_theirs", "_law_stamper", "_law_first", "_law_second", "_law_mark_here", "_law_ones", "_law_others", "_law_k", "_law_found"] ["_law_bits_here", "_law_tree", "_law_path", "_law_one", "_law_other", "_law_key_here", "_law_ends", "_law_cell"] (ap wf) := scF
theorem fg : aF ["_law_script", "_law_bits_here", "_law_most", "_law_tree", "_law_spots_here", "_law_cell", "_law_depth", "_law_begin_here", "_law_path", "_law_number_here", "_law_one", "_law_other", "_law_keys", "_law_key_here", "_law_ends"] ["_law_script"] (ap vo) := scF
end Rs
namespace Rs
open PySem PySem.Spec PyProof.Rows L2
inductive Dat where
 | non
 | bl (b : Bool)
 | int (i : Int)
 | str (z : Str)
 | lst (ds : List Dat)
 | tup (ds : List Dat)
 | dic
mutual
inductive aP (H : Hp) : V → Dat → Prop
 | non : aP H .non .non
 | bl (b) : aP H (.bl b) (.bl b)
 | int (i) : aP H (.int i) (.int i)
 | str (z) : aP H (.str z) (.str z)
 | lst {a xs ds} : H a = some (.lst xs) → DatWs H xs ds → aP H (.ref a) (.lst ds)
 | tup {a xs ds} : H a = some (.tup xs) → DatWs H xs ds → aP H (.ref a) (.tup ds)
 | dic {a} : ((∃ kvs, H a = some (.dK kvs)) ∨ ∃ kvs, H a = some (.dT kvs)) → aP H (.ref a) .dic
inductive DatWs (H : Hp) : List V → List Dat → Prop
 | nil : DatWs H [] []
 | cons {x xs d ds} : aP H x d → DatWs H xs ds → DatWs H (x :: xs) (d :: ds)
end
mutual
def cO : Dat → PyData
 | .non => .none
 | .bl b => .bool b
 | .int i => .int i
 | .str z => .str z
 | .lst ds => .list (toPys ds)
 | .tup ds => .tuple (toPys ds)
 | .dic => .none
def toPys : List Dat → List PyData
 | [] => []
 | d :: r => cO d :: toPys r
end
def fB (z : Str) : Bool := z.cps.all (· < 128)
mutual
def okD : Dat → Bool
 | .str z => fB z && decide (z.length ≤ 100000)
 | .lst ds => okDs ds
 | .tup ds => okDs ds
 | .dic => false
 | .non => true
 | .bl _ => true
 | .int _ => true
def okDs : List Dat → Bool
 | [] => true
 | d :: r => okD d && okDs r
end
def xQ : Dat → Bool
 | .int _ => true
 | _ => false
def bX : Dat → Bool
 | .int i => decide (0 ≤ i ∧ i < 10 ^ 60)
 | .str _ => true
 | _ => false
def bY (w : Str) : Dat → Bool
 | .str z => decide (z = w)
 | _ => false
def gQ (bits : Int) : Dat → Bool
 | .int i => decide (0 ≤ i ∧ i < 2 ^ bits.toNat)
 | _ => false
def eQ : Dat → Bool
 | .str z => decide (z.length ≤ 60)
 | _ => false
def aw (bits key depth : Int) : Int := key / 2 ^ (bits - depth).toNat
def eW (bits depth begin : Int) : Dat → Bool
 | .tup [w, .int k, z] => bY "leaf" w && decide (0 ≤ k ∧ k < 2 ^ bits.toNat) && eQ z && decide (aw bits k depth = begin)
 | _ => false
def da (bits depth begin : Int) : Dat → Bool
 | .tup [w, .int e, .int b, _, _] => bY "fork" w && decide (depth ≤ e ∧ e < bits) && decide (0 ≤ b ∧ b < 2 ^ e.toNat) && decide (b / 2 ^ (e - depth).toNat = begin)
 | _ => false
def jd : Dat → Bool
 | .tup [w] => bY "bare" w
 | _ => false
def bU (bits least : Int) : Dat → Bool
 | .tup [.int d, m] => decide (least ≤ d ∧ d < bits) && bX m
 | _ => false
def eu : Dat → Int
 | .tup (.int d :: _) => d
 | _ => 0
def bu (bits : Int) : Int → List Dat → Bool
 | _, [] => true
 | least, s :: r => bU bits least s && bu bits (eu s + 1) r
def ye (bits key : Int) : Dat → Bool
 | .tup [_, .int e, .int b, m, n] => !decide (b = aw bits key e) && bX m && bX n
 | _ => false
def eN (bits key place : Int) (d : Dat) : Bool :=
 if jd d then decide (place = 0)
 else eW bits place (aw bits key place) d || (da bits place (aw bits key place) d && ye bits key d)
def jf (ds : List Dat) : Int := match ds.getLast? with
 | some s => eu s + 1
 | none => 0
def kI (bits key : Int) : Dat → Bool
 | .tup [.tup ds, e] => bu bits 0 ds && eN bits key (jf ds) e
 | _ => false
def gL (d : Dat) : Prop := (okD d = true ∧ (cO d).depth ≤ 140) ∨ d = .dic
def iQ (K : W.Frag) (A : Adr) : Sp := fun vs H Q _ => ∃ v d, vs = [v] ∧ aP H v d ∧ Q (.bl (xQ d)) H
def jm (K : W.Frag) (A : Adr) : Sp := fun vs H Q _ => ∃ v d, vs = [v] ∧ aP H v d ∧ Q (.bl (bX d)) H
def iI (K : W.Frag) (A : Adr) : Sp := fun vs H Q _ => ∃ (b k d : Int), vs = [.int b, .int k, .int d] ∧ d ≤ b ∧ Q (.int (aw b k d)) H
def iK (K : W.Frag) (A : Adr) : Sp := fun vs H Q _ => ∃ (b : Int) (v : V) (d : Dat), vs = [.int b, v] ∧ 0 ≤ b ∧ b ≤ 60 ∧ aP H v d ∧ Q (.bl (gQ b d)) H
def ph (K : W.Frag) (A : Adr) : Sp := fun vs H Q _ => ∃ (v : V) (d : Dat), vs = [v] ∧ aP H v d ∧ okD d = true ∧ Q (.bl (eQ d)) H
def kP (K : W.Frag) (A : Adr) : Sp := fun vs H Q _ => ∃ (b p g : Int) (v : V) (d : Dat), vs = [.int b, .int p, .int g, v] ∧ 0 ≤ b ∧ b ≤ 60 ∧ p ≤ b ∧ aP H v d ∧ gL d ∧ Q (.bl (eW b p g d)) H
def kC (K : W.Frag) (A : Adr) : Sp := fun vs H Q _ => ∃ (b p g : Int) (v : V) (d : Dat), vs = [.int b, .int p, .int g, v] ∧ 0 ≤ p ∧ b ≤ 60 ∧ p ≤ b ∧ aP H v d ∧ gL d ∧ Q (.bl (da b p g d)) H
def oG (K : W.Frag) (A : Adr) : Sp := fun vs H Q _ => ∃ (b l : Int) (v : V) (d : Dat), vs = [.int b, .int l, v] ∧ aP H v d ∧ Q (.bl (bU b l d)) H
def oW (K : W.Frag) (A : Adr) : Sp := fun vs H Q _ => ∃ (b : Int) (v : V) (d : Dat), vs = [.int b, v] ∧ aP H v d ∧ Q (.bl (match d with | .tup ds => bu b 0 ds | _ => false)) H
def pF (K : W.Frag) (A : Adr) : Sp := fun vs H Q _ => ∃ (b k p : Int) (v : V) (d : Dat), vs = [.int b, .int k, .int p, v] ∧ 0 ≤ p ∧ b ≤ 60 ∧ p ≤ b ∧ aP H v d ∧ gL d ∧ ∀ H', ay H H' → Q (.bl (eN b k p d)) H'
def BQ : Dat → Prop
 | .tup [_, e] => gL e
 | _ => True
def oQ (K : W.Frag) (A : Adr) : Sp := fun vs H Q _ => ∃ (b k : Int) (v : V) (d : Dat), vs = [.int b, .int k, v] ∧ 0 ≤ b ∧ b ≤ 60 ∧ aP H v d ∧ BQ d ∧ ∀ H', ay H H' → Q (.bl (kI b k d)) H'
def bc : Key → Dat
 | .inl i => .int i
 | .inr z => .str z
def szK : Key → Nat
 | .inl _ => 62
 | .inr z => z.length + 62
def mx (m : Key) : Prop := bX (bc m) = true ∧ okD (bc m) = true ∧ szK m ≤ 1062
def dQ (low : Int) (ds : List Dat) : Int := match ds.getLast? with
 | some s => eu s + 1
 | none => low
def dX (K : W.Frag) (A : Adr) : Sp := fun vs H Q _ => ∃ (a : Addr) (ns : List Int) (k : Int), vs = [.ref a, .int k] ∧ SqL K H a (ns.map V.int) ∧ 0 ≤ k ∧ ∀ (z : Int) (H' : Hp), ay H H' → Q (.int z) H'
def sf (K : W.Frag) (A : Adr) : Sp := fun vs H Q _ => ∃ c : Int, vs = [.int c] ∧ ∀ (b : Int) (H' : Hp), ay H H' → 1 ≤ b → b ≤ 60 → Q (.int b) H'
def lh (K : W.Frag) (A : Adr) : Sp := fun vs H Q _ => ∃ (b c : Int) (o : Addr) (ks : List Int), vs = [.int b, .int c, .ref o] ∧ 1 ≤ b ∧ b ≤ 60 ∧ H o = some (.lst (ks.map V.int)) ∧ ks.length ≤ 1 ∧ (∀ k ∈ ks, 0 ≤ k ∧ k < 2 ^ b.toNat) ∧ ∀ (k : Int) (H' : Hp), ay H H' → 0 ≤ k → k < 2 ^ b.toNat → Q (.int k) H'
def jG (K : W.Frag) (A : Adr) : Sp := fun vs H Q _ => ∃ c : Int, vs = [.int c] ∧ ∀ (z : Str) (H' : Hp), ay H H' → z.length ≤ 60 → fB z = true → Q (.str z) H'
def sv (K : W.Frag) (A : Adr) : Sp := fun vs H Q _ => ∃ c : Int, vs = [.int c] ∧ ∀ m : Key, mx m → Q (kV m) H
def okP : Key → Bool
 | .inl i => decide (0 ≤ i ∧ i < 10 ^ 60)
 | .inr z => fB z && decide (z.length ≤ 100000)
def mv : Key → Bool
 | .inr _ => true
 | .inl _ => false
def okT (k : List Key) : Bool := decide (1 ≤ k.length ∧ k.length ≤ 8) && (k.head?.map mv).getD false && k.all okP
def szT (k : List Key) : Nat := (k.map szK).sum
def lu (k : List Key) : Key → Prop
 | .inl i => 0 ≤ i ∧ i < 10 ^ 60
 | .inr _ => False
def aE (H H' : Hp) : Prop := ∀ b o, H b = some o → (∀ kvs, o ≠ .dT kvs) → H' b = some o
def gT (kvs : List (List Key × Key)) : List (List Key × V) := kvs.map fun p => (p.1, kV p.2)
def aX (kvs : List (List Key × Key)) (k : List Key) : Option Key := (kvs.find? fun p => decide (p.1 = k)).map (·.2)
def gf (j : Int) (kvs : List (List Key × Key)) : Prop := ∀ (i : Nat) (p : List Key × Key), kvs[i]? = some p → p.2 = Sum.inl (3 * (i : Int) + j)
set_option genInjectivity false in
set_option genSizeOf false in
structure SA where
 f : Addr
 b : Addr
 q0 : Addr
 q1 : Addr
 c : Addr
 j : Int
structure dC (H : Hp) (a : SA) (kvs : List (List Key × Key)) (n : Nat) : Prop where
 j0 : 0 ≤ a.j
 j1 : a.j < 1000
 hf : H a.f = some (fw a.f dE [a.q1, a.q0] a.c)
 hc : H a.c = some (fN a.c dE.qual)
 h0 : H a.q0 = some (bg a.q0 (.int a.j))
 h1 : H a.q1 = some (bg a.q1 (.ref a.b))
 hb : H a.b = some (.dT (gT kvs))
 hl : kvs.length ≤ n
 st : gf a.j kvs
structure iN (H : Hp) (f : Addr) (a : SA) (k1 k2 : List Key) (kvs : List (List Key × Key)) (n : Nat) : Prop where
 ex : ∃ (q0 q1 q2 o1 o2 : Addr), gy H f fM [q0, q2, q1] [.ref a.f, .ref o2, .ref o1] ∧ H o1 = some (.tup (k1.map kV)) ∧ H o2 = some (.tup (k2.map kV)) ∧ ∀ x ∈ [a.f, a.q0, a.q1, a.c], x ∉ [q0, q2, q1]
 k1 : okT k1 = true
 k2 : okT k2 = true
 su : dC H a kvs n
set_option genInjectivity false in
set_option genSizeOf false in
structure Kd where
 a : SA
 pl : Option (List Key × List Key)
inductive Stq (A : Adr) (H : Hp) (f : Addr) (d : Kd) (g : List Key → Option Key) (n : Nat) : Prop
 | sur (kvs : List (List Key × Key)) (h : dC H d.a kvs n) (ef : f = d.a.f) (ep : d.pl = none) (hg : g = aX kvs)
 | pla (k1 k2 : List Key) (kvs : List (List Key × Key)) (h : iN H f d.a k1 k2 kvs n) (ep : d.pl = some (k1, k2)) (hg : g = aX kvs)
def eff (d : Kd) (g : List Key → Option Key) : List Key → Option Key := match d.pl with
 | none => g
 | some p => fun k => g (if k = p.2 then p.1 else k)
def cC (g g' : List Key → Option Key) : Prop := ∀ k v, g k = some v → g' k = some v
def fV (g : List Key → Option Key) (h : List Key → Key) : Prop := ∀ k v, g k = some v → h k = v
structure SG where
 d : Kd
 g : List Key → Option Key
def SG.e (g : SG) : List Key → Option Key := eff g.d g.g
def Stp (A : Adr) (H : Hp) (f : Addr) (g : SG) (n : Nat) : Prop := Stq A H f g.d g.g n
def Sub (g g' : SG) : Prop := g.d = g'.d ∧ cC g.g g'.g
def Ext (g : SG) (h : List Key → Key) : Prop := ∀ k v, g.e k = some v → h k = v
abbrev PK (H : Hp) : List Addr → List (List Key) → Prop := Paired (fun (p : Addr) (k : List Key) => H p = some (.tup (k.map kV)) ∧ okT k = true)
def qg (kvs : List (List Key × V)) (kk : List Key) (d : V) : V := (cg kvs kk).getD d
def qu (H : Hp) (b : Addr) (kvs : List (List Key × V)) (kk : List Key) (d : V) : Hp := if (cg kvs kk).isSome = true then H else upd H b (.dT (dH kvs kk d))
def lO (K : W.Frag) (A : Adr) : Sp := fun vs H Q _ => ∃ (p b : Addr) (j : Int) (k : List Key) (kvs : List (List Key × V)), vs = [.ref p, .ref b, .int j] ∧ H p = some (.tup (k.map kV)) ∧ H b = some (.dT kvs) ∧ kvs.length ≤ 50000 ∧ Q (qg kvs k (.int (3 * (kvs.length : Int) + j))) (qu H b kvs k (.int (3 * (kvs.length : Int) + j)))
def sF (K : W.Frag) (A : Adr) : Sp := fun vs H Q _ => ∃ (p o1 o2 : Addr) (a : SA) (k k1 k2 : List Key) (kvs : List (List Key × Key)) (n : Nat), vs = [.ref p, .ref a.f, .ref o2, .ref o1] ∧ H p = some (.tup (k.map kV)) ∧ H o1 = some (.tup (k1.map kV)) ∧ H o2 = some (.tup (k2.map kV)) ∧ okT k = true ∧ okT k1 = true ∧ okT k2 = true ∧ dC H a kvs n ∧ n ≤ 45000 ∧
 ∀ (v : Key) (H' : Hp) (kvs' : List (List Key × Key)), (∀ x o, x ≠ a.b → H x = some o → H' x = some o) → dC H' a kvs' (n + 1) → cC (aX kvs) (aX kvs') → aX kvs' (if k = k2 then k1 else k) = some v → (∃ i : Int, 0 ≤ i ∧ i < 10 ^ 60 ∧ v = .inl i) → Q (kV v) H'
def cD (P : Addr) (H H' : Hp) : Prop := ∀ b o, H b = some o → b ≠ P → H' b = some o
def cv (P : Addr) (l c : Nat) (t : cT) (H : Hp) : Prop := ∃ ps, H P = some (.tbl ps) ∧ (ps = #[] ∨ ∃ a, ps = #[] ++ #[rawInt ((l : Nat) : Int), rawInt ((c : Nat) : Int), .ref a] ∧ H a = some (fN a t.qual))
def fD (A : Adr) (H : Hp) : Prop := cv A.t_23 221 4 dE H
def fS (A : Adr) (H : Hp) : Prop := cv A.t_15 226 4 fM H
def oP (K : W.Frag) (A : Adr) : Sp := fun vs H Q _ => ∃ j : Int, vs = [.int j] ∧ 0 ≤ j ∧ j < 1000 ∧ fD A H ∧ ∀ (a : SA) (H' : Hp), cD A.t_23 H H' → fD A H' → H a.b = none → dC H' a [] 0 → Q (.ref a.f) H'
def lU (K : W.Frag) (A : Adr) : Sp := fun vs H Q _ => ∃ (o1 o2 : Addr) (a : SA) (k1 k2 : List Key) (kvs : List (List Key × Key)) (n : Nat), vs = [.ref a.f, .ref o1, .ref o2] ∧ H o1 = some (.tup (k1.map kV)) ∧ H o2 = some (.tup (k2.map kV)) ∧ okT k1 = true ∧ okT k2 = true ∧ dC H a kvs n ∧ fS A H ∧ ∀ (f : Addr) (H' : Hp), cD A.t_15 H H' → fS A H' → iN H' f a k1 k2 kvs n → Q (.ref f) H'
def cE (b : Addr) (H H' : Hp) : Prop := ∀ x o, x ≠ b → H x = some o → H' x = some o
def yC (h : List Key → Key) (ks : List (List Key)) : Option (List Key × List Key) → Prop
 | none => ∀ (j k : Nat) a b, j < k → ks[j]? = some a → ks[k]? = some b → h a = h b → a = b
 | some r => ∃ j k : Nat, j < k ∧ ks[j]? = some r.1 ∧ ks[k]? = some r.2 ∧ r.1 ≠ r.2 ∧ h r.1 = h r.2 ∧ (∀ (j' k' : Nat) a b, j' < k' → k' < k → ks[j']? = some a → ks[k']? = some b → h a = h b → a = b) ∧ ∀ (j' : Nat) a, j' < j → ks[j']? = some a → h a = h r.2 → a = r.2
def pP (H : Hp) : Option (List Key × List Key) → V → Prop
 | none, v => v = .non
 | some r, v => ∃ p a b : Addr, v = .ref p ∧ H p = some (.tup [.ref a, .ref b]) ∧ H a = some (.tup (r.1.map kV)) ∧ H b = some (.tup (r.2.map kV)) ∧ okT r.1 = true ∧ okT r.2 = true
def kB (K : W.Frag) (A : Adr) : Sp := fun vs H Q _ => ∃ (f : Addr) (d : Kd) (L : Addr) (ps : List Addr) (ks : List (List Key)) (g : List Key → Option Key) (n : Nat), vs = [.ref f, .ref L] ∧ Stq A H f d g n ∧ H L = some (.lst (ps.map V.ref)) ∧ PK H ps ks ∧ ks.length ≤ 900 ∧ n ≤ 40000 ∧
 ∀ (v : V) (H' : Hp) (g' : List Key → Option Key) (r : Option (List Key × List Key)), cE d.a.b H H' → Stq A H' f d g' (n + ks.length) → cC g g' → pP H' r v → (∀ h : List Key → Key, fV (eff d g') h → yC h ks r) → Q v H'
def oZ (K : W.Frag) (A : Adr) : Sp := fun vs H Q _ => ∃ x : Key, vs = [kV x, kV x] ∧ Q (.bl true) H
def kR (K : W.Frag) (A : Adr) : Sp := fun vs H Q _ => ∃ (p r : Addr) (k : List Key), vs = [.ref p, .ref r] ∧ H p = some (.tup (k.map kV)) ∧ H r = some (.tup (k.map kV)) ∧ k.length ≤ 8 ∧ Q (.bl true) H
def stD (s : Int × Key) : Dat := .tup [.int s.1, bc s.2]
def cN (b k d : Int) (m s : Key) : List Key := if k / 2 ^ (b - d - 1).toNat % 2 = 0 then [.inr "fork", .inl d, .inl (aw b k d), s, m] else [.inr "fork", .inl d, .inl (aw b k d), m, s]
def cQ (h : List Key → Key) (b k : Int) : List Key → List (Int × Key) → List (List Key)
 | e, [] => [e]
 | e, s :: r => e :: cQ h b k (cN b k s.1 s.2 (h e)) r
def eK (h : List Key → Key) (b k : Int) : List Key → List (Int × Key) → List Key
 | e, [] => e
 | e, s :: r => eK h b k (cN b k s.1 s.2 (h e)) r
def szS (st : List (Int × Key)) : Nat := (st.map fun s => szK s.2 + 252).sum
structure gp (b k : Int) (st : List (Int × Key)) (e : List Key) : Prop where
 b1 : 1 ≤ b
 b60 : b ≤ 60
 k0 : 0 ≤ k
 k1 : k < 2 ^ b.toNat
 gs : bu b 0 (st.map stD) = true
 so : ∀ s ∈ st, okP s.2 = true
 et : okT e = true
 en : eN b k (dQ 0 (st.map stD)) (.tup (e.map bc)) = true
 sz : szT e + szS st ≤ 100000
def iF (H : Hp) (v : V) (b k : Int) (st : List (Int × Key)) (e : List Key) : Prop := aP H v (.tup [.tup (st.map stD), .tup (e.map bc)]) ∧ gp b k st e
def kA (k : Int) : List Key → V
 | [.inr w, .inl x, .inr z] => if w = "leaf" ∧ x = k then .str z else .non
 | _ => .non
def mh (K : W.Frag) (A : Adr) : Sp := fun vs H Q _ => ∃ (b k d : Int), vs = [.int b, .int k, .int d] ∧ d < b ∧ 0 ≤ k ∧ Q (.int (k / 2 ^ (b - d - 1).toNat % 2)) H
def oS (K : W.Frag) (A : Adr) : Sp := fun vs H Q _ => ∃ (b k d : Int) (m s : Key) (p : Addr), vs = [.int b, .int k, .ref p, kV s] ∧ H p = some (.tup [.int d, kV m]) ∧ d < b ∧ 0 ≤ k ∧ ∀ t, H t = none → Q (.ref t) (upd H t (.tup ((cN b k d m s).map kV)))
def zH (K : W.Frag) (A : Adr) : Sp := fun vs H Q _ => ∃ (f : Addr) (b k : Int) (v : V) (st : List (Int × Key)) (e : List Key) (g : SG) (n : Nat), vs = [.ref f, .int b, .int k, v] ∧ iF H v b k st e ∧ Stp A H f g n ∧ n ≤ 40000 ∧
 ∀ (L : Addr) (ps : List Addr) (ts : List (List Key)) (g' : SG) (H' : Hp), aE H H' → Stp A H' f g' (n + st.length) → Sub g g' → H L = none → H' L = some (.lst (ps.map V.ref)) → PK H' ps ts → (∀ h, Ext g' h → ts = cQ h b k e st.reverse) → Q (.ref L) H'
def mJ (K : W.Frag) (A : Adr) : Sp := zH K A
def lY (K : W.Frag) (A : Adr) : Sp := fun vs H Q _ => ∃ (f : Addr) (b k : Int) (v : V) (st : List (Int × Key)) (e : List Key) (g : SG) (n : Nat), vs = [.ref f, .int b, .int k, v] ∧ iF H v b k st e ∧ Stp A H f g n ∧ n ≤ 40000 ∧
 ∀ (x : Key) (g' : SG) (H' : Hp), aE H H' → Stp A H' f g' (n + st.length + 1) → Sub g g' → (∀ h, Ext g' h → x = h (eK h b k e st.reverse)) → Q (kV x) H'
def oM (K : W.Frag) (A : Adr) : Sp := fun vs H Q _ => ∃ (f : Addr) (b k : Int) (v : V) (st : List (Int × Key)) (e : List Key) (g : SG) (n : Nat) (x : Key), vs = [.ref f, .int b, kV x, .int k, v] ∧ iF H v b k st e ∧ Stp A H f g n ∧ n ≤ 40000 ∧ (∀ h, Ext g h → x = h (eK h b k e st.reverse)) ∧
 ∀ (g' : SG) (H' : Hp), aE H H' → Stp A H' f g' (n + st.length + 1) → Sub g g' → Q (kA k e) H'
def pj (K : W.Frag) (A : Adr) : Sp := fun vs H Q _ => ∃ (b k : Int) (v : V) (st : List (Int × Key)) (e : List Key), vs = [.int k, v] ∧ iF H v b k st e ∧ Q (kA k e) H
def pf (K : W.Frag) (A : Adr) : Sp := fun vs H Q _ => ∃ v : V, vs = [v, v] ∧ (v = .non ∨ ∃ z, v = .str z) ∧ Q (.bl true) H
inductive au where
 | cut (m : Key)
 | bare
 | leaf (k : Int) (z : Str)
 | fork (d b : Int) (l r : au)
def aV : au → Dat
 | .cut m => .tup [.str "cut", bc m]
 | .bare => .tup [.str "bare"]
 | .leaf k z => .tup [.str "leaf", .int k, .str z]
 | .fork d b l r => .tup [.str "fork", .int d, .int b, aV l, aV r]
def bf (b lo hi d g : Int) : Bool := decide (g * 2 ^ (b - d).toNat ≤ hi) && decide (lo ≤ (g + 1) * 2 ^ (b - d).toNat - 1)
def aM (b lo hi : Int) : Int → Int → au → Prop
 | d, g, .cut m => bf b lo hi d g = false ∧ mx m
 | d, g, .bare => bf b lo hi d g = true ∧ d = 0
 | d, g, .leaf k z => bf b lo hi d g = true ∧ 0 ≤ k ∧ k < 2 ^ b.toNat ∧ z.length ≤ 60 ∧ fB z = true ∧ aw b k d = g
 | d, g, .fork e x l r => bf b lo hi d g = true ∧ d ≤ e ∧ e < b ∧ 0 ≤ x ∧ x < 2 ^ e.toNat ∧ x / 2 ^ (e - d).toNat = g ∧ aM b lo hi (e + 1) (2 * x) l ∧ aM b lo hi (e + 1) (2 * x + 1) r
def forks : au → Nat
 | .fork _ _ l r => forks l + forks r + 1
 | _ => 0
def aU : au → Nat
 | .fork _ _ l r => max (aU l) (aU r) + 1
 | _ => 0
def bK : au → Nat
 | .cut _ => 0
 | .fork _ _ l r => bK l + bK r + 1
 | _ => 1
def bI : au → Bool
 | .cut _ => true
 | _ => false
def aR (h : List Key → Key) : au → Key
 | .cut m => m
 | .bare => h [.inr "bare"]
 | .leaf k z => h [.inr "leaf", .inl k, .inr z]
 | .fork d b l r => h [.inr "fork", .inl d, .inl b, aR h l, aR h r]
def aJ (h : List Key → Key) : au → List (List Key)
 | .cut _ => []
 | .bare => [[.inr "bare"]]
 | .leaf k z => [[.inr "leaf", .inl k, .inr z]]
 | .fork d b l r => aJ h l ++ aJ h r ++ [[.inr "fork", .inl d, .inl b, aR h l, aR h r]]
def szP : au → Nat
 | .cut _ => 1062
 | .bare => 128
 | .leaf _ _ => 312
 | .fork _ _ l r => 252 + szP l + szP r
def aO (h : List Key → Key) : au → List Key
 | .cut _ => []
 | .bare => [.inr "bare"]
 | .leaf k z => [.inr "leaf", .inl k, .inr z]
 | .fork d b l r => [.inr "fork", .inl d, .inl b, aR h l, aR h r]
def vj (p : au) (ts : List (List Key)) : Prop := ∀ t, ts.getLast? = some t → szT t + 62 ≤ szP p
def aC : au → List (Int × Str)
 | .leaf k z => [(k, z)]
 | .fork _ _ l r => aC l ++ aC r
 | _ => []
structure dS (b lo hi : Int) : Prop where
 b1 : 1 ≤ b
 b60 : b ≤ 60
 lo0 : 0 ≤ lo
 le : lo ≤ hi
 hi1 : hi < 2 ^ b.toNat
structure eI (H : Hp) (v : V) (b lo hi d g : Int) (p : au) : Prop where
 w : aP H v (aV p)
 ok : aM b lo hi d g p
 d0 : 0 ≤ d
 d1 : d ≤ b
 g0 : 0 ≤ g
 g1 : g < 2 ^ d.toNat
def pL (x : Int × Str) : List Key := [.inl x.1, .inr x.2]
abbrev PR (H : Hp) : List Addr → List (Int × Str) → Prop := Paired (fun (p : Addr) (x : Int × Str) => H p = some (.tup ((pL x).map kV)))
def inI (lo hi : Int) (x : Int × Str) : Bool := decide (lo ≤ x.1) && decide (x.1 ≤ hi)
def oB (K : W.Frag) (A : Adr) : Sp := fun vs H Q _ => ∃ c d g : Int, vs = [.int c, .int d, .int g] ∧ ∀ n : Int, 0 ≤ n → n < 999983 → Q (.int n) H
def qE (K : W.Frag) (A : Adr) : Sp := fun vs H Q _ => ∃ b lo hi d g : Int, vs = [.int b, .int lo, .int hi, .int d, .int g] ∧ dS b lo hi ∧ 0 ≤ d ∧ d ≤ b ∧ 0 ≤ g ∧ g < 2 ^ d.toNat ∧ Q (.bl (bf b lo hi d g)) H
def qi (K : W.Frag) (A : Adr) : Sp := fun vs H Q _ => ∃ b n g m lo hi f : Int, vs = [.int n, .int g, .int m, .int lo, .int hi, .int f] ∧ dS b lo hi ∧ 0 ≤ n ∧ n < 999983 ∧ 0 ≤ g ∧ 0 ≤ m ∧ m < f ∧ f ≤ b ∧ g < 2 ^ (b - f).toNat ∧ ∀ x : Int, 0 ≤ x → x < 2 ^ (b - f + m).toNat → x / 2 ^ m.toNat = g → Q (.int x) H
def fL (K : W.Frag) (A : Adr) (n : Nat) : Sp := fun vs H Q _ => ∃ c b lo hi d g y : Int, vs = [.int c, .int b, .int lo, .int hi, .int d, .int g, .int y] ∧ dS b lo hi ∧ 0 ≤ d ∧ d ≤ b ∧ 0 ≤ g ∧ g < 2 ^ d.toNat ∧ 0 ≤ y ∧ y ≤ 60 ∧ b - d < n ∧
 ∀ (v : V) (p : au) (H' : Hp), ay H H' → eI H' v b lo hi d g p → forks p ≤ 2 ^ y.toNat - 1 → (lo = hi → (forks p : Int) ≤ b - d) → (aU p : Int) ≤ b - d → Q v H'
structure eM (H : Hp) (v : V) (b lo hi : Int) (p : au) : Prop where
 e : dS b lo hi
 w : eI H v b lo hi 0 0 p
 f : forks p ≤ 70
 t : aU p ≤ 60
def pe (K : W.Frag) (A : Adr) : Sp := fun vs H Q _ => ∃ b d g : Int, vs = [.int b, .int d, .int g] ∧ 0 ≤ d ∧ d ≤ b ∧ b ≤ 60 ∧ 0 ≤ g ∧ g < 2 ^ d.toNat ∧ ∀ p, H p = none → Q (.ref p) (upd H p (.tup [.int (g * 2 ^ (b - d).toNat), .int ((g + 1) * 2 ^ (b - d).toNat - 1)]))
def pC (K : W.Frag) (A : Adr) : Sp := fun vs H Q _ => ∃ b lo hi d g : Int, vs = [.int b, .int lo, .int hi, .int d, .int g] ∧ 0 ≤ d ∧ d ≤ b ∧ b ≤ 60 ∧ 0 ≤ g ∧ g < 2 ^ d.toNat ∧ ∀ H', ay H H' → Q (.bl (bf b lo hi d g)) H'
def mC (K : W.Frag) (A : Adr) : Sp := fun vs H Q _ => ∃ b lo hi : Int, vs = [.int b, .int lo, .int hi] ∧ dS b lo hi ∧ Q .non H
def pE (K : W.Frag) (A : Adr) : Sp := fun vs H Q _ => ∃ (v : V) (m : Key), vs = [v] ∧ aP H v (aV (.cut m)) ∧ mx m ∧ Q (.bl true) H
def oH (K : W.Frag) (A : Adr) : Sp := fun vs H Q _ => ∃ (b lo hi d g : Int) (v : V) (p : au), vs = [.int b, .int lo, .int hi, .int d, .int g, v] ∧ dS b lo hi ∧ eI H v b lo hi d g p ∧ aU p ≤ 60 ∧ ∀ H', ay H H' → Q (.bl true) H'
def iL (K : W.Frag) (A : Adr) (n : Nat) : Sp := fun vs H Q _ => ∃ (b lo hi d g : Int) (v : V) (p : au), vs = [.int b, .int lo, .int hi, .int d, .int g, v] ∧ dS b lo hi ∧ eI H v b lo hi d g p ∧ aU p ≤ 60 ∧ aU p < n ∧ ∀ H', ay H H' → Q .non H'
def pB (K : W.Frag) (A : Adr) : Sp := fun vs H Q _ => ∃ (b lo hi : Int) (v : V) (p : au), vs = [.int b, .int lo, .int hi, v] ∧ eM H v b lo hi p ∧ ∀ H', ay H H' → Q .non H'
structure dB (H : Hp) (v : V) (p : au) : Prop where
 w : aP H v (aV p)
 ok : ∃ b lo hi d g : Int, dS b lo hi ∧ 0 ≤ d ∧ d ≤ b ∧ aM b lo hi d g p
 f : forks p ≤ 70
def ny (H : Hp) (L : Addr) : Prop := ∀ M xs, H M = some (.lst xs) → M ≠ L
def gz (K : W.Frag) (A : Adr) (j : Nat) : Sp := fun vs H Q _ => ∃ (f : Addr) (v : V) (p : au) (g : SG) (n : Nat), vs = [.ref f, v] ∧ dB H v p ∧ aU p < j ∧ Stp A H f g n ∧ n + 2 * forks p ≤ 42000 ∧
 ∀ (L : Addr) (ps : List Addr) (ts : List (List Key)) (g' : SG) (H' : Hp), aE H H' → Stp A H' f g' (n + 2 * forks p) → Sub g g' → ny H L → H' L = some (.lst (ps.map V.ref)) → PK H' ps ts → (∀ h, Ext g' h → ts = aJ h p) → vj p ts → Q (.ref L) H'
def jx (K : W.Frag) (A : Adr) : Sp := fun vs H Q _ => ∃ (f L : Addr) (v : V) (p : au) (ps : List Addr) (ts : List (List Key)) (g : SG) (n : Nat), vs = [.ref f, v, .ref L] ∧ dB H v p ∧ Stp A H f g n ∧ n ≤ 44000 ∧ H L = some (.lst (ps.map V.ref)) ∧ PK H ps ts ∧ (∀ h, Ext g h → ts = aJ h p) ∧ vj p ts ∧
 ∀ (x : Key) (g' : SG) (H' : Hp), aE H H' → Stp A H' f g' (n + 1) → Sub g g' → (∀ h, Ext g' h → x = aR h p) → okP x = true → szK x ≤ szP p → Q (kV x) H'
def kO (K : W.Frag) (A : Adr) : Sp := fun vs H Q _ => ∃ (f : Addr) (b lo hi : Int) (v : V) (p : au) (g : SG) (n : Nat), vs = [.ref f, .int b, .int lo, .int hi, v] ∧ eM H v b lo hi p ∧ Stp A H f g n ∧ n ≤ 40000 ∧
 ∀ (L : Addr) (ps : List Addr) (ts : List (List Key)) (g' : SG) (H' : Hp), aE H H' → Stp A H' f g' (n + 200) → Sub g g' → ny H L → H' L = some (.lst (ps.map V.ref)) → PK H' ps ts → (∀ h, Ext g' h → ts = aJ h p) → Q (.ref L) H'
def pG (K : W.Frag) (A : Adr) : Sp := fun vs H Q _ => ∃ (L : Addr) (lo hi : Int) (ps : List Addr) (h : List Key → Key) (p : au), vs = [.int lo, .int hi, .ref L] ∧ H L = some (.lst (ps.map V.ref)) ∧ PK H ps (aJ h p) ∧ (aJ h p).length ≤ 1000 ∧
 ∀ (M : Addr) (rs : List Addr) (H' : Hp), ay H H' → H M = none → H' M = some (.lst (rs.map V.ref)) → PR H' rs ((aC p).filter (inI lo hi)) → Q (.ref M) H'
def oE (K : W.Frag) (A : Adr) : Sp := fun vs H Q _ => ∃ (f : Addr) (b lo hi : Int) (v : V) (p : au) (g : SG) (n : Nat), vs = [.ref f, .int b, .int lo, .int hi, v] ∧ eM H v b lo hi p ∧ Stp A H f g n ∧ n ≤ 40000 ∧
 ∀ (x : Key) (g' : SG) (H' : Hp), aE H H' → Stp A H' f g' (n + 201) → Sub g g' → (∀ h, Ext g' h → x = aR h p) → Q (kV x) H'
def oO (K : W.Frag) (A : Adr) : Sp := fun vs H Q _ => ∃ (f : Addr) (b lo hi : Int) (v : V) (p : au) (g : SG) (n : Nat) (x : Key), vs = [.ref f, .int b, kV x, .int lo, .int hi, v] ∧ eM H v b lo hi p ∧ Stp A H f g n ∧ n ≤ 40000 ∧ (∀ h, Ext g h → x = aR h p) ∧
 ∀ (M : Addr) (rs : List Addr) (g' : SG) (H' : Hp), aE H H' → Stp A H' f g' (n + 201) → Sub g g' → ny H M → H' M = some (.lst (rs.map V.ref)) → PR H' rs ((aC p).filter (inI lo hi)) → Q (.ref M) H'
def dh (K : W.Frag) (A : Adr) (j : Nat) : Sp := fun vs H Q _ => ∃ (f : Addr) (v : V) (p : au) (g : SG) (n : Nat), vs = [.ref f, v] ∧ dB H v p ∧ aU p < j ∧ Stp A H f g n ∧ n + bK p ≤ 42000 ∧
 ∀ (t L : Addr) (x : Key) (ps : List Addr) (ts : List (List Key)) (g' : SG) (H' : Hp), aE H H' → Stp A H' f g' (n + bK p) → Sub g g' → ny H L → H' t = some (.tup [kV x, .ref L]) → H' L = some (.lst (ps.map V.ref)) → PK H' ps ts → (∀ h, Ext g' h → ts = aJ h p ∧ x = aR h p) → okP x = true → szK x ≤ 1062 → Q (.ref t) H'
def gx (K : W.Frag) (A : Adr) (j : Nat) : Sp := fun vs H Q _ => ∃ (v : V) (p : au), vs = [v] ∧ aP H v (aV p) ∧ aU p < j ∧ forks p ≤ 70 ∧
 ∀ (M : Addr) (rs : List Addr) (H' : Hp), ay H H' → H M = none → H' M = some (.lst (rs.map V.ref)) → PR H' rs (aC p) → Q (.ref M) H'
def sr (K : W.Frag) (A : Adr) : Sp := fun vs H Q _ => ∃ (v : V) (p : au) (lo hi : Int), vs = [v, .int lo, .int hi] ∧ aP H v (aV p) ∧ aU p ≤ 60 ∧ forks p ≤ 70 ∧
 ∀ (M : Addr) (rs : List Addr) (H' : Hp), ay H H' → H M = none → H' M = some (.lst (rs.map V.ref)) → PR H' rs ((aC p).filter (inI lo hi)) → Q (.ref M) H'
abbrev PT (H : Hp) : List Addr → List (List Key) → Prop := Paired (fun (p : Addr) (k : List Key) => H p = some (.tup (k.map kV)) ∧ k.length ≤ 8)
def oY (K : W.Frag) (A : Adr) : Sp := fun vs H Q _ => ∃ (L M : Addr) (ps rs : List Addr) (ts : List (List Key)), vs = [.ref L, .ref M] ∧ H L = some (.lst (ps.map V.ref)) ∧ H M = some (.lst (rs.map V.ref)) ∧ PT H ps ts ∧ PT H rs ts ∧ ts.length ≤ 1000 ∧ Q (.bl true) H
def bC (b k : Int) : au → List (Int × au) × au
 | .fork e x l r => if aw b k e = x then (if k / 2 ^ (b - e - 1).toNat % 2 = 0 then ((e, r) :: (bC b k l).1, (bC b k l).2) else ((e, l) :: (bC b k r).1, (bC b k r).2)) else ([], .fork e x l r)
 | p => ([], p)
def bp (h : List Key → Key) (b k : Int) (p : au) : List (Int × Key) := (bC b k p).1.map fun s => (s.1, aR h s.2)
def cu (h : List Key → Key) (b k : Int) (p : au) : List Key := aO h (bC b k p).2
def jb (H : Hp) (v : V) (st : List (Int × Key)) (e : List Key) : Prop := aP H v (.tup [.tup (st.map stD), .tup (e.map bc)])
def uK (K : W.Frag) (A : Adr) (vs : List V) (H : Hp) (Q : VK) (f : Addr) (b lo hi k : Int) (v : V) : Prop := ∃ (p : au) (g : SG) (n : Nat), eM H v b lo hi p ∧ lo ≤ k ∧ k ≤ hi ∧ Stp A H f g n ∧ n ≤ 34000 ∧
 ∀ (y : V) (st : List (Int × Key)) (e : List Key) (g' : SG) (H' : Hp), aE H H' → Stp A H' f g' (n + 400) → Sub g g' → jb H' y st e → (∀ h, Ext g' h → st = bp h b k p ∧ e = cu h b k p) → Q y H'
def oU (K : W.Frag) (A : Adr) : Sp := fun vs H Q _ => ∃ (f : Addr) (b lo hi k : Int) (v : V), vs = [.ref f, .int b, .int lo, .int hi, v, .int k] ∧ uK K A vs H Q f b lo hi k v
def oJ (K : W.Frag) (A : Adr) : Sp := fun vs H Q _ => ∃ (f : Addr) (b lo hi k : Int) (v : V), vs = [.ref f, .int b, v, .int k] ∧ uK K A vs H Q f b lo hi k v
inductive Way : au → Int → Int → List Int → au → Int → Int → Prop
 | nil (p : au) (d g : Int) : Way p d g [] p d g
 | left {e x D G d g : Int} {l r q : au} {w : List Int} (h : Way l (e + 1) (2 * x) w q d g) : Way (.fork e x l r) D G (3 :: w) q d g
 | right {e x D G d g : Int} {l r q : au} {w : List Int} (h : Way r (e + 1) (2 * x + 1) w q d g) : Way (.fork e x l r) D G (4 :: w) q d g
def bn : au → List Int → au → au
 | _, [], q => q
 | .fork e x l r, i :: w, q => if i = 3 then .fork e x (bn l w q) r else .fork e x l (bn r w q)
 | p, _ :: _, _ => p
def dM (H : Hp) (p : au) (d g : Int) (w : List Int) (r : Addr) : Prop := ∃ (d' g' : Int) (u : List Int) (q : au) (P : Addr), H r = some (.tup [.int d', .int g', .ref P]) ∧ H P = some (.tup ((w ++ u).map V.int)) ∧ Way p d g u q d' g'
def iP (K : W.Frag) (A : Adr) (n : Nat) : Sp := fun vs H Q _ => ∃ (v : V) (p : au) (d g : Int) (P : Addr) (w : List Int), vs = [v, .int d, .int g, .ref P] ∧ aP H v (aV p) ∧ aU p < n ∧ H P = some (.tup (w.map V.int)) ∧ w.length + aU p ≤ 100 ∧ forks p ≤ 70 ∧
 ∀ (M r : Addr) (rs : List Addr) (H' : Hp), ay H H' → H M = none → H' M = some (.lst ((r :: rs).map V.ref)) → rs.length = 2 * forks p → H' r = some (.tup [.int d, .int g, .ref P]) → (∀ r' ∈ r :: rs, dM H' p d g w r') → Q (.ref M) H'
def lN (K : W.Frag) (A : Adr) : Sp := fun vs H Q _ => ∃ (v : V) (p q : au) (D G d g : Int) (P : Addr) (w : List Int), vs = [v, .ref P] ∧ aP H v (aV p) ∧ H P = some (.tup (w.map V.int)) ∧ Way p D G w q d g ∧ ∀ u : V, aP H u (aV q) → Q u H
def gY (K : W.Frag) (A : Adr) (n : Nat) : Sp := fun vs H Q _ => ∃ (v u : V) (p q q' : au) (D G d g : Int) (P : Addr) (w : List Int), vs = [v, .ref P, u] ∧ aP H v (aV p) ∧ H P = some (.tup (w.map V.int)) ∧ Way p D G w q d g ∧ aP H u (aV q') ∧ w.length < n ∧ w.length ≤ 100 ∧ ∀ (y : V) (H' : Hp), ay H H' → aP H' y (aV (bn p w q')) → Q y H'
def bx (H H' : Hp) : Prop := ∀ x o, H x = some o → (∀ ps, o ≠ .tbl ps) → (∀ kvs, o ≠ .dT kvs) → H' x = some o
def cF (h : List Key → Key) (b lo hi : Int) : Int → Int → au → au
 | d, g, .fork e x l r => if bf b lo hi d g = true then .fork e x (cF h b lo hi (e + 1) (2 * x) l) (cF h b lo hi (e + 1) (2 * x + 1) r) else .cut (aR h (.fork e x l r))
 | d, g, p => if bf b lo hi d g = true then p else .cut (aR h p)
structure jv (H : Hp) (v : V) (b : Int) (p : au) : Prop where
 b1 : 1 ≤ b
 b60 : b ≤ 60
 w : aP H v (aV p)
 ok : aM b 0 (2 ^ b.toNat - 1) 0 0 p
 f : forks p ≤ 60
def lw (K : W.Frag) (A : Adr) (n : Nat) : Sp := fun vs H Q _ => ∃ (f t : Addr) (b lo hi d g : Int) (v : V) (p : au) (s : SG) (m : Nat), vs = [.ref f, .int b, .ref t, .int d, .int g, v] ∧ H t = some (.tup [.int lo, .int hi]) ∧ dS b lo hi ∧ eI H v b 0 (2 ^ b.toNat - 1) d g p ∧ aU p < n ∧ forks p ≤ 60 ∧ Stp A H f s m ∧ m + bK p ≤ 40000 ∧
 ∀ (y : V) (c : au) (s' : SG) (H' : Hp), aE H H' → Stp A H' f s' (m + bK p) → Sub s s' → aP H' y (aV c) → (∀ h, Ext s' h → c = cF h b lo hi d g p) → aM b lo hi d g c → Q y H'
def bE (k : Int) : List (Int × Str) → V
 | [] => .non
 | x :: r => if x.1 = k then .str x.2 else bE k r
def iJ (K : W.Frag) (A : Adr) : Sp := fun vs H Q _ => ∃ (v : V) (k : Int) (p : au), vs = [v, .int k] ∧ aP H v (aV p) ∧ aU p ≤ 60 ∧ forks p ≤ 70 ∧ ∀ H', ay H H' → Q (bE k (aC p)) H'
def dU (h : List Key → Key) (b k : Int) (p : au) : List (List Key) := cQ h b k (cu h b k p) (bp h b k p).reverse
def jB (K : W.Frag) (A : Adr) : Sp := fun vs H Q _ => ∃ (f t : Addr) (b lo hi k : Int) (v : V) (p : au) (x : Key) (s : SG) (n : Nat), vs = [.ref f, .int b, kV x, .ref t, .int k, v] ∧ H t = some (.tup [.int lo, .int hi]) ∧ dS b lo hi ∧ lo ≤ k ∧ k ≤ hi ∧ jv H v b p ∧ Stp A H f s n ∧ n ≤ 20000 ∧ (∀ (s1 : SG) (H1 : Hp) (n1 : Nat), Stp A H1 f s1 n1 → Sub s s1 → ∃ h, Ext s1 h ∧ x = aR h p) ∧
 ∀ (L T1 T2 : Addr) (ps1 ps2 : List Addr) (ts1 ts2 : List (List Key)) (s' : SG) (H' : Hp), aE H H' → Stp A H' f s' (n + 3000) → Sub s s' → H' L = some (.lst [.ref T1, .ref T2]) → H' T1 = some (.lst (ps1.map V.ref)) → PK H' ps1 ts1 → H' T2 = some (.lst (ps2.map V.ref)) → PK H' ps2 ts2 → (∀ h, Ext s' h → ts1 = aJ h (cF h b lo hi 0 0 p) ∧ ts2 = dU h b k p) → Q (.ref L) H'
def qd (K : W.Frag) (A : Adr) : Sp := fun vs H Q _ => ∃ (v : V) (p1 p2 : Addr) (k1 k2 : List Key), vs = [v, .ref p1, .ref p2] ∧ pP H (some (k1, k2)) v ∧ H p1 = some (.tup (k1.map kV)) ∧ H p2 = some (.tup (k2.map kV)) ∧ Q (.bl true) H
def hZ (K : W.Frag) (A : Adr) : Sp := fun vs H Q _ => ∃ b k c : Int, vs = [.int b, .int k, .int c] ∧ 1 ≤ b ∧ b ≤ 60 ∧ 0 ≤ k ∧ k < 2 ^ b.toNat ∧ ∀ (p : Addr) (lo hi : Int) (H' : Hp), ay H H' → H' p = some (.tup [.int lo, .int hi]) → dS b lo hi → lo ≤ k → k ≤ hi → Q (.ref p) H'
def im (H : Hp) (b k : Int) (t : Addr) (lo hi : Int) : Prop := H t = some (.tup [.int lo, .int hi]) ∧ dS b lo hi ∧ lo ≤ k ∧ k ≤ hi
def kx (K : W.Frag) (A : Adr) : Sp := fun vs H Q _ => ∃ (P E1 ta tb : Addr) (b k d g m lo hi lo' hi' : Int) (v y z : V) (p q r : au) (w : List Int), vs = [.int b, v, .ref P, y, z, .int k, .ref E1, .int m] ∧ jv H v b p ∧ forks p ≤ 40 ∧ 0 ≤ k ∧ k < 2 ^ b.toNat ∧ H P = some (.tup (w.map V.int)) ∧ Way p 0 0 w q d g ∧ aP H y (aV q) ∧ aP H z (aV r) ∧ aM b 0 (2 ^ b.toNat - 1) d g r ∧ forks r ≤ 7 ∧ H E1 = some (.lst [.ref ta, .ref tb]) ∧ im H b k ta lo hi ∧ im H b k tb lo' hi' ∧ fD A H ∧ fS A H ∧ A.t_23 ≠ A.t_15 ∧
 ∀ H', bx H H' → fD A H' → fS A H' → Q (.bl true) H'
def oA (K : W.Frag) (A : Adr) : Sp := fun vs H Q _ => ∃ (a : Addr) (ns : List Int), vs = [.ref a] ∧ SqL K H a (ns.map V.int) ∧ ns.length ≤ 63 ∧ Ew A H ∧ ∀ H', Q (.bl true) H'
end Rs
namespace Rs
open PySem PySem.Spec PyProof.Rows L2
def eT (K : W.Frag) (A : Adr) : L2.jA := [(dE, lO K A), (fM, sF K A)]
def lT (K : W.Frag) (A : Adr) : L2.jA := [(dE, lO K A)]
def Ci (K : W.Frag) (A : Adr) : TS := aA (tBM K "dict" ni (ab 1) (aa (ab 0) (aa (tOp (aS K) (tOp (bG) (tC (.int 3)) (tCB (cn K) (aa (ab 1) (af)))) (ab 2)) (af))))
def BU (K : W.Frag) (A : Adr) : TS := ao (aT (aG (tOp (be K) (ab 0) (ab 2))) (aA (fQ (lT K A) (fun _ => E0) (ab 1) (aa (ab 3) (af)))) (aI)) (aA (fQ (lT K A) (fun _ => E0) (ab 1) (aa (ab 0) (af))))
def T_2 (K : W.Frag) (A : Adr) : TS := aA (tOp (aS K) (tC (.int 1)) (tOp (ba) (tOp (bJ) (ab 0) (tC (.int 3))) (tOp (aq K) (cp (aa (tC (.int 60)) (aa (tC (.int 8)) (aa (tC (.int 60)) (af))))) (tOp (ba) (ab 0) (tC (.int 3))))))
def T_0 (K : W.Frag) (A : Adr) : TS := ao (aT (aG (tOp (mLt) (ab 1) (tCB (cn K) (aa (ab 0) (af))))) (aA (tOp (aq K) (ab 0) (ab 1))) (aI)) (ao (aB (tOp (aS K) (tC (.int 17)) (tCB (cn K) (aa (ab 0) (af)))) (ar 2)) (ao (eU (eX K (tSl (lB K) (ab 0) (ij) (gN (tC (.int 5))))) (ar 3) (aB (tOp (ba) (tOp (aS K) (tOp (bG) (ab 2) (tC (.int 31))) (ab 3)) (tC (.int 1000003))) (ar 2))) (ao (aB (tOp (ba) (tOp (aS K) (ab 2) (tOp (bG) (tC (.int 7919)) (ab 1))) (tC (.int 1000003))) (ar 2)) (aA (tOp (ba) (tOp (bG) (ab 2) (ab 2)) (tC (.int 2147483629)))))))
def GY (K : W.Frag) (A : Adr) : TS := aA (tOp (ba) (tOp (bG) (tOp (ba) (tOp (aS K) (tOp (bG) (tOp (aS K) (ab 0) (tC (.int 1))) (tC (.int 69621))) (tOp (bG) (tOp (aS K) (tOp (aS K) (tOp (bG) (ab 2) (tC (.int 31))) (ab 1)) (tC (.int 7))) (tC (.int 48271)))) (tC (.int 1000003))) (tC (.int 7919))) (tC (.int 999983)))
def T_9 (K : W.Frag) (A : Adr) : TS := ao (aB (tOp (dI) (tC (.int 1)) (tOp (cB) (ab 0) (ab 3))) (ar 5)) (aA (dg (tOp (mLe) (tOp (bG) (ab 4) (ab 5)) (ab 2)) (tOp (mLt) (ab 1) (tOp (bG) (tOp (aS K) (ab 4) (tC (.int 1))) (ab 5)))))
def T_8 (K : W.Frag) (A : Adr) : TS := ao (aB (tOp (ba) (tOp (bG) (ab 0) (tC (.int 69621))) (tC (.int 1000003))) (ar 0)) (ao (aT (aG (tOp (be K) (tOp (ba) (ab 0) (tC (.int 4))) (tC (.int 0)))) (aA (tOp (aS K) (tC (.str "m")) (tCB (xp) (aa (tOp (ba) (ab 0) (tC (.int 50))) (af))))) (aI)) (ao (aT (aG (tOp (be K) (tOp (ba) (ab 0) (tC (.int 4))) (tC (.int 1)))) (aA (tOp (ba) (tOp (bJ) (ab 0) (tC (.int 4))) (tC (.int 12)))) (aI)) (ao (aT (aG (tOp (be K) (tOp (ba) (ab 0) (tC (.int 4))) (tC (.int 2)))) (aA (tOp (bG) (ab 0) (tOp (qt) (tC (.int 10)) (tC (.int 30))))) (aI)) (aA (tOp (cB) (tOp (cB) (tOp (qt) (tC (.int 10)) (tC (.int 60))) (tC (.int 1))) (ab 0))))))
def Ai (K : W.Frag) (A : Adr) : TS := aA (ab 3)
def Bk (K : W.Frag) (A : Adr) : TS := ao (eU (iE (aa (ab 2) (af))) (ar 4) (aB (tOp (aS K) (ab 3) (tOp (aq K) (ab 1) (tOp (ba) (tOp (aS K) (tOp (bJ) (ab 0) (tC (.int 4))) (tOp (bG) (ab 4) (tOp (ba) (tOp (bJ) (ab 0) (tC (.int 128))) (tC (.int 5))))) (tCB (cn K) (aa (ab 1) (af)))))) (ar 3))) (Ai K A)
def tY (K : W.Frag) (A : Adr) : TS := ao (aB (tC (.str "")) (ar 3)) (Bk K A)
def BB (K : W.Frag) (A : Adr) : TS := ao (aT (aG (tOp (be K) (tOp (ba) (tOp (bJ) (ab 0) (tC (.int 4))) (tC (.int 8))) (tC (.int 2)))) (aB (tOp (ba) (tOp (bJ) (ab 0) (tC (.int 32))) (tC (.int 61))) (ar 2)) (aI)) (tY K A)
def HM (K : W.Frag) (A : Adr) : TS := ao (aB (tC (.str " !\"#$&'()*+,-./0123456789:;<=>?@ABCDEFGHIJKLMNOPQRSTUVWXYZ[\\]^_`")) (ar 1)) (ao (aB (tOp (aS K) (ab 1) (tC (.str "abcdefghijklmnopqrstuvwxyz{|}~"))) (ar 1)) (ao (aB (tOp (ba) (ab 0) (tC (.int 4))) (ar 2)) (ao (aT (aG (tOp (be K) (tOp (ba) (tOp (bJ) (ab 0) (tC (.int 4))) (tC (.int 8))) (tC (.int 1)))) (aB (tC (.int 60)) (ar 2)) (aI)) (ao (aT (aG (tOp (be K) (tOp (ba) (tOp (bJ) (ab 0) (tC (.int 4))) (tC (.int 8))) (tC (.int 2)))) (aB (tOp (ba) (tOp (bJ) (ab 0) (tC (.int 32))) (tC (.int 61))) (ar 2)) (aI)) (ao (aB (tC (.str "")) (ar 3)) (ao (eU (iE (aa (ab 2) (af))) (ar 4) (aB (tOp (aS K) (ab 3) (tOp (aq K) (ab 1) (tOp (ba) (tOp (aS K) (tOp (bJ) (ab 0) (tC (.int 4))) (tOp (bG) (ab 4) (tOp (ba) (tOp (bJ) (ab 0) (tC (.int 128))) (tC (.int 5))))) (tCB (cn K) (aa (ab 1) (af)))))) (ar 3))) (aA (ab 3))))))))
def T_1 (K : W.Frag) (A : Adr) : TS := ao (aT (aG (tOp (be K) (tOp (ba) (ab 0) (tC (.int 5))) (tC (.int 0)))) (aA (tOp (aS K) (tOp (dI) (ab 1) (ab 2)) (tOp (ba) (tOp (bG) (ab 0) (tC (.int 48271))) (tOp (dI) (tC (.int 1)) (ab 2))))) (aI)) (ao (aB (tOp (gS) (tOp (aS K) (ab 3) (tOp (ba) (ab 0) (tOp (aS K) (tOp (cB) (ab 4) (ab 3)) (tC (.int 1))))) (tOp (cB) (ab 5) (ab 2))) (ar 6)) (ao (aT (aG (tOp (cP K) (tOp (gS) (ab 6) (ab 2)) (ab 1))) (aA (tOp (dI) (ab 1) (ab 2))) (aI)) (aA (ab 6))))
def Dp (K : W.Frag) (A : Adr) (n : Nat) : TS := aA (bH (aa (tC (.str "fork")) (aa (tOp (aS K) (ab 4) (ab 10)) (aa (ab 11) (aa (ab 12) (aa (ab 13) (af)))))))
def CW (K : W.Frag) (A : Adr) (n : Nat) : TS := ao (aB (ai (fL K A n) (fun _ => E0) (aa (ab 0) (aa (ab 1) (aa (ab 2) (aa (ab 3) (aa (tOp (aS K) (tOp (aS K) (ab 4) (ab 10)) (tC (.int 1))) (aa (tOp (aS K) (tOp (bG) (tC (.int 2)) (ab 11)) (tC (.int 1))) (aa (tOp (cB) (ab 6) (tC (.int 1))) (af))))))))) (ar 13)) (Dp K A n)
def AM (K : W.Frag) (A : Adr) (n : Nat) : TS := ao (aB (ai (fL K A n) (fun _ => E0) (aa (ab 0) (aa (ab 1) (aa (ab 2) (aa (ab 3) (aa (tOp (aS K) (tOp (aS K) (ab 4) (ab 10)) (tC (.int 1))) (aa (tOp (bG) (tC (.int 2)) (ab 11)) (aa (tOp (cB) (ab 6) (tC (.int 1))) (af))))))))) (ar 12)) (CW K A n)
def uq (K : W.Frag) (A : Adr) (n : Nat) : TS := ao (aB (ai (qi K A) (fun _ => E0) (aa (ab 7) (aa (ab 5) (aa (ab 10) (aa (ab 2) (aa (ab 3) (aa (ab 8) (af)))))))) (ar 11)) (AM K A n)
def qz (K : W.Frag) (A : Adr) (n : Nat) : TS := ao (aB (tOp (aq K) (cp (aa (tC (.int 0)) (aa (tOp (ba) (tOp (bJ) (ab 7) (tC (.int 7))) (ab 8)) (aa (tC (.int 0)) (aa (tOp (ba) (tOp (bJ) (ab 7) (tC (.int 7))) (tCB (mL) (aa (ab 8) (aa (tC (.int 3)) (af))))) (af)))))) (tOp (ba) (ab 7) (tC (.int 4)))) (ar 10)) (uq K A n)
def Bx (K : W.Frag) (A : Adr) (n : Nat) : TS := ao (aT (mOr (aG (tOp (mLt) (ab 6) (tC (.int 1)))) (mOr (aG (tOp (be K) (ab 8) (tC (.int 0)))) (gE (aG (tOp (be K) (tOp (ba) (ab 7) (tC (.int 7))) (tC (.int 0)))) (aG (tOp (mLt) (ab 6) (tC (.int 30))))))) (ao (aB (tOp (aS K) (tOp (bG) (ab 5) (tOp (dI) (tC (.int 1)) (ab 8))) (tOp (ba) (tOp (bG) (tOp (bJ) (ab 7) (tC (.int 7))) (tC (.int 982451653))) (tOp (dI) (tC (.int 1)) (ab 8)))) (ar 9)) (ao (aT (gE (aG (tOp (be K) (tOp (ba) (ab 7) (tC (.int 3))) (tC (.int 0)))) (aG (tOp (be K) (tOp (gS) (ab 2) (ab 8)) (ab 5)))) (aB (ab 2) (ar 9)) (aI)) (aA (bH (aa (tC (.str "leaf")) (aa (ab 9) (aa (ai (jG K A) (fun _ => E0) (aa (tOp (bJ) (ab 7) (tC (.int 3))) (af))) (af)))))))) (aI)) (qz K A n)
def Ac (K : W.Frag) (A : Adr) (n : Nat) : TS := ao (aB (tOp (cB) (ab 1) (ab 4)) (ar 8)) (Bx K A n)
def HV (K : W.Frag) (A : Adr) (n : Nat) : TS := ao (aB (ai (oB K A) (fun _ => E0) (aa (ab 0) (aa (ab 4) (aa (ab 5) (af))))) (ar 7)) (ao (aT (bT (bS K (ai (qE K A) (fun _ => E0) (aa (ab 1) (aa (ab 2) (aa (ab 3) (aa (ab 4) (aa (ab 5) (af))))))))) (aA (bH (aa (tC (.str "cut")) (aa (ai (sv K A) (fun _ => E0) (aa (ab 7) (af))) (af))))) (aI)) (ao (aT (gE (aG (tOp (be K) (ab 4) (tC (.int 0)))) (aG (tOp (be K) (tOp (ba) (ab 7) (tC (.int 11))) (tC (.int 0))))) (aA (bH (aa (tC (.str "bare")) (af)))) (aI)) (ao (aB (tOp (cB) (ab 1) (ab 4)) (ar 8)) (ao (aT (mOr (aG (tOp (mLt) (ab 6) (tC (.int 1)))) (mOr (aG (tOp (be K) (ab 8) (tC (.int 0)))) (gE (aG (tOp (be K) (tOp (ba) (ab 7) (tC (.int 7))) (tC (.int 0)))) (aG (tOp (mLt) (ab 6) (tC (.int 30))))))) (ao (aB (tOp (aS K) (tOp (bG) (ab 5) (tOp (dI) (tC (.int 1)) (ab 8))) (tOp (ba) (tOp (bG) (tOp (bJ) (ab 7) (tC (.int 7))) (tC (.int 982451653))) (tOp (dI) (tC (.int 1)) (ab 8)))) (ar 9)) (ao (aT (gE (aG (tOp (be K) (tOp (ba) (ab 7) (tC (.int 3))) (tC (.int 0)))) (aG (tOp (be K) (tOp (gS) (ab 2) (ab 8)) (ab 5)))) (aB (ab 2) (ar 9)) (aI)) (aA (bH (aa (tC (.str "leaf")) (aa (ab 9) (aa (ai (jG K A) (fun _ => E0) (aa (tOp (bJ) (ab 7) (tC (.int 3))) (af))) (af)))))))) (aI)) (ao (aB (tOp (aq K) (cp (aa (tC (.int 0)) (aa (tOp (ba) (tOp (bJ) (ab 7) (tC (.int 7))) (ab 8)) (aa (tC (.int 0)) (aa (tOp (ba) (tOp (bJ) (ab 7) (tC (.int 7))) (tCB (mL) (aa (ab 8) (aa (tC (.int 3)) (af))))) (af)))))) (tOp (ba) (ab 7) (tC (.int 4)))) (ar 10)) (ao (aB (ai (qi K A) (fun _ => E0) (aa (ab 7) (aa (ab 5) (aa (ab 10) (aa (ab 2) (aa (ab 3) (aa (ab 8) (af)))))))) (ar 11)) (ao (aB (ai (fL K A n) (fun _ => E0) (aa (ab 0) (aa (ab 1) (aa (ab 2) (aa (ab 3) (aa (tOp (aS K) (tOp (aS K) (ab 4) (ab 10)) (tC (.int 1))) (aa (tOp (bG) (tC (.int 2)) (ab 11)) (aa (tOp (cB) (ab 6) (tC (.int 1))) (af))))))))) (ar 12)) (ao (aB (ai (fL K A n) (fun _ => E0) (aa (ab 0) (aa (ab 1) (aa (ab 2) (aa (ab 3) (aa (tOp (aS K) (tOp (aS K) (ab 4) (ab 10)) (tC (.int 1))) (aa (tOp (aS K) (tOp (bG) (tC (.int 2)) (ab 11)) (tC (.int 1))) (aa (tOp (cB) (ab 6) (tC (.int 1))) (af))))))))) (ar 13)) (aA (bH (aa (tC (.str "fork")) (aa (tOp (aS K) (ab 4) (ab 10)) (aa (ab 11) (aa (ab 12) (aa (ab 13) (af))))))))))))))))
def Hs (K : W.Frag) (A : Adr) (n : Nat) : TS := ao (aB (cp (aa (bH (aa (ab 1) (aa (ab 2) (aa (ab 3) (af))))) (af))) (ar 4)) (ao (aT (aG (tOp (be K) (tOp (aq K) (ab 0) (tC (.int 0))) (tC (.str "fork")))) (ao (aB (tOp (aS K) (ab 4) (ai (iP K A n) (fun _ => E0) (aa (tOp (aq K) (ab 0) (tC (.int 3))) (aa (tOp (aS K) (tOp (aq K) (ab 0) (tC (.int 1))) (tC (.int 1))) (aa (tOp (bG) (tC (.int 2)) (tOp (aq K) (ab 0) (tC (.int 2)))) (aa (tOp (aS K) (ab 3) (bH (aa (tC (.int 3)) (af)))) (af))))))) (ar 4)) (aB (tOp (aS K) (ab 4) (ai (iP K A n) (fun _ => E0) (aa (tOp (aq K) (ab 0) (tC (.int 4))) (aa (tOp (aS K) (tOp (aq K) (ab 0) (tC (.int 1))) (tC (.int 1))) (aa (tOp (aS K) (tOp (bG) (tC (.int 2)) (tOp (aq K) (ab 0) (tC (.int 2)))) (tC (.int 1))) (aa (tOp (aS K) (ab 3) (bH (aa (tC (.int 4)) (af)))) (af))))))) (ar 4))) (aI)) (aA (ab 4)))
def GR (K : W.Frag) (A : Adr) : TS := ao (eU (eX K (ab 1)) (ar 2) (aB (tOp (aq K) (ab 0) (ab 2)) (ar 0))) (aA (ab 0))
def T_7 (K : W.Frag) (A : Adr) (n : Nat) : TS := ao (aT (aG (tOp (be K) (tOp (aq K) (ab 0) (tC (.int 0))) (tC (.str "leaf")))) (aA (cp (aa (bH (aa (tOp (aq K) (ab 0) (tC (.int 1))) (aa (tOp (aq K) (ab 0) (tC (.int 2))) (af)))) (af)))) (aI)) (ao (aT (aG (tOp (be K) (tOp (aq K) (ab 0) (tC (.int 0))) (tC (.str "fork")))) (aA (tOp (aS K) (ai (gx K A n) (fun _ => E0) (aa (tOp (aq K) (ab 0) (tC (.int 3))) (af))) (ai (gx K A n) (fun _ => E0) (aa (tOp (aq K) (ab 0) (tC (.int 4))) (af))))) (aI)) (aA (cp (af))))
def T_6 (K : W.Frag) (A : Adr) : TS := ao (aB (tOp (dI) (tC (.int 1)) (ab 0)) (ar 3)) (ao (aB (tOp (bJ) (ab 1) (tC (.int 5))) (ar 4)) (ao (aT (aG (tOp (be K) (tOp (ba) (ab 1) (tC (.int 5))) (tC (.int 0)))) (aA (tOp (ba) (ab 4) (ab 3))) (aI)) (ao (aT (aG (tOp (be K) (tOp (ba) (ab 1) (tC (.int 5))) (tC (.int 1)))) (aA (tOp (cB) (tOp (cB) (ab 3) (tC (.int 1))) (tOp (ba) (ab 4) (ab 3)))) (aI)) (ao (aT (gE (aG (tOp (be K) (tOp (ba) (ab 1) (tC (.int 5))) (tC (.int 2)))) (aG (tOp (cP K) (ab 2) (cp (af))))) (ao (aB (tOp (ba) (tOp (ba) (tOp (bG) (ab 4) (tC (.int 48271))) (tC (.int 65537))) (ab 0)) (ar 5)) (aA (tOp (vM) (tOp (aq K) (ab 2) (tOp (ba) (ab 4) (tCB (cn K) (aa (ab 2) (af))))) (tOp (dI) (tC (.int 1)) (ab 5))))) (aI)) (aA (tOp (ba) (tOp (bG) (ab 4) (tC (.int 1152921504606846883))) (ab 3)))))))
def uj (K : W.Frag) (A : Adr) : TS := aA (bH (aa (tCB (mL) (aa (ab 1) (aa (ab 3) (af)))) (aa (tCB (sW) (aa (ab 1) (aa (ab 3) (af)))) (af))))
def Ag (K : W.Frag) (A : Adr) : TS := ao (aT (aG (tOp (be K) (tOp (ba) (ab 2) (tC (.int 7))) (tC (.int 0)))) (aB (tC (.int 0)) (ar 3)) (aI)) (uj K A)
def GP (K : W.Frag) (A : Adr) : TS := ao (aB (ai (lh K A) (fun _ => E0) (aa (ab 0) (aa (ab 2) (aa (cp (aa (ab 1) (af))) (af))))) (ar 3)) (ao (aT (aG (tOp (be K) (tOp (ba) (ab 2) (tC (.int 3))) (tC (.int 0)))) (aB (ab 1) (ar 3)) (aI)) (ao (aT (aG (tOp (be K) (tOp (ba) (ab 2) (tC (.int 7))) (tC (.int 0)))) (aB (tC (.int 0)) (ar 3)) (aI)) (aA (bH (aa (tCB (mL) (aa (ab 1) (aa (ab 3) (af)))) (aa (tCB (sW) (aa (ab 1) (aa (ab 3) (af)))) (af)))))))
def BE (K : W.Frag) (A : Adr) (q0 q1 : Addr) : TSM := sP (oC (aB (pX) (ar 1))) (sP (oC (aB (vQ A.t_23 ⟨221, 4, 222, 81⟩ dE [q1, q0]) (ar 2))) (xA (ab 2)))
def GL (K : W.Frag) (A : Adr) (n : Nat) : TS := ao (aT (aG (tOp (be K) (tOp (aq K) (ab 1) (tC (.int 0))) (tC (.str "cut")))) (aA (bH (aa (tOp (aq K) (ab 1) (tC (.int 1))) (aa (cp (af)) (af))))) (aI)) (ao (aT (aG (tOp (cP K) (tOp (aq K) (ab 1) (tC (.int 0))) (tC (.str "fork")))) (aA (bH (aa (fQ (eT K A) (fun _ => E0) (ab 0) (aa (ab 1) (af))) (aa (cp (aa (ab 1) (af))) (af))))) (aI)) (ao (aB (ai (dh K A n) (fun _ => E0) (aa (ab 0) (aa (tOp (aq K) (ab 1) (tC (.int 3))) (af)))) (ar 2)) (ao (aB (ai (dh K A n) (fun _ => E0) (aa (ab 0) (aa (tOp (aq K) (ab 1) (tC (.int 4))) (af)))) (ar 3)) (ao (aB (bH (aa (tC (.str "fork")) (aa (tOp (aq K) (ab 1) (tC (.int 1))) (aa (tOp (aq K) (ab 1) (tC (.int 2))) (aa (tOp (aq K) (ab 2) (tC (.int 0))) (aa (tOp (aq K) (ab 3) (tC (.int 0))) (af))))))) (ar 4)) (aA (bH (aa (fQ (eT K A) (fun _ => E0) (ab 0) (aa (ab 4) (af))) (aa (tOp (aS K) (tOp (aS K) (tOp (aq K) (ab 2) (tC (.int 1))) (tOp (aq K) (ab 3) (tC (.int 1)))) (cp (aa (ab 4) (af)))) (af)))))))))
def Bc (K : W.Frag) (A : Adr) (q0 q1 q2 : Addr) : TSM := sP (oC (aB (vQ A.t_15 ⟨226, 4, 229, 39⟩ fM [q0, q2, q1]) (ar 3))) (xA (ab 3))
def Hh (K : W.Frag) (A : Adr) (n : Nat) : TS := ao (aT (aG (tOp (be K) (ab 1) (bH (af)))) (aA (ab 2)) (aI)) (ao (aB (tOp (aq K) (ab 1) (tC (.int 0))) (ar 3)) (aA (tOp (aS K) (tOp (aS K) (tSl (lB K) (ab 0) (ij) (gN (ab 3))) (bH (aa (ai (gY K A n) (fun _ => E0) (aa (tOp (aq K) (ab 0) (ab 3)) (aa (tSl (lB K) (ab 1) (gN (tC (.int 1))) (ij)) (aa (ab 2) (af))))) (af)))) (tSl (lB K) (ab 0) (gN (tOp (aS K) (ab 3) (tC (.int 1)))) (ij)))))
def T_3 (K : W.Frag) (A : Adr) (n : Nat) : TS := ao (aT (bT (bS K (ai (qE K A) (fun _ => E0) (aa (ab 1) (aa (tOp (aq K) (ab 2) (tC (.int 0))) (aa (tOp (aq K) (ab 2) (tC (.int 1))) (aa (ab 3) (aa (ab 4) (af))))))))) (aA (bH (aa (tC (.str "cut")) (aa (tOp (aq K) (ai (dh K A 70) (fun _ => E0) (aa (ab 0) (aa (ab 5) (af)))) (tC (.int 0))) (af))))) (aI)) (ao (aT (aG (tOp (cP K) (tOp (aq K) (ab 5) (tC (.int 0))) (tC (.str "fork")))) (aA (ab 5)) (aI)) (ao (aB (ai (lw K A n) (fun _ => E0) (aa (ab 0) (aa (ab 1) (aa (ab 2) (aa (tOp (aS K) (tOp (aq K) (ab 5) (tC (.int 1))) (tC (.int 1))) (aa (tOp (bG) (tC (.int 2)) (tOp (aq K) (ab 5) (tC (.int 2)))) (aa (tOp (aq K) (ab 5) (tC (.int 3))) (af)))))))) (ar 6)) (ao (aB (ai (lw K A n) (fun _ => E0) (aa (ab 0) (aa (ab 1) (aa (ab 2) (aa (tOp (aS K) (tOp (aq K) (ab 5) (tC (.int 1))) (tC (.int 1))) (aa (tOp (aS K) (tOp (bG) (tC (.int 2)) (tOp (aq K) (ab 5) (tC (.int 2)))) (tC (.int 1))) (aa (tOp (aq K) (ab 5) (tC (.int 4))) (af)))))))) (ar 7)) (aA (bH (aa (tC (.str "fork")) (aa (tOp (aq K) (ab 5) (tC (.int 1))) (aa (tOp (aq K) (ab 5) (tC (.int 2))) (aa (ab 6) (aa (ab 7) (af)))))))))))
def Hr (K : W.Frag) (A : Adr) : TS := aA (dg (tCB (dG) (aa (ab 0) (aa (tC (.ty "int")) (af)))) (pv (tCB (dG) (aa (ab 0) (aa (tC (.ty "bool")) (af))))))
def Hc (K : W.Frag) (A : Adr) : TS := aA (dg (ai (iQ K A) (fun _ => E0) (aa (ab 1) (af))) (eh (mLe) (mLt) (tC (.int 0)) (ab 1) (tOp (dI) (tC (.int 1)) (ab 0))))
def GD (K : W.Frag) (A : Adr) : TS := ao (aT (mOr (bT (bS K (ai (iK K A) (fun _ => E0) (aa (ab 0) (aa (ab 1) (af)))))) (bT (bS K (ai (iK K A) (fun _ => E0) (aa (ab 0) (aa (ab 2) (af))))))) (eS) (aI)) (aT (aG (tOp (mGt) (ab 1) (ab 2))) (eS) (aI))
def GS (K : W.Frag) (A : Adr) : TS := ao (aB (tOp (cB) (ab 0) (ab 1)) (ar 3)) (aA (bH (aa (tOp (dI) (ab 2) (ab 3)) (aa (tOp (cB) (tOp (dI) (tOp (aS K) (ab 2) (tC (.int 1))) (ab 3)) (tC (.int 1))) (af)))))
def GU (K : W.Frag) (A : Adr) : TS := ao (aB (ai (pe K A) (fun _ => E0) (aa (ab 0) (aa (ab 3) (aa (ab 4) (af))))) (ar 5)) (aA (dg (tOp (mLe) (tOp (aq K) (ab 5) (tC (.int 0))) (ab 2)) (tOp (mLe) (ab 1) (tOp (aq K) (ab 5) (tC (.int 1))))))
def GA (K : W.Frag) (A : Adr) : TS := ao (aT (bS K (ai (iQ K A) (fun _ => E0) (aa (ab 0) (af)))) (aA (eh (mLe) (mLt) (tC (.int 0)) (ab 0) (tOp (qt) (tC (.int 10)) (tC (.int 60))))) (aI)) (aA (tCB (dG) (aa (ab 0) (aa (tC (.ty "str")) (af)))))
def Hl (K : W.Frag) (A : Adr) : TS := aA (dg (tCB (dG) (aa (ab 0) (aa (tC (.ty "tuple")) (af)))) (dg (tOp (be K) (tCB (cn K) (aa (ab 0) (af))) (tC (.int 2))) (dg (tOp (be K) (tOp (aq K) (ab 0) (tC (.int 0))) (tC (.str "cut"))) (ai (jm K A) (fun _ => E0) (aa (tOp (aq K) (ab 0) (tC (.int 1))) (af))))))
def GZ (K : W.Frag) (A : Adr) : TS := aA (dg (tCB (dG) (aa (ab 0) (aa (tC (.ty "str")) (af)))) (tOp (mLe) (tCB (cn K) (aa (ab 0) (af))) (tC (.int 60))))
def HQ (K : W.Frag) (A : Adr) : TS := aA (tOp (gS) (ab 1) (tOp (cB) (ab 0) (ab 2)))
def Iv (K : W.Frag) (A : Adr) : TS := ao (aT (mOr (bT (bS K (tCB (dG) (aa (ab 3) (aa (tC (.ty "tuple")) (af)))))) (mOr (aG (tOp (cP K) (tCB (cn K) (aa (ab 3) (af))) (tC (.int 3)))) (aG (tOp (cP K) (tOp (aq K) (ab 3) (tC (.int 0))) (tC (.str "leaf")))))) (aA (tC (.bl false))) (aI)) (ao (aT (mOr (bT (bS K (ai (iK K A) (fun _ => E0) (aa (ab 0) (aa (tOp (aq K) (ab 3) (tC (.int 1))) (af)))))) (bT (bS K (ai (ph K A) (fun _ => E0) (aa (tOp (aq K) (ab 3) (tC (.int 2))) (af)))))) (aA (tC (.bl false))) (aI)) (aA (tOp (be K) (ai (iI K A) (fun _ => E0) (aa (ab 0) (aa (tOp (aq K) (ab 3) (tC (.int 1))) (aa (ab 1) (af))))) (ab 2))))
def Ip (K : W.Frag) (A : Adr) : TS := ao (aT (mOr (bT (bS K (tCB (dG) (aa (ab 3) (aa (tC (.ty "tuple")) (af)))))) (mOr (aG (tOp (cP K) (tCB (cn K) (aa (ab 3) (af))) (tC (.int 5)))) (aG (tOp (cP K) (tOp (aq K) (ab 3) (tC (.int 0))) (tC (.str "fork")))))) (aA (tC (.bl false))) (aI)) (ao (aT (mOr (bT (bS K (ai (iQ K A) (fun _ => E0) (aa (tOp (aq K) (ab 3) (tC (.int 1))) (af))))) (bT (aG (eh (mLe) (mLt) (ab 1) (tOp (aq K) (ab 3) (tC (.int 1))) (ab 0))))) (aA (tC (.bl false))) (aI)) (ao (aT (mOr (bT (bS K (ai (iQ K A) (fun _ => E0) (aa (tOp (aq K) (ab 3) (tC (.int 2))) (af))))) (bT (aG (eh (mLe) (mLt) (tC (.int 0)) (tOp (aq K) (ab 3) (tC (.int 2))) (tOp (dI) (tC (.int 1)) (tOp (aq K) (ab 3) (tC (.int 1)))))))) (aA (tC (.bl false))) (aI)) (aA (tOp (be K) (tOp (gS) (tOp (aq K) (ab 3) (tC (.int 2))) (tOp (cB) (tOp (aq K) (ab 3) (tC (.int 1))) (ab 1))) (ab 2)))))
def Az (K : W.Frag) (A : Adr) : TS := aA (sR (ai (kP K A) (fun _ => E0) (aa (ab 0) (aa (ab 3) (aa (ab 4) (aa (ab 5) (af)))))) (ai (kC K A) (fun _ => E0) (aa (ab 0) (aa (ab 3) (aa (ab 4) (aa (ab 5) (af)))))))
def Cd (K : W.Frag) (A : Adr) : TS := ao (aT (aG (tOp (be K) (ab 5) (bH (aa (tC (.str "bare")) (af))))) (aA (tOp (be K) (ab 3) (tC (.int 0)))) (aI)) (Az K A)
def GK (K : W.Frag) (A : Adr) : TS := ao (aT (bT (bS K (ai (pC K A) (fun _ => E0) (aa (ab 0) (aa (ab 1) (aa (ab 2) (aa (ab 3) (aa (ab 4) (af))))))))) (aA (ai (pE K A) (fun _ => E0) (aa (ab 5) (af)))) (aI)) (ao (aT (aG (tOp (be K) (ab 5) (bH (aa (tC (.str "bare")) (af))))) (aA (tOp (be K) (ab 3) (tC (.int 0)))) (aI)) (aA (sR (ai (kP K A) (fun _ => E0) (aa (ab 0) (aa (ab 3) (aa (ab 4) (aa (ab 5) (af)))))) (ai (kC K A) (fun _ => E0) (aa (ab 0) (aa (ab 3) (aa (ab 4) (aa (ab 5) (af)))))))))
def GH (K : W.Frag) (A : Adr) (n : Nat) : TS := ao (aT (bT (bS K (ai (oH K A) (fun _ => E0) (aa (ab 0) (aa (ab 1) (aa (ab 2) (aa (ab 3) (aa (ab 4) (aa (ab 5) (af)))))))))) (eS) (aI)) (aT (aG (tOp (be K) (tOp (aq K) (ab 5) (tC (.int 0))) (tC (.str "fork")))) (ao (cH (ai (iL K A n) (fun _ => E0) (aa (ab 0) (aa (ab 1) (aa (ab 2) (aa (tOp (aS K) (tOp (aq K) (ab 5) (tC (.int 1))) (tC (.int 1))) (aa (tOp (bG) (tC (.int 2)) (tOp (aq K) (ab 5) (tC (.int 2)))) (aa (tOp (aq K) (ab 5) (tC (.int 3))) (af))))))))) (cH (ai (iL K A n) (fun _ => E0) (aa (ab 0) (aa (ab 1) (aa (ab 2) (aa (tOp (aS K) (tOp (aq K) (ab 5) (tC (.int 1))) (tC (.int 1))) (aa (tOp (aS K) (tOp (bG) (tC (.int 2)) (tOp (aq K) (ab 5) (tC (.int 2)))) (tC (.int 1))) (aa (tOp (aq K) (ab 5) (tC (.int 4))) (af)))))))))) (aI))
def Hf (K : W.Frag) (A : Adr) : TS := ao (cH (ai (mC K A) (fun _ => E0) (aa (ab 0) (aa (ab 1) (aa (ab 2) (af)))))) (cH (ai (iL K A 70) (fun _ => E0) (aa (ab 0) (aa (ab 1) (aa (ab 2) (aa (tC (.int 0)) (aa (tC (.int 0)) (aa (ab 3) (af)))))))))
def Gy (K : W.Frag) (A : Adr) : TS := aA (mIf (aG (tOp (be K) (tOp (aq K) (ab 1) (tC (.int 0))) (tC (.str "cut")))) (tOp (aq K) (ab 1) (tC (.int 1))) (fQ (eT K A) (fun _ => E0) (ab 0) (aa (tOp (aq K) (ab 2) (tUn dc (tC (.int 1)))) (af))))
def HK (K : W.Frag) (A : Adr) (n : Nat) : TS := ao (aT (aG (tOp (be K) (tOp (aq K) (ab 1) (tC (.int 0))) (tC (.str "cut")))) (aA (cp (af))) (aI)) (ao (aT (aG (tOp (cP K) (tOp (aq K) (ab 1) (tC (.int 0))) (tC (.str "fork")))) (aA (cp (aa (ab 1) (af)))) (aI)) (ao (aB (ai (gz K A n) (fun _ => E0) (aa (ab 0) (aa (tOp (aq K) (ab 1) (tC (.int 3))) (af)))) (ar 2)) (ao (aB (ai (gz K A n) (fun _ => E0) (aa (ab 0) (aa (tOp (aq K) (ab 1) (tC (.int 4))) (af)))) (ar 3)) (ao (aB (bH (aa (ai (jx K A) (fun _ => E0) (aa (ab 0) (aa (tOp (aq K) (ab 1) (tC (.int 3))) (aa (ab 2) (af))))) (aa (ai (jx K A) (fun _ => E0) (aa (ab 0) (aa (tOp (aq K) (ab 1) (tC (.int 4))) (aa (ab 3) (af))))) (af)))) (ar 4)) (aA (tOp (aS K) (tOp (aS K) (ab 2) (ab 3)) (cp (aa (bH (aa (tC (.str "fork")) (aa (tOp (aq K) (ab 1) (tC (.int 1))) (aa (tOp (aq K) (ab 1) (tC (.int 2))) (aa (tOp (aq K) (ab 4) (tC (.int 0))) (aa (tOp (aq K) (ab 4) (tC (.int 1))) (af))))))) (af)))))))))
def Hb (K : W.Frag) (A : Adr) : TS := ao (cH (ai (pB K A) (fun _ => E0) (aa (ab 1) (aa (ab 2) (aa (ab 3) (aa (ab 4) (af))))))) (aA (ai (gz K A 70) (fun _ => E0) (aa (ab 0) (aa (ab 4) (af)))))
def GF (K : W.Frag) (A : Adr) : TS := aA (fQ (eT K A) (fun _ => E0) (ab 0) (aa (tOp (aq K) (ai (kO K A) (fun _ => E0) (aa (ab 0) (aa (ab 1) (aa (ab 2) (aa (ab 3) (aa (ab 4) (af))))))) (tUn dc (tC (.int 1)))) (af)))
def GT (K : W.Frag) (A : Adr) : TS := aA (hU [0, 1] (eX K (ab 2)) (gE (aG (tOp (be K) (tOp (aq K) (ab 0) (tC (.int 0))) (tC (.str "leaf")))) (aG (eh (mLe) (mLe) (ab 1) (tOp (aq K) (ab 0) (tC (.int 1))) (ab 2)))) (bH (aa (tOp (aq K) (ab 0) (tC (.int 1))) (aa (tOp (aq K) (ab 0) (tC (.int 2))) (af)))))
def Il (K : W.Frag) (A : Adr) : TS := ao (aB (ai (kO K A) (fun _ => E0) (aa (ab 0) (aa (ab 1) (aa (ab 3) (aa (ab 4) (aa (ab 5) (af))))))) (ar 6)) (ao (aB (fQ (eT K A) (fun _ => E0) (ab 0) (aa (tOp (aq K) (ab 6) (tUn dc (tC (.int 1)))) (af))) (ar 7)) (ao (aT (aG (tOp (cP K) (ab 7) (ab 2))) (eS) (aI)) (aA (ai (pG K A) (fun _ => E0) (aa (ab 3) (aa (ab 4) (aa (ab 6) (af))))))))
def Hi (K : W.Frag) (A : Adr) : TS := ao (aT (bS K (tCB (dG) (aa (ab 1) (aa (tC (.ty "str")) (af))))) (aA (dg (tCB (dG) (aa (ab 0) (aa (tC (.ty "str")) (af)))) (tOp (be K) (ab 0) (ab 1)))) (aI)) (aA (dg (tCB (dG) (aa (ab 0) (aa (tC (.ty "int")) (af)))) (dg (pv (tCB (dG) (aa (ab 0) (aa (tC (.ty "bool")) (af))))) (tOp (be K) (ab 0) (ab 1)))))
def Hg (K : W.Frag) (A : Adr) : TS := ao (aT (mOr (bT (bS K (tCB (dG) (aa (ab 0) (aa (tC (.ty "tuple")) (af)))))) (aG (tOp (cP K) (tCB (cn K) (aa (ab 0) (af))) (tCB (cn K) (aa (ab 1) (af)))))) (aA (tC (.bl false))) (aI)) (ao (eU (iE (aa (tCB (cn K) (aa (ab 1) (af))) (af))) (ar 2) (aT (bT (bS K (ai (oZ K A) (fun _ => E0) (aa (tOp (aq K) (ab 0) (ab 2)) (aa (tOp (aq K) (ab 1) (ab 2)) (af)))))) (aA (tC (.bl false))) (aI))) (aA (tC (.bl true))))
def Hu (K : W.Frag) (A : Adr) : TS := ao (aT (mOr (bT (bS K (tCB (dG) (aa (ab 0) (aa (tC (.ty "list")) (af)))))) (aG (tOp (cP K) (tCB (cn K) (aa (ab 0) (af))) (tCB (cn K) (aa (ab 1) (af)))))) (aA (tC (.bl false))) (aI)) (ao (eU (iE (aa (tCB (cn K) (aa (ab 1) (af))) (af))) (ar 2) (aT (bT (bS K (ai (kR K A) (fun _ => E0) (aa (tOp (aq K) (ab 0) (ab 2)) (aa (tOp (aq K) (ab 1) (ab 2)) (af)))))) (aA (tC (.bl false))) (aI))) (aA (tC (.bl true))))
def T_4 (K : W.Frag) (A : Adr) : TS := aA (hU [1, 2] (eX K (ai (gx K A 70) (fun _ => E0) (aa (ab 0) (af)))) (aG (eh (mLe) (mLe) (ab 1) (tOp (aq K) (ab 0) (tC (.int 0))) (ab 2))) (ab 0))
def uN (K : W.Frag) (A : Adr) : TS := aA (bH (aa (tCB (ka K) (aa (ab 4) (af))) (aa (tOp (aq K) (tOp (aq K) (ai (dh K A 70) (fun _ => E0) (aa (ab 0) (aa (ab 2) (af)))) (tC (.int 1))) (tUn dc (tC (.int 1)))) (af))))
def Ir (K : W.Frag) (A : Adr) : TS := ao (aB (cp (af)) (ar 4)) (ao (mi (gE (aG (tOp (be K) (tOp (aq K) (ab 2) (tC (.int 0))) (tC (.str "fork")))) (aG (tOp (be K) (tOp (gS) (ab 3) (tOp (cB) (ab 1) (tOp (aq K) (ab 2) (tC (.int 1))))) (tOp (aq K) (ab 2) (tC (.int 2)))))) (aT (aG (tOp (be K) (tOp (pq) (tOp (gS) (ab 3) (tOp (cB) (tOp (cB) (ab 1) (tOp (aq K) (ab 2) (tC (.int 1)))) (tC (.int 1)))) (tC (.int 1))) (tC (.int 0)))) (ao (cH (tBM K "list" cZ (ab 4) (aa (bH (aa (tOp (aq K) (ab 2) (tC (.int 1))) (aa (tOp (aq K) (ai (dh K A 70) (fun _ => E0) (aa (ab 0) (aa (tOp (aq K) (ab 2) (tC (.int 4))) (af)))) (tC (.int 0))) (af)))) (af)))) (aB (tOp (aq K) (ab 2) (tC (.int 3))) (ar 2))) (ao (cH (tBM K "list" cZ (ab 4) (aa (bH (aa (tOp (aq K) (ab 2) (tC (.int 1))) (aa (tOp (aq K) (ai (dh K A 70) (fun _ => E0) (aa (ab 0) (aa (tOp (aq K) (ab 2) (tC (.int 3))) (af)))) (tC (.int 0))) (af)))) (af)))) (aB (tOp (aq K) (ab 2) (tC (.int 4))) (ar 2))))) (aA (bH (aa (tCB (ka K) (aa (ab 4) (af))) (aa (tOp (aq K) (tOp (aq K) (ai (dh K A 70) (fun _ => E0) (aa (ab 0) (aa (ab 2) (af)))) (tC (.int 1))) (tUn dc (tC (.int 1)))) (af))))))
def GO (K : W.Frag) (A : Adr) : TS := ao (aT (mOr (bT (bS K (tCB (dG) (aa (ab 2) (aa (tC (.ty "tuple")) (af)))))) (aG (tOp (cP K) (tCB (cn K) (aa (ab 2) (af))) (tC (.int 2))))) (aA (tC (.bl false))) (aI)) (aA (dg (ai (iQ K A) (fun _ => E0) (aa (tOp (aq K) (ab 2) (tC (.int 0))) (af))) (dg (eh (mLe) (mLt) (ab 1) (tOp (aq K) (ab 2) (tC (.int 0))) (ab 0)) (ai (jm K A) (fun _ => E0) (aa (tOp (aq K) (ab 2) (tC (.int 1))) (af))))))
def Hz (K : W.Frag) (A : Adr) : TS := ao (aT (bT (bS K (tCB (dG) (aa (ab 1) (aa (tC (.ty "tuple")) (af)))))) (aA (tC (.bl false))) (aI)) (ao (aB (tC (.int 0)) (ar 2)) (ao (eU (eX K (ab 1)) (ar 3) (ao (aT (bT (bS K (ai (oG K A) (fun _ => E0) (aa (ab 0) (aa (ab 2) (aa (ab 3) (af))))))) (aA (tC (.bl false))) (aI)) (aB (tOp (aS K) (tOp (aq K) (ab 3) (tC (.int 0))) (tC (.int 1))) (ar 2)))) (aA (tC (.bl true)))))
def Hv (K : W.Frag) (A : Adr) : TS := ao (aT (aG (tOp (be K) (ab 3) (bH (aa (tC (.str "bare")) (af))))) (aA (tOp (be K) (ab 2) (tC (.int 0)))) (aI)) (ao (aB (ai (iI K A) (fun _ => E0) (aa (ab 0) (aa (ab 1) (aa (ab 2) (af))))) (ar 4)) (ao (aT (bS K (ai (kP K A) (fun _ => E0) (aa (ab 0) (aa (ab 2) (aa (ab 4) (aa (ab 3) (af))))))) (aA (tC (.bl true))) (aI)) (ao (aT (bT (bS K (ai (kC K A) (fun _ => E0) (aa (ab 0) (aa (ab 2) (aa (ab 4) (aa (ab 3) (af)))))))) (aA (tC (.bl false))) (aI)) (ao (aT (aG (tOp (be K) (tOp (aq K) (ab 3) (tC (.int 2))) (ai (iI K A) (fun _ => E0) (aa (ab 0) (aa (ab 1) (aa (tOp (aq K) (ab 3) (tC (.int 1))) (af))))))) (aA (tC (.bl false))) (aI)) (aA (dg (ai (jm K A) (fun _ => E0) (aa (tOp (aq K) (ab 3) (tC (.int 3))) (af))) (ai (jm K A) (fun _ => E0) (aa (tOp (aq K) (ab 3) (tC (.int 4))) (af)))))))))
def GC (K : W.Frag) (A : Adr) : TS := ao (aT (mOr (bT (bS K (tCB (dG) (aa (ab 2) (aa (tC (.ty "tuple")) (af)))))) (aG (tOp (cP K) (tCB (cn K) (aa (ab 2) (af))) (tC (.int 2))))) (aA (tC (.bl false))) (aI)) (ao (aT (bT (bS K (ai (oW K A) (fun _ => E0) (aa (ab 0) (aa (tOp (aq K) (ab 2) (tC (.int 0))) (af)))))) (aA (tC (.bl false))) (aI)) (ao (aB (mIf (bS K (tOp (aq K) (ab 2) (tC (.int 0)))) (tOp (aS K) (tOp (aq K) (tOp (aq K) (tOp (aq K) (ab 2) (tC (.int 0))) (tUn dc (tC (.int 1)))) (tC (.int 0))) (tC (.int 1))) (tC (.int 0))) (ar 3)) (aA (ai (pF K A) (fun _ => E0) (aa (ab 0) (aa (ab 1) (aa (ab 3) (aa (tOp (aq K) (ab 2) (tC (.int 1))) (af)))))))))
def Hj (K : W.Frag) (A : Adr) : TS := aA (tOp (pq) (tOp (gS) (ab 1) (tOp (cB) (tOp (cB) (ab 0) (ab 2)) (tC (.int 1)))) (tC (.int 1)))
def GE (K : W.Frag) (A : Adr) : TS := ao (aB (tOp (aq K) (ab 2) (tC (.int 0))) (ar 4)) (ao (aB (ai (iI K A) (fun _ => E0) (aa (ab 0) (aa (ab 1) (aa (ab 4) (af))))) (ar 5)) (ao (aT (aG (tOp (be K) (ai (mh K A) (fun _ => E0) (aa (ab 0) (aa (ab 1) (aa (ab 4) (af))))) (tC (.int 0)))) (aA (bH (aa (tC (.str "fork")) (aa (ab 4) (aa (ab 5) (aa (ab 3) (aa (tOp (aq K) (ab 2) (tC (.int 1))) (af)))))))) (aI)) (aA (bH (aa (tC (.str "fork")) (aa (ab 4) (aa (ab 5) (aa (tOp (aq K) (ab 2) (tC (.int 1))) (aa (ab 3) (af))))))))))
def GW (K : W.Frag) (A : Adr) : TS := ao (aT (bT (bS K (ai (iK K A) (fun _ => E0) (aa (ab 1) (aa (ab 2) (af)))))) (eS) (aI)) (ao (aT (bT (bS K (ai (oQ K A) (fun _ => E0) (aa (ab 1) (aa (ab 2) (aa (ab 3) (af))))))) (eS) (aI)) (ao (aB (cp (aa (tOp (aq K) (ab 3) (tC (.int 1))) (af))) (ar 4)) (ao (eU (BF K (aa (tOp (aq K) (ab 3) (tC (.int 0))) (af))) (ar 5) (cH (tBM K "list" cZ (ab 4) (aa (ai (oS K A) (fun _ => E0) (aa (ab 1) (aa (ab 2) (aa (ab 5) (aa (fQ (eT K A) (fun _ => E0) (ab 0) (aa (tOp (aq K) (ab 4) (tUn dc (tC (.int 1)))) (af))) (af)))))) (af))))) (aA (ab 4)))))
def HH (K : W.Frag) (A : Adr) : TS := aA (fQ (eT K A) (fun _ => E0) (ab 0) (aa (tOp (aq K) (ai (mJ K A) (fun _ => E0) (aa (ab 0) (aa (ab 1) (aa (ab 2) (aa (ab 3) (af)))))) (tUn dc (tC (.int 1)))) (af)))
def tD (K : W.Frag) (A : Adr) : TS := aA (bH (aa (tCB (ka K) (aa (ab 6) (af))) (aa (tOp (aq K) (ai (gz K A 70) (fun _ => E0) (aa (ab 0) (aa (ab 7) (af)))) (tUn dc (tC (.int 1)))) (af))))
def GX (K : W.Frag) (A : Adr) : TS := ao (aT (bT (bS K (ai (iK K A) (fun _ => E0) (aa (ab 1) (aa (ab 5) (af)))))) (eS) (aI)) (ao (cH (ai (mC K A) (fun _ => E0) (aa (ab 1) (aa (ab 2) (aa (ab 3) (af)))))) (ao (aT (bT (aG (eh (mLe) (mLe) (ab 2) (ab 5) (ab 3)))) (eS) (aI)) (ao (cH (ai (iL K A 70) (fun _ => E0) (aa (ab 1) (aa (ab 2) (aa (ab 3) (aa (tC (.int 0)) (aa (tC (.int 0)) (aa (ab 4) (af))))))))) (ao (aB (cp (af)) (ar 6)) (ao (aB (ab 4) (ar 7)) (ao (mi (gE (aG (tOp (be K) (tOp (aq K) (ab 7) (tC (.int 0))) (tC (.str "fork")))) (aG (tOp (be K) (ai (iI K A) (fun _ => E0) (aa (ab 1) (aa (ab 5) (aa (tOp (aq K) (ab 7) (tC (.int 1))) (af))))) (tOp (aq K) (ab 7) (tC (.int 2)))))) (ao (aB (ai (mh K A) (fun _ => E0) (aa (ab 1) (aa (ab 5) (aa (tOp (aq K) (ab 7) (tC (.int 1))) (af))))) (ar 8)) (ao (aB (tOp (aq K) (ab 7) (tOp (cB) (tC (.int 4)) (ab 8))) (ar 9)) (ao (cH (tBM K "list" cZ (ab 6) (aa (bH (aa (tOp (aq K) (ab 7) (tC (.int 1))) (aa (ai (jx K A) (fun _ => E0) (aa (ab 0) (aa (ab 9) (aa (ai (gz K A 70) (fun _ => E0) (aa (ab 0) (aa (ab 9) (af)))) (af))))) (af)))) (af)))) (aB (tOp (aq K) (ab 7) (tOp (aS K) (tC (.int 3)) (ab 8))) (ar 7)))))) (aA (bH (aa (tCB (ka K) (aa (ab 6) (af))) (aa (tOp (aq K) (ai (gz K A 70) (fun _ => E0) (aa (ab 0) (aa (ab 7) (af)))) (tUn dc (tC (.int 1)))) (af)))))))))))
def GM (K : W.Frag) (A : Adr) : TS := ao (aT (aG (tOp (ke) (ab 1) (tC .non))) (aA (tOp (ke) (ab 0) (tC .non))) (aI)) (aA (dg (tCB (dG) (aa (ab 0) (aa (tC (.ty "str")) (af)))) (tOp (be K) (ab 0) (ab 1))))
def HJ (K : W.Frag) (A : Adr) : TS := ao (aB (tOp (aq K) (ab 1) (tC (.int 1))) (ar 2)) (aA (mIf (gE (aG (tOp (be K) (tOp (aq K) (ab 2) (tC (.int 0))) (tC (.str "leaf")))) (aG (tOp (be K) (tOp (aq K) (ab 2) (tC (.int 1))) (ab 0)))) (tOp (aq K) (ab 2) (tC (.int 2))) (tC .non)))
def HX (K : W.Frag) (A : Adr) : TS := ao (aB (ai (lY K A) (fun _ => E0) (aa (ab 0) (aa (ab 1) (aa (ab 3) (aa (ab 4) (af)))))) (ar 5)) (ao (aT (aG (tOp (cP K) (ab 5) (ab 2))) (eS) (aI)) (aA (ai (pj K A) (fun _ => E0) (aa (ab 3) (aa (ab 4) (af))))))
def Iu (K : W.Frag) (A : Adr) : TS := ao (eU (eX K (ai (gx K A 70) (fun _ => E0) (aa (ab 0) (af)))) (nB K 2 (eH (ar 2) (eH (ar 3) nw))) (aT (aG (tOp (be K) (ab 2) (ab 1))) (aA (ab 3)) (aI))) (aA (tC .non))
def Ik (K : W.Frag) (A : Adr) : TS := ao (aB (ai (lw K A 70) (fun _ => E0) (aa (ab 0) (aa (ab 1) (aa (ab 3) (aa (tC (.int 0)) (aa (tC (.int 0)) (aa (ab 5) (af)))))))) (ar 6)) (ao (aT (aG (tOp (cP K) (ai (oE K A) (fun _ => E0) (aa (ab 0) (aa (ab 1) (aa (tOp (aq K) (ab 3) (tC (.int 0))) (aa (tOp (aq K) (ab 3) (tC (.int 1))) (aa (ab 6) (af))))))) (ab 2))) (aA (tC .non)) (aI)) (ao (aB (ai (oO K A) (fun _ => E0) (aa (ab 0) (aa (ab 1) (aa (ab 2) (aa (tOp (aq K) (ab 3) (tC (.int 0))) (aa (tOp (aq K) (ab 3) (tC (.int 1))) (aa (ab 6) (af)))))))) (ar 7)) (ao (aT (bT (bS K (ai (oY K A) (fun _ => E0) (aa (ab 7) (aa (ai (sr K A) (fun _ => E0) (aa (ab 5) (aa (tOp (aq K) (ab 3) (tC (.int 0))) (aa (tOp (aq K) (ab 3) (tC (.int 1))) (af))))) (af)))))) (aA (tC .non)) (aI)) (ao (aB (ai (oJ K A) (fun _ => E0) (aa (ab 0) (aa (ab 1) (aa (ab 5) (aa (ab 4) (af)))))) (ar 8)) (ao (aT (aG (tOp (cP K) (ai (lY K A) (fun _ => E0) (aa (ab 0) (aa (ab 1) (aa (ab 4) (aa (ab 8) (af)))))) (ab 2))) (aA (tC .non)) (aI)) (ao (aT (aG (tOp (cP K) (ai (oU K A) (fun _ => E0) (aa (ab 0) (aa (ab 1) (aa (tOp (aq K) (ab 3) (tC (.int 0))) (aa (tOp (aq K) (ab 3) (tC (.int 1))) (aa (ab 6) (aa (ab 4) (af)))))))) (ab 8))) (aA (tC .non)) (aI)) (ao (aT (bT (bS K (ai (pf K A) (fun _ => E0) (aa (ai (oM K A) (fun _ => E0) (aa (ab 0) (aa (ab 1) (aa (ab 2) (aa (ab 4) (aa (ab 8) (af))))))) (aa (ai (iJ K A) (fun _ => E0) (aa (ab 5) (aa (ab 4) (af)))) (af)))))) (aA (tC .non)) (aI)) (ao (aB (ai (kO K A) (fun _ => E0) (aa (ab 0) (aa (ab 1) (aa (tOp (aq K) (ab 3) (tC (.int 0))) (aa (tOp (aq K) (ab 3) (tC (.int 1))) (aa (ab 6) (af))))))) (ar 9)) (aA (cp (aa (ab 9) (aa (ai (mJ K A) (fun _ => E0) (aa (ab 0) (aa (ab 1) (aa (ab 4) (aa (ab 8) (af)))))) (af)))))))))))))
def Hq (K : W.Frag) (A : Adr) : TS := ao (aB (pX) (ar 2)) (ao (eU (eX K (ab 1)) (ar 3) (ao (aB (tBM K "dict" ni (ab 2) (aa (fQ (eT K A) (fun _ => E0) (ab 0) (aa (ab 3) (af))) (aa (ab 3) (af)))) (ar 4)) (aT (aG (tOp (cP K) (ab 4) (ab 3))) (aA (bH (aa (ab 4) (aa (ab 3) (af))))) (aI)))) (aA (tC .non)))
def T_5 (K : W.Frag) (A : Adr) : TS := ao (aT (mOr (bT (bS K (tCB (dG) (aa (ab 0) (aa (tC (.ty "tuple")) (af)))))) (aG (tOp (cP K) (tCB (cn K) (aa (ab 0) (af))) (tC (.int 2))))) (aA (tC (.bl false))) (aI)) (aA (dg (ai (kR K A) (fun _ => E0) (aa (tOp (aq K) (ab 0) (tC (.int 0))) (aa (ab 1) (af)))) (ai (kR K A) (fun _ => E0) (aa (tOp (aq K) (ab 0) (tC (.int 1))) (aa (ab 2) (af))))))
def zt (K : W.Frag) (A : Adr) : TS := aA (tC (.bl true))
def mO (K : W.Frag) (A : Adr) : TS := ao (eU (iE (aa (tC (.int 4)) (af))) (ar 17) (ao (aB (ai (kB K A) (fun _ => E0) (aa (ab 11) (aa (tOp (aS K) (tOp (aq K) (ab 15) (tOp (ba) (ab 17) (tC (.int 2)))) (tOp (aq K) (ab 16) (tOp (bJ) (ab 17) (tC (.int 2))))) (af)))) (ar 18)) (aT (bT (bS K (ai (qd K A) (fun _ => E0) (aa (ab 18) (aa (tOp (aq K) (ab 9) (tUn dc (tC (.int 1)))) (aa (tOp (aq K) (ab 10) (tUn dc (tC (.int 1)))) (af))))))) (aA (tC (.bl false))) (aI)))) (zt K A)
def zd (K : W.Frag) (A : Adr) : TS := ao (aT (aG (tOp (be K) (ai (iJ K A) (fun _ => E0) (aa (ab 12) (aa (ab 5) (af)))) (ai (iJ K A) (fun _ => E0) (aa (ab 13) (aa (ab 5) (af)))))) (aA (tC (.bl true))) (aI)) (mO K A)
def ri (K : W.Frag) (A : Adr) : TS := ao (aT (mOr (aG (tOp (ke) (ab 15) (tC .non))) (aG (tOp (ke) (ab 16) (tC .non)))) (aA (tC (.bl false))) (aI)) (zd K A)
def BL (K : W.Frag) (A : Adr) : TS := ao (aB (ai (jB K A) (fun _ => E0) (aa (ab 11) (aa (ab 0) (aa (ab 14) (aa (tOp (aq K) (ab 6) (tC (.int 1))) (aa (ab 5) (aa (ab 13) (af)))))))) (ar 16)) (ri K A)
def CQ (K : W.Frag) (A : Adr) : TS := ao (aB (ai (jB K A) (fun _ => E0) (aa (ab 11) (aa (ab 0) (aa (ab 14) (aa (tOp (aq K) (ab 6) (tC (.int 0))) (aa (ab 5) (aa (ab 12) (af)))))))) (ar 15)) (BL K A)
def Ay (K : W.Frag) (A : Adr) : TS := ao (aB (tOp (aq K) (ai (dh K A 70) (fun _ => E0) (aa (ab 11) (aa (ab 12) (af)))) (tC (.int 0))) (ar 14)) (CQ K A)
def Dh (K : W.Frag) (A : Adr) : TS := ao (aB (ai (gY K A 70) (fun _ => E0) (aa (ab 1) (aa (ab 2) (aa (ab 4) (af))))) (ar 13)) (Ay K A)
def AR (K : W.Frag) (A : Adr) : TS := ao (aB (ai (gY K A 70) (fun _ => E0) (aa (ab 1) (aa (ab 2) (aa (ab 3) (af))))) (ar 12)) (Dh K A)
def uf (K : W.Frag) (A : Adr) : TS := ao (aB (ai (lU K A) (fun _ => E0) (aa (ab 8) (aa (tOp (aq K) (ab 9) (tUn dc (tC (.int 1)))) (aa (tOp (aq K) (ab 10) (tUn dc (tC (.int 1)))) (af))))) (ar 11)) (AR K A)
def uQ (K : W.Frag) (A : Adr) : TS := ao (aT (aG (tOp (sI K) (tOp (aq K) (ab 10) (tUn dc (tC (.int 1)))) (ab 9))) (ao (mP 3 4 (aa (ab 4) (aa (ab 3) (af)))) (mP 9 10 (aa (ab 10) (aa (ab 9) (af))))) (aI)) (uf K A)
def tZ (K : W.Frag) (A : Adr) : TS := ao (aB (tOp (aq K) (ai (dh K A 70) (fun _ => E0) (aa (ab 8) (aa (ab 4) (af)))) (tC (.int 1))) (ar 10)) (uQ K A)
def Du (K : W.Frag) (A : Adr) : TS := ao (aB (tOp (aq K) (ai (dh K A 70) (fun _ => E0) (aa (ab 8) (aa (ab 3) (af)))) (tC (.int 1))) (ar 9)) (tZ K A)
def HR (K : W.Frag) (A : Adr) : TS := ao (aB (ai (oP K A) (fun _ => E0) (aa (tOp (ba) (ab 7) (tC (.int 1000))) (af))) (ar 8)) (ao (aB (tOp (aq K) (ai (dh K A 70) (fun _ => E0) (aa (ab 8) (aa (ab 3) (af)))) (tC (.int 1))) (ar 9)) (ao (aB (tOp (aq K) (ai (dh K A 70) (fun _ => E0) (aa (ab 8) (aa (ab 4) (af)))) (tC (.int 1))) (ar 10)) (ao (aT (aG (tOp (sI K) (tOp (aq K) (ab 10) (tUn dc (tC (.int 1)))) (ab 9))) (ao (mP 3 4 (aa (ab 4) (aa (ab 3) (af)))) (mP 9 10 (aa (ab 10) (aa (ab 9) (af))))) (aI)) (ao (aB (ai (lU K A) (fun _ => E0) (aa (ab 8) (aa (tOp (aq K) (ab 9) (tUn dc (tC (.int 1)))) (aa (tOp (aq K) (ab 10) (tUn dc (tC (.int 1)))) (af))))) (ar 11)) (ao (aB (ai (gY K A 70) (fun _ => E0) (aa (ab 1) (aa (ab 2) (aa (ab 3) (af))))) (ar 12)) (ao (aB (ai (gY K A 70) (fun _ => E0) (aa (ab 1) (aa (ab 2) (aa (ab 4) (af))))) (ar 13)) (ao (aB (tOp (aq K) (ai (dh K A 70) (fun _ => E0) (aa (ab 11) (aa (ab 12) (af)))) (tC (.int 0))) (ar 14)) (ao (aB (ai (jB K A) (fun _ => E0) (aa (ab 11) (aa (ab 0) (aa (ab 14) (aa (tOp (aq K) (ab 6) (tC (.int 0))) (aa (ab 5) (aa (ab 12) (af)))))))) (ar 15)) (ao (aB (ai (jB K A) (fun _ => E0) (aa (ab 11) (aa (ab 0) (aa (ab 14) (aa (tOp (aq K) (ab 6) (tC (.int 1))) (aa (ab 5) (aa (ab 13) (af)))))))) (ar 16)) (ao (aT (mOr (aG (tOp (ke) (ab 15) (tC .non))) (aG (tOp (ke) (ab 16) (tC .non)))) (aA (tC (.bl false))) (aI)) (ao (aT (aG (tOp (be K) (ai (iJ K A) (fun _ => E0) (aa (ab 12) (aa (ab 5) (af)))) (ai (iJ K A) (fun _ => E0) (aa (ab 13) (aa (ab 5) (af)))))) (aA (tC (.bl true))) (aI)) (ao (eU (iE (aa (tC (.int 4)) (af))) (ar 17) (ao (aB (ai (kB K A) (fun _ => E0) (aa (ab 11) (aa (tOp (aS K) (tOp (aq K) (ab 15) (tOp (ba) (ab 17) (tC (.int 2)))) (tOp (aq K) (ab 16) (tOp (bJ) (ab 17) (tC (.int 2))))) (af)))) (ar 18)) (aT (bT (bS K (ai (qd K A) (fun _ => E0) (aa (ab 18) (aa (tOp (aq K) (ab 9) (tUn dc (tC (.int 1)))) (aa (tOp (aq K) (ab 10) (tUn dc (tC (.int 1)))) (af))))))) (aA (tC (.bl false))) (aI)))) (aA (tC (.bl true)))))))))))))))
def Do (K : W.Frag) (A : Adr) : TS := aA (tC (.bl true))
def tI (K : W.Frag) (A : Adr) : TS := ao (eU (eX K (tOp (aS K) (tSl (lB K) (ab 0) (gN (tC (.int 4))) (gN (tC (.int 6)))) (cp (aa (ai (dX K A) (fun _ => E0) (aa (ab 0) (aa (tC (.int 7)) (af)))) (af))))) (ar 5) (ao (aB (tOp (aq K) (ab 4) (tOp (ba) (ab 5) (tCB (cn K) (aa (ab 4) (af))))) (nB K 3 (eH (ar 6) (eH (ar 7) (eH (ar 8) nw))))) (ao (aB (tOp (ba) (tOp (bG) (ab 5) (tC (.int 48271))) (tC (.int 1000003))) (ar 9)) (ao (aB (ai (lN K A) (fun _ => E0) (aa (ab 3) (aa (ab 8) (af)))) (ar 10)) (ao (aB (ai (fL K A 70) (fun _ => E0) (aa (ab 9) (aa (ab 1) (aa (tC (.int 0)) (aa (ab 2) (aa (ab 6) (aa (ab 7) (aa (tOp (ba) (ab 9) (tC (.int 4))) (af))))))))) (ar 11)) (ao (aB (hU [] (eX K (tOp (aS K) (ai (gx K A 70) (fun _ => E0) (aa (ab 10) (af))) (ai (gx K A 70) (fun _ => E0) (aa (ab 11) (af))))) (fun _ H Q => Q true H) (tOp (aq K) (ab 0) (tC (.int 0)))) (ar 12)) (ao (cH (tBM K "list" cZ (ab 12) (aa (ai (lh K A) (fun _ => E0) (aa (ab 1) (aa (ab 9) (aa (cp (af)) (af))))) (af)))) (ao (aB (tOp (aq K) (ab 12) (tOp (ba) (tOp (bJ) (ab 9) (tC (.int 4))) (tCB (cn K) (aa (ab 12) (af))))) (ar 13)) (ao (aB (cp (aa (ai (hZ K A) (fun _ => E0) (aa (ab 1) (aa (ab 13) (aa (ai (dX K A) (fun _ => E0) (aa (ab 0) (aa (tC (.int 2)) (af)))) (af))))) (af))) (ar 14)) (ao (cH (tBM K "list" cZ (ab 14) (aa (ai (hZ K A) (fun _ => E0) (aa (ab 1) (aa (ab 13) (aa (ai (dX K A) (fun _ => E0) (aa (ab 0) (aa (tC (.int 3)) (af)))) (af))))) (af)))) (aT (bT (bS K (ai (kx K A) (fun _ => E0) (aa (ab 1) (aa (ab 3) (aa (ab 8) (aa (ab 10) (aa (ab 11) (aa (ab 13) (aa (ab 14) (aa (ai (dX K A) (fun _ => E0) (aa (ab 0) (aa (tC (.int 3)) (af)))) (af)))))))))))) (aA (tC (.bl false))) (aI)))))))))))) (Do K A)
def tN (K : W.Frag) (A : Adr) : TS := ao (aB (ai (iP K A 70) (fun _ => E0) (aa (ab 3) (aa (tC (.int 0)) (aa (tC (.int 0)) (aa (bH (af)) (af)))))) (ar 4)) (tI K A)
def uW (K : W.Frag) (A : Adr) : TS := ao (aB (ai (fL K A 70) (fun _ => E0) (aa (ai (dX K A) (fun _ => E0) (aa (ab 0) (aa (tC (.int 1)) (af)))) (aa (ab 1) (aa (tC (.int 0)) (aa (ab 2) (aa (tC (.int 0)) (aa (tC (.int 0)) (aa (tOp (aS K) (tC (.int 1)) (tOp (ba) (ai (dX K A) (fun _ => E0) (aa (ab 0) (aa (tC (.int 1)) (af)))) (tC (.int 4)))) (af))))))))) (ar 3)) (tN K A)
def AG (K : W.Frag) (A : Adr) : TS := ao (aB (tOp (cB) (tOp (dI) (tC (.int 1)) (ab 1)) (tC (.int 1))) (ar 2)) (uW K A)
def Ha (K : W.Frag) (A : Adr) : TS := ao (aB (ai (sf K A) (fun _ => E0) (aa (ai (dX K A) (fun _ => E0) (aa (ab 0) (aa (tC (.int 0)) (af)))) (af))) (ar 1)) (ao (aB (tOp (cB) (tOp (dI) (tC (.int 1)) (ab 1)) (tC (.int 1))) (ar 2)) (ao (aB (ai (fL K A 70) (fun _ => E0) (aa (ai (dX K A) (fun _ => E0) (aa (ab 0) (aa (tC (.int 1)) (af)))) (aa (ab 1) (aa (tC (.int 0)) (aa (ab 2) (aa (tC (.int 0)) (aa (tC (.int 0)) (aa (tOp (aS K) (tC (.int 1)) (tOp (ba) (ai (dX K A) (fun _ => E0) (aa (ab 0) (aa (tC (.int 1)) (af)))) (tC (.int 4)))) (af))))))))) (ar 3)) (ao (aB (ai (iP K A 70) (fun _ => E0) (aa (ab 3) (aa (tC (.int 0)) (aa (tC (.int 0)) (aa (bH (af)) (af)))))) (ar 4)) (ao (eU (eX K (tOp (aS K) (tSl (lB K) (ab 0) (gN (tC (.int 4))) (gN (tC (.int 6)))) (cp (aa (ai (dX K A) (fun _ => E0) (aa (ab 0) (aa (tC (.int 7)) (af)))) (af))))) (ar 5) (ao (aB (tOp (aq K) (ab 4) (tOp (ba) (ab 5) (tCB (cn K) (aa (ab 4) (af))))) (nB K 3 (eH (ar 6) (eH (ar 7) (eH (ar 8) nw))))) (ao (aB (tOp (ba) (tOp (bG) (ab 5) (tC (.int 48271))) (tC (.int 1000003))) (ar 9)) (ao (aB (ai (lN K A) (fun _ => E0) (aa (ab 3) (aa (ab 8) (af)))) (ar 10)) (ao (aB (ai (fL K A 70) (fun _ => E0) (aa (ab 9) (aa (ab 1) (aa (tC (.int 0)) (aa (ab 2) (aa (ab 6) (aa (ab 7) (aa (tOp (ba) (ab 9) (tC (.int 4))) (af))))))))) (ar 11)) (ao (aB (hU [] (eX K (tOp (aS K) (ai (gx K A 70) (fun _ => E0) (aa (ab 10) (af))) (ai (gx K A 70) (fun _ => E0) (aa (ab 11) (af))))) (fun _ H Q => Q true H) (tOp (aq K) (ab 0) (tC (.int 0)))) (ar 12)) (ao (cH (tBM K "list" cZ (ab 12) (aa (ai (lh K A) (fun _ => E0) (aa (ab 1) (aa (ab 9) (aa (cp (af)) (af))))) (af)))) (ao (aB (tOp (aq K) (ab 12) (tOp (ba) (tOp (bJ) (ab 9) (tC (.int 4))) (tCB (cn K) (aa (ab 12) (af))))) (ar 13)) (ao (aB (cp (aa (ai (hZ K A) (fun _ => E0) (aa (ab 1) (aa (ab 13) (aa (ai (dX K A) (fun _ => E0) (aa (ab 0) (aa (tC (.int 2)) (af)))) (af))))) (af))) (ar 14)) (ao (cH (tBM K "list" cZ (ab 14) (aa (ai (hZ K A) (fun _ => E0) (aa (ab 1) (aa (ab 13) (aa (ai (dX K A) (fun _ => E0) (aa (ab 0) (aa (tC (.int 3)) (af)))) (af))))) (af)))) (aT (bT (bS K (ai (kx K A) (fun _ => E0) (aa (ab 1) (aa (ab 3) (aa (ab 8) (aa (ab 10) (aa (ab 11) (aa (ab 13) (aa (ab 14) (aa (ai (dX K A) (fun _ => E0) (aa (ab 0) (aa (tC (.int 3)) (af)))) (af)))))))))))) (aA (tC (.bl false))) (aI)))))))))))) (aA (tC (.bl true)))))))
end Rs
namespace Rs
open PySem PySem.Spec PyProof.Rows L2
def tyD : Dat → String
 | .non => "NoneType"
 | .bl _ => "bool"
 | .int _ => "int"
 | .str _ => "str"
 | .lst _ => "list"
 | .tup _ => "tuple"
 | .dic => "dict"
theorem aP.ty {H : Hp} {v : V} {d : Dat} (h : aP H v d) : tyN H v = some (tyD d) := by
 cases h with
 | lst e _ => unfold tyN; dsimp only; rw [e]; rfl
 | tup e _ => unfold tyN; dsimp only; rw [e]; rfl
 | dic e => unfold tyN; dsimp only; rcases e with ⟨kvs, e⟩ | ⟨kvs, e⟩ <;> rw [e] <;> rfl
 | _ => rfl
mutual
theorem aP.toV {K : W.Frag} {H : Hp} {v : V} {d : Dat} (h : aP H v d) (ok : okD d = true) : eE K H v (cO d) := by
 cases h with
 | non => exact .non
 | bl b => exact .bl b
 | int i => exact .int i
 | str z => exact .str z
 | lst e r => exact .lst (SqL.of e) (DatWs.toV r ok)
 | tup e r => exact .tup (SqT.of e) (DatWs.toV r ok)
 | dic e => cases ok
theorem DatWs.toV {K : W.Frag} {H : Hp} {xs : List V} {ds : List Dat} (h : DatWs H xs ds) (ok : okDs ds = true) : DatVs K H xs (toPys ds) := by
  cases h with
  | nil => exact .nil
  | cons a r =>
    have ok : (okD _ && okDs _) = true := ok
    rw [Bool.and_eq_true] at ok
    exact .cons (aP.toV a ok.1) (DatWs.toV r ok.2)
end
theorem tJ {z : Str} (h : fB z = true) : PyData.strOk z = true := by
 unfold PyData.strOk
 unfold fB at h
 rw [Array.all_eq_true] at h ⊢
 intro i hi
 have := of_decide_eq_true (h i hi)
 exact decide_eq_true (by omega)
mutual
theorem iB : ∀ {d : Dat}, okD d = true → (cO d).canLay0 = true
 | .non, _ => rfl
 | .bl _, _ => rfl
 | .int _, _ => rfl
 | .str z, h => tJ (Bool.and_eq_true_iff.mp h).1
 | .lst ds, h => lay_toPys h
 | .tup ds, h => lay_toPys h
theorem lay_toPys : ∀ {ds : List Dat}, okDs ds = true → PyData.canLayAll0 (toPys ds) = true
  | [], _ => rfl
  | d :: r, h => by
    have h : (okD d && okDs r) = true := h
    rw [Bool.and_eq_true] at h
    show ((cO d).canLay0 && PyData.canLayAll0 (toPys r)) = true
    rw [iB h.1, lay_toPys h.2]; rfl
end
theorem DatWs.len {H : Hp} : ∀ {xs : List V} {ds : List Dat}, DatWs H xs ds → xs.length = ds.length
 | _, _, .nil => rfl
 | _, _, .cons _ r => by rw [List.length_cons, List.length_cons, r.len]
theorem DatWs.get {H : Hp} : ∀ {xs : List V} {ds : List Dat}, DatWs H xs ds → ∀ {i : Nat} {x : V}, xs[i]? = some x → ∃ d, ds[i]? = some d ∧ aP H x d
  | _, _, .nil, i, x, e => by cases e
  | _, _, .cons a r, i, x, e => by
    cases i with
    | zero => cases e; exact ⟨_, rfl, a⟩
    | succ i => exact r.get e
mutual
theorem aP.mono {H H' : Hp} {v : V} {d : Dat} (s : ay H H') (h : aP H v d) : aP H' v d := by
 cases h with
 | non => exact .non
 | bl b => exact .bl b
 | int i => exact .int i
 | str z => exact .str z
 | lst e r => exact .lst (s _ _ e) (DatWs.mono s r)
 | tup e r => exact .tup (s _ _ e) (DatWs.mono s r)
 | dic e => exact .dic (e.imp (fun ⟨k, e⟩ => ⟨k, s _ _ e⟩) fun ⟨k, e⟩ => ⟨k, s _ _ e⟩)
theorem DatWs.mono {H H' : Hp} {xs : List V} {ds : List Dat} (s : ay H H') (h : DatWs H xs ds) : DatWs H' xs ds := by
 cases h with
 | nil => exact .nil
 | cons a r => exact .cons (aP.mono s a) (DatWs.mono s r)
end
theorem qO {K : W.Frag} {H : Hp} {v : V} {d : Dat} {w : Str} {Q : VK} (h : aP H v d) (ok : okD d = true) (dp : (cO d).depth ≤ 150) (hw : PyData.strOk w = true) (q : Q (.bl (!bY w d)) H) : cP K v (.str w) H Q := by
 have ref : ∀ a, v = .ref a → (cO d).eqv (.str w) = false → bY w d = false → cP K v (.str w) H Q := fun a e e1 e2 => by
  subst e
  refine ⟨_, _, h.toV ok, .str w, iB ok, hw, dp, ?_⟩
  rw [e1]; rw [e2] at q; exact q
 cases h with
 | non => exact q
 | bl b => exact q
 | int i => exact q
 | str z => exact q
 | lst e r => exact ref _ rfl rfl rfl
 | tup e r => exact ref _ rfl rfl rfl
 | dic e => cases ok
theorem ixT {K : W.Frag} {H : Hp} {Q : VK} {a : Addr} {xs : List V} {x : V} {i : Int} {j : Nat} (ha : H a = some (.tup xs)) (e : i = j) (hx : xs[j]? = some x) (q : Q x H) : aq K (.ref a) (.int i) H Q := by
 subst e
 refine .inl (.inr (.inl ⟨a, xs, j, x, rfl, rfl, SqT.of ha, ?_, q⟩))
 have hj := (List.getElem?_eq_some_iff.mp hx).1
 rw [ug (by omega) (by omega)]
 simp [List.getD_eq_getElem?_getD, hx]
variable {K : W.Frag} {mg : Str → Option Value} {A : Adr}
theorem CH (K : W.Frag) (A : Adr) : Ln (iQ K A) 1 := by rintro vs H Q E ⟨v, d, rfl, _⟩; rfl
theorem Dy (T : Txt K mg A) (vs : List V) (H : Hp) (Q : VK) (E : XK) (h : iQ K A vs H Q E) : Hr K A { nx := fun _ H' => Q .non H', rt := Q } (dk ["thing"] vs) H := by
 obtain ⟨v, d, rfl, w, q⟩ := h
 refine ⟨by decide, _, w.ty, ?_⟩
 cases d
 case int i => exact Sel.yes rfl ⟨by decide, _, w.ty, q⟩
 case bl b => exact Sel.yes rfl ⟨by decide, _, w.ty, q⟩
 all_goals exact Sel.no rfl q
theorem Di (K : W.Frag) (A : Adr) : Ln (jm K A) 1 := by rintro vs H Q E ⟨v, d, rfl, _⟩; rfl
theorem DG (T : Txt K mg A) (vs : List V) (H : Hp) (Q : VK) (E : XK) (h : jm K A vs H Q E) : GA K A { nx := fun _ H' => Q .non H', rt := Q } (dk ["thing"] vs) H := by
  obtain ⟨v, d, rfl, w, q⟩ := h
  refine ⟨v, d, rfl, w, ?_⟩
  cases w with
  | int i =>
    refine Sel.yes rfl (Sel.dec (fun h0 => ⟨⟨by decide, by decide, by decide⟩, ?_⟩) (fun h0 => ?_))
    · show Q (.bl (decide (i < 10 ^ ((60 : Int).toNat)))) H
      have e : bX (.int i) = decide (i < 10 ^ ((60 : Int).toNat)) := by
        show decide (0 ≤ i ∧ i < 10 ^ 60) = decide (i < 10 ^ 60)
        by_cases h1 : i < 10 ^ 60
        · rw [decide_eq_true h1, decide_eq_true ⟨h0, h1⟩]
        · rw [decide_eq_false h1, decide_eq_false fun z => h1 z.2]
      rw [← e]; exact q
    · have e : bX (.int i) = false := decide_eq_false fun z => h0 z.1
      rw [← e]; exact q
  | non => exact Sel.no rfl ⟨by decide, _, rfl, q⟩
  | bl b => exact Sel.no rfl ⟨by decide, _, rfl, q⟩
  | str z => exact Sel.no rfl ⟨by decide, _, rfl, q⟩
  | lst e r => exact Sel.no rfl ⟨by decide, _, (aP.lst e r).ty, q⟩
  | tup e r => exact Sel.no rfl ⟨by decide, _, (aP.tup e r).ty, q⟩
  | dic e => exact Sel.no rfl ⟨by decide, _, (aP.dic e).ty, q⟩
theorem AO (K : W.Frag) (A : Adr) : Ln (iI K A) 3 := by rintro vs H Q E ⟨b, k, d, rfl, _⟩; rfl
theorem EY (T : Txt K mg A) : Rd (iI K A) (HQ K A) ["bits", "key", "depth"] := by
 intro vs H Q E h
 obtain ⟨b, k, d, rfl, hd, q⟩ := h
 exact ⟨by omega, q⟩
theorem AU (K : W.Frag) (A : Adr) : Ln (iK K A) 2 := by rintro vs H Q E ⟨b, v, d, rfl, _⟩; rfl
theorem Gm (T : Txt K mg A) : Rd (iK K A) (Hc K A) ["bits", "thing"] := by
  intro vs H Q E h
  obtain ⟨b, v, d, rfl, h0, h1, w, q⟩ := h
  refine ⟨v, d, rfl, w, ?_⟩
  cases w with
  | int i =>
    refine Sel.yes rfl (Sel.dec (fun h2 => ⟨⟨h0, by omega, by decide⟩, ?_⟩) (fun h2 => ?_))
    · show Q (.bl (decide (i < 1 * 2 ^ b.toNat))) H
      have e : gQ b (.int i) = decide (i < 1 * 2 ^ b.toNat) := by
        show decide (0 ≤ i ∧ i < 2 ^ b.toNat) = _
        rw [Int.one_mul]
        by_cases h1 : i < 2 ^ b.toNat
        · rw [decide_eq_true h1, decide_eq_true ⟨h2, h1⟩]
        · rw [decide_eq_false h1, decide_eq_false fun z => h1 z.2]
      rw [← e]; exact q
    · have e : gQ b (.int i) = false := decide_eq_false fun z => h2 z.1
      rw [← e]; exact q
  | _ => exact Sel.no rfl q
theorem AD (K : W.Frag) (A : Adr) : Ln (ph K A) 1 := by rintro vs H Q E ⟨v, d, rfl, _⟩; rfl
theorem Es (T : Txt K mg A) : Rd (ph K A) (GZ K A) ["thing"] := by
  intro vs H Q E h
  obtain ⟨v, d, rfl, w, ok, q⟩ := h
  refine ⟨by decide, _, w.ty, ?_⟩
  cases w with
  | str z =>
    have hl := of_decide_eq_true (Bool.and_eq_true_iff.mp ok).2
    refine Sel.yes rfl (.inl ⟨bo (by omega), ?_⟩)
    have e : eQ (.str z) = decide ((z.length : Int) ≤ 60) := by
      show decide (z.length ≤ 60) = _
      by_cases h1 : z.length ≤ 60
      · rw [decide_eq_true h1, decide_eq_true (by omega)]
      · rw [decide_eq_false h1, decide_eq_false (by omega)]
    show Q (.bl (decide ((z.length : Int) ≤ 60))) H
    rw [← e]; exact q
  | _ => exact Sel.no rfl q
theorem jT (b l i : Int) (m : Dat) : bU b l (.tup [.int i, m]) = (decide (l ≤ i ∧ i < b) && bX m) := rfl
theorem Ao (K : W.Frag) (A : Adr) : Ln (oG K A) 3 := by rintro vs H Q E ⟨b, l, v, d, rfl, _⟩; rfl
theorem Fc (T : Txt K mg A) : Rd (oG K A) (GO K A) ["bits", "least", "thing"] := by
  intro vs H Q E h
  obtain ⟨b, l, v, d, rfl, w, q⟩ := h
  refine ⟨by decide, _, w.ty, ?_⟩
  cases w with
  | @tup a xs ds e r =>
    refine Sel.no rfl (.inl (.inr (.inl ⟨_, SqT.of e, ?_⟩)))
    have el := r.len
    refine Sel.ndec (fun hne => ?_) (fun he => ?_)
    · have e2 : bU b l (.tup ds) = false := by
        unfold bU
        split
        · rename_i heq; cases heq; simp at el; omega
        · rfl
      show Q (.bl false) H
      rw [← e2]; exact q
    · cases r with
      | nil => simp at he
      | cons w0 r =>
        cases r with
        | nil => simp at he
        | cons w1 r =>
          cases r with
          | cons _ _ => simp at he; omega
          | nil =>
            refine ixT (j := 0) e rfl rfl ⟨_, _, rfl, w0, ?_⟩
            cases w0 with
            | int i =>
              refine Sel.yes rfl (ixT (j := 0) e rfl rfl (Sel.dec (fun h1 => ?_) (fun h1 => ?_)))
              · refine Sel.dec (fun h2 => ?_) (fun h2 => ?_)
                · refine ixT (j := 1) e rfl rfl ⟨_, _, rfl, w1, ?_⟩
                  rw [jT, decide_eq_true ⟨h1, h2⟩] at q; exact q
                · rw [jT, decide_eq_false (fun z => h2 z.2)] at q; exact q
              · rw [jT, decide_eq_false (fun z => h1 z.1)] at q; exact Sel.no rfl q
            | _ => exact Sel.no rfl q
  | _ => exact Sel.yes rfl (Sel.t q)
end Rs
namespace Rs
open PySem PySem.Spec PyProof.Rows L2
theorem iq {b l : Int} {d : Dat} (h : bU b l d = true) : ∃ i m, d = .tup [.int i, m] := by
 unfold bU at h
 split at h
 · exact ⟨_, _, rfl⟩
 · cases h
theorem tu {d : Dat} {ds : List Dat} (hm : d ∈ ds) : (cO d).depth ≤ PyData.depthAll (toPys ds) := by
  induction ds with
  | nil => cases hm
  | cons x r ih =>
    show _ ≤ max (cO x).depth (PyData.depthAll (toPys r))
    rcases List.mem_cons.mp hm with rfl | hm
    · omega
    · have := ih hm; omega
theorem pJ {d : Dat} {ds : List Dat} (h : okDs ds = true) (hm : d ∈ ds) : okD d = true := by
  induction ds with
  | nil => cases hm
  | cons x r ih =>
    have h : (okD x && okDs r) = true := h
    rw [Bool.and_eq_true] at h
    rcases List.mem_cons.mp hm with rfl | hm
    · exact h.1
    · exact ih h.2 hm
theorem gL.tup {ds : List Dat} (h : gL (.tup ds)) : okDs ds = true ∧ PyData.depthAll (toPys ds) ≤ 139 := by
 rcases h with ⟨h1, h2⟩ | h
 · exact ⟨h1, by have h2 : PyData.depthAll (toPys ds) + 1 ≤ 140 := h2; omega⟩
 · cases h
theorem ng {K : W.Frag} {H : Hp} {v : V} {d : Dat} {p : Addr} {Q : VK} (w : aP H v d) (ok : gL d) (hp : H p = some (.tup [.str "bare"])) (q : Q (.bl (jd d)) H) : be K v (.ref p) H Q := by
  have dv : eE K H (.ref p) (.tuple [.str "bare"]) := .tup (SqT.of hp) (.cons (.str _) .nil)
  have lv : (PyData.tuple [.str "bare"]).canLay0 = true := by decide +kernel
  rcases ok with ⟨ok, dp⟩ | rfl
  · have hd : ∀ e : (cO d).eqv (.tuple [.str "bare"]) = jd d, pR K v (.ref p) H Q := fun e => ⟨_, _, w.toV ok, dv, iB ok, lv, by omega, by rw [e]; exact q⟩
    cases w with
    | non => exact hd rfl
    | bl b => exact hd rfl
    | int i => exact hd rfl
    | str z => exact hd rfl
    | lst e r => exact .inr (.inl (hd rfl))
    | @tup a xs ds e r =>
      refine .inr (.inl (hd ?_))
      clear hd r ok dp q
      cases ds with
      | nil => rfl
      | cons x rs =>
        cases rs with
        | nil =>
          show ((cO x).eqv (.str "bare") && true) = bY "bare" x
          rw [Bool.and_true]
          cases x with
          | str z =>
            show (z == ("bare" : Str)) = decide (z = "bare")
            by_cases h : z = "bare" <;> simp [h]
          | _ => rfl
        | cons y rs =>
          show ((cO x).eqv (.str "bare") && false) = false
          rw [Bool.and_false]
    | dic e => cases ok
  · cases w with
    | dic e => exact .inr (.inr ⟨_, p, _, rfl, rfl, e, SqT.of hp, q⟩)
variable {K : W.Frag} {mg : Str → Option Value} {A : Adr}
theorem Dq (K : W.Frag) (A : Adr) : Ln (oW K A) 2 := by rintro vs H Q E ⟨b, v, d, rfl, _⟩; rfl
theorem DJ (T : Txt K mg A) : Rd (oW K A) (Hz K A) ["bits", "thing", "least", "step"] := by
  intro vs H Q E h
  obtain ⟨b, v, d, rfl, w, q⟩ := h
  refine ⟨by decide, _, w.ty, ?_⟩
  cases w with
  | @tup a xs ds e r =>
    have q : Q (.bl (bu b 0 ds)) H := q
    refine Sel.no rfl ⟨a, rfl, .inr ⟨⟨_, SqT.of e⟩, ?_⟩⟩
    have el := r.len
    refine zj (xs := xs) (fun i σ H' => H' = H ∧ ∃ l x3, σ = [some (.int b), some (.ref a), some (.int l), x3] ∧ bu b 0 ds = bu b l (ds.drop i)) ⟨rfl, 0, none, rfl, rfl⟩ ?_ ?_ ?_
    · rintro i σ _ _ ⟨rfl, _⟩; exact SqT.of e
    · rintro i x σ _ hx ⟨rfl, l, x3, rfl, eq⟩
      obtain ⟨d, hd, wx⟩ := r.get hx
      have hi : i < ds.length := (List.getElem?_eq_some_iff.mp hd).1
      have dr : ds.drop i = d :: ds.drop (i + 1) := by
        rw [List.drop_eq_getElem_cons hi]
        rw [List.getElem?_eq_getElem hi] at hd; rw [Option.some.inj hd]
      rw [dr] at eq
      have eq : bu b 0 ds = (bU b l d && bu b (eu d + 1) (ds.drop (i + 1))) := eq
      refine ⟨b, l, x, d, rfl, wx, Sel.mk (fun hf => ?_) (fun ht => ?_)⟩
      · have hf : bU b l d = false := by simpa using hf
        rw [hf] at eq
        rw [eq] at q; exact q
      · have ht : bU b l d = true := by simpa using ht
        obtain ⟨i0, m, rfl⟩ := iq ht
        cases wx with
        | tup ex rx =>
          cases rx with
          | cons w0 rx =>
            cases w0
            refine ixT (j := 0) ex rfl rfl ⟨rfl, _, _, rfl, ?_⟩
            rw [ht] at eq; exact eq
    · rintro σ _ ⟨rfl, l, x3, rfl, eq⟩
      rw [List.drop_eq_nil_of_le (by omega)] at eq
      rw [eq] at q; exact q
  | _ => exact Sel.yes rfl q
theorem Bz (K : W.Frag) (A : Adr) : Ln (kP K A) 4 := by rintro vs H Q E ⟨b, p, g, v, d, rfl, _⟩; rfl
theorem DT (T : Txt K mg A) : Rd (kP K A) (Iv K A) ["bits", "depth", "begin", "thing"] := by
  intro vs H Q E h
  obtain ⟨b, p, g, v, d, rfl, b0, b60, hp, w, ok, q⟩ := h
  refine ⟨by decide, _, w.ty, ?_⟩
  cases w with
  | @tup a xs ds e r =>
    obtain ⟨ok, dp⟩ := ok.tup
    have el := r.len
    refine Sel.no rfl (.inl (.inr (.inl ⟨_, SqT.of e, Sel.ndec (fun ne => Sel.t ?_) (fun he => ?_)⟩)))
    · have e2 : eW b p g (.tup ds) = false := by
        unfold eW
        split
        · rename_i heq; cases heq; simp at el; omega
        · rfl
      rw [e2] at q; exact q
    · cases r with
      | nil => simp at he
      | @cons x0 _ d0 _ w0 r =>
      cases r with
      | nil => simp at he
      | @cons x1 _ d1 _ w1 r =>
      cases r with
      | nil => simp at he
      | @cons x2 _ d2 _ w2 r =>
      cases r with
      | cons _ _ => simp at he; omega
      | nil =>
      have o0 := pJ ok (d := d0) (by simp)
      have p0 := tu (d := d0) (ds := [d0, d1, d2]) (by simp)
      have o2 := pJ ok (d := d2) (by simp)
      refine ixT (j := 0) e rfl rfl (qO w0 o0 (by omega) (by decide +kernel) (Sel.mk (fun hn => ?_) (fun hy => ?_)))
      · have hn : bY "leaf" d0 = false := by simpa using hn
        have e2 : eW b p g (.tup [d0, d1, d2]) = false := by
          cases d1 <;> first | rfl | (show (bY "leaf" d0 && _ && _ && _) = false; rw [hn]; rfl)
        rw [e2] at q; exact q
      · have hy : bY "leaf" d0 = true := by simpa using hy
        refine ixT (j := 1) e rfl rfl ⟨b, x1, d1, rfl, b0, b60, w1, ?_⟩
        cases w1 with
        | int k =>
          have e2 : eW b p g (.tup [d0, .int k, d2]) = (decide (0 ≤ k ∧ k < 2 ^ b.toNat) && eQ d2 && decide (aw b k p = g)) := by
            show (bY "leaf" d0 && _ && _ && _) = _
            rw [hy]; simp
          rw [e2] at q
          refine Sel.mk (fun hk => Sel.t ?_) (fun hk => ?_)
          · have hk : gQ b (.int k) = false := by simpa only [Bool.not_eq_true'] using hk
            have hk : decide (0 ≤ k ∧ k < 2 ^ b.toNat) = false := hk
            rw [hk] at q; exact q
          · have hk : gQ b (.int k) = true := by simpa only [Bool.not_eq_false'] using hk
            have hk : decide (0 ≤ k ∧ k < 2 ^ b.toNat) = true := hk
            rw [hk, Bool.true_and] at q
            refine ixT (j := 2) e rfl rfl ⟨x2, d2, rfl, w2, o2, ?_⟩
            refine Sel.mk (fun hv => ?_) (fun hv => ?_)
            · have hv : eQ d2 = false := by simpa using hv
              rw [hv] at q; exact q
            · have hv : eQ d2 = true := by simpa using hv
              rw [hv, Bool.true_and] at q
              exact ixT (j := 1) e rfl rfl ⟨b, k, p, rfl, hp, q⟩
        | _ => exact Sel.t (Sel.t q)
  | _ => exact Sel.yes rfl (Sel.t q)
theorem Bd (K : W.Frag) (A : Adr) : Ln (kC K A) 4 := by rintro vs H Q E ⟨b, p, g, v, d, rfl, _⟩; rfl
theorem Gi (T : Txt K mg A) : Rd (kC K A) (Ip K A) ["bits", "depth", "begin", "thing"] := by
  intro vs H Q E h
  obtain ⟨b, p, g, v, d, rfl, p0, b60, hp, w, ok, q⟩ := h
  refine ⟨by decide, _, w.ty, ?_⟩
  cases w with
  | @tup a xs ds e r =>
    obtain ⟨ok, dp⟩ := ok.tup
    have el := r.len
    refine Sel.no rfl (.inl (.inr (.inl ⟨_, SqT.of e, Sel.ndec (fun ne => Sel.t ?_) (fun he => ?_)⟩)))
    · have e2 : da b p g (.tup ds) = false := by
        unfold da
        split
        · rename_i heq; cases heq; simp at el; omega
        · rfl
      rw [e2] at q; exact q
    · cases r with
      | nil => simp at he
      | @cons x0 _ d0 _ w0 r =>
      cases r with
      | nil => simp at he
      | @cons x1 _ d1 _ w1 r =>
      cases r with
      | nil => simp at he
      | @cons x2 _ d2 _ w2 r =>
      cases r with
      | nil => simp at he
      | @cons x3 _ d3 _ w3 r =>
      cases r with
      | nil => simp at he
      | @cons x4 _ d4 _ w4 r =>
      cases r with
      | cons _ _ => simp at he; omega
      | nil =>
      have o0 := pJ ok (d := d0) (by simp)
      have pp := tu (d := d0) (ds := [d0, d1, d2, d3, d4]) (by simp)
      refine ixT (j := 0) e rfl rfl (qO w0 o0 (by omega) (by decide +kernel) (Sel.mk (fun hn => ?_) (fun hy => ?_)))
      · have hn : bY "fork" d0 = false := by simpa using hn
        have e2 : da b p g (.tup [d0, d1, d2, d3, d4]) = false := by
          cases d1 <;> first | rfl | (cases d2 <;> first | rfl | (show (bY "fork" d0 && _ && _ && _) = false; rw [hn]; rfl))
        rw [e2] at q; exact q
      · have hy : bY "fork" d0 = true := by simpa using hy
        refine ixT (j := 1) e rfl rfl ⟨x1, d1, rfl, w1, ?_⟩
        cases w1 with
        | int ee =>
          refine Sel.no rfl (ixT (j := 1) e rfl rfl ?_)
          have bad : decide (p ≤ ee ∧ ee < b) = false → da b p g (.tup [d0, .int ee, d2, d3, d4]) = false := fun z => by
            cases d2 <;> first | rfl | (show (bY "fork" d0 && _ && _ && _) = false; rw [z]; simp)
          refine Sel.dec (fun h1 => Sel.ndec (fun h2 => ?_) (fun h2 => ?_)) (fun h1 => ?_)
          · rw [bad (decide_eq_false fun z => h2 z.2)] at q; exact q
          · refine ixT (j := 2) e rfl rfl ⟨x2, d2, rfl, w2, ?_⟩
            cases w2 with
            | int bb =>
              have e2 : da b p g (.tup [d0, .int ee, .int bb, d3, d4]) = (decide (0 ≤ bb ∧ bb < 2 ^ ee.toNat) && decide (bb / 2 ^ (ee - p).toNat = g)) := by
                show (bY "fork" d0 && decide (p ≤ ee ∧ ee < b) && _ && _) = _
                rw [hy, decide_eq_true ⟨h1, h2⟩]; simp
              rw [e2] at q
              refine Sel.no rfl (ixT (j := 2) e rfl rfl ?_)
              refine Sel.dec (fun h3 => ixT (j := 1) e rfl rfl ⟨⟨by omega, by omega, by decide⟩, Sel.mk (fun h4 => ?_) (fun h4 => ?_)⟩) (fun h3 => ?_)
              · rw [Int.one_mul] at h4
                have h4 : ¬ bb < 2 ^ ee.toNat := by simpa using h4
                rw [decide_eq_false (fun z => h4 z.2)] at q; exact q
              · rw [Int.one_mul] at h4
                have h4 : bb < 2 ^ ee.toNat := by simpa using h4
                rw [decide_eq_true ⟨h3, h4⟩, Bool.true_and] at q
                exact ixT (j := 2) e rfl rfl (ixT (j := 1) e rfl rfl ⟨by omega, q⟩)
              · rw [decide_eq_false (fun z => h3 z.1)] at q; exact Sel.yes rfl q
            | _ => exact Sel.yes rfl (Sel.t q)
          · rw [bad (decide_eq_false fun z => h1 z.1)] at q; exact Sel.yes rfl q
        | _ => exact Sel.yes rfl (Sel.t q)
  | _ => exact Sel.yes rfl (Sel.t q)
end Rs
namespace Rs
open PySem PySem.Spec PyProof.Rows L2
theorem pQ {b p g : Int} {d : Dat} (h : da b p g d = true) : ∃ w e bb m n, d = .tup [w, .int e, .int bb, m, n] ∧ p ≤ e ∧ e < b := by
 unfold da at h
 split at h
 · rename_i w e bb m n
   simp only [Bool.and_eq_true, decide_eq_true_eq] at h
   exact ⟨w, e, bb, m, n, rfl, h.1.1.2.1, h.1.1.2.2⟩
 · cases h
variable {K : W.Frag} {mg : Str → Option Value} {A : Adr}
theorem Ab (K : W.Frag) (A : Adr) : Ln (pF K A) 4 := by rintro vs H Q E ⟨b, k, p, v, d, rfl, _⟩; rfl
theorem EA (T : Txt K mg A) : Rd (pF K A) (Hv K A) ["bits", "key", "place", "thing", "begin"] := by
 intro vs H Q E h
 obtain ⟨b, k, p, v, d, rfl, p0, b60, hp, w, ok, q⟩ := h
 refine ⟨bo (n := 1) (by decide), fun r hr => ?_⟩
 have S := ay.upd (o := .tup [V.str "bare"]) hr
 have q := q _ S
 have w := w.mono S
 refine ng w ok am ?_
 generalize upd H r (.tup [V.str "bare"]) = H1 at w q ⊢
 unfold eN at q
 refine Sel.mk (fun hb => ?_) (fun hb => ?_)
 · rw [hb, if_pos rfl] at q; exact q
 · rw [hb] at q
   have q : Q (.bl (eW b p (aw b k p) d || (da b p (aw b k p) d && ye b k d))) H1 := q
   refine ⟨b, k, p, rfl, hp, b, p, aw b k p, v, d, rfl, by omega, b60, hp, w, ok, ?_⟩
   refine Sel.mk (fun hl => ?_) (fun hl => ?_)
   · rw [hl, Bool.true_or] at q; exact q
   · rw [hl, Bool.false_or] at q
     refine ⟨b, p, aw b k p, v, d, rfl, p0, b60, hp, w, ok, ?_⟩
     refine Sel.mk (fun hf => ?_) (fun hf => ?_)
     · have hf : da b p (aw b k p) d = false := by simpa only [Bool.not_eq_true'] using hf
       rw [hf, Bool.false_and] at q; exact q
     · have hf : da b p (aw b k p) d = true := by simpa only [Bool.not_eq_false'] using hf
       rw [hf, Bool.true_and] at q
       obtain ⟨w0, e, bb, m, n, rfl, h1, h2⟩ := pQ hf
       have q : Q (.bl (!decide (bb = aw b k e) && bX m && bX n)) H1 := q
       cases w with
       | tup ea r =>
       cases r with
       | cons _ r =>
       cases r with
       | cons z1 r =>
       cases r with
       | cons z2 r =>
       cases r with
       | cons z3 r =>
       cases r with
       | cons z4 r =>
       cases r
       cases z1
       cases z2
       refine ixT (j := 2) ea rfl rfl (ixT (j := 1) ea rfl rfl ⟨b, k, e, rfl, by omega, ?_⟩)
       refine Sel.dec (fun he => ?_) (fun he => ?_)
       · rw [decide_eq_true he] at q; exact q
       · rw [decide_eq_false he] at q
         refine ixT (j := 3) ea rfl rfl ⟨_, _, rfl, z3, Sel.mk (fun hm => ?_) (fun hm => ?_)⟩
         · rw [hm] at q
           exact ixT (j := 4) ea rfl rfl ⟨_, _, rfl, z4, q⟩
         · rw [hm] at q; exact q
theorem jJ {b : Int} : ∀ {ds : List Dat} {l : Int}, 0 ≤ l → bu b l ds = true → ∀ {s}, ds.getLast? = some s → ∃ i m, s = .tup [.int i, m] ∧ 0 ≤ i ∧ i < b
  | [], l, _, _, s, e => by cases e
  | x :: r, l, hl, h, s, e => by
    have h : (bU b l x && bu b (eu x + 1) r) = true := h
    rw [Bool.and_eq_true] at h
    obtain ⟨i, m, rfl⟩ := iq h.1
    have hi : (decide (l ≤ i ∧ i < b) && bX m) = true := h.1
    rw [Bool.and_eq_true, decide_eq_true_eq] at hi
    cases r with
    | nil =>
      cases e
      exact ⟨i, m, rfl, by omega, hi.1.2⟩
    | cons y r =>
      rw [List.getLast?_cons_cons] at e
      exact jJ (l := i + 1) (by omega) h.2 e
theorem BJ (K : W.Frag) (A : Adr) : Ln (oQ K A) 3 := by rintro vs H Q E ⟨b, k, v, d, rfl, _⟩; rfl
theorem El (T : Txt K mg A) : Rd (oQ K A) (GC K A) ["bits", "key", "thing", "place"] := by
  intro vs H Q E h
  obtain ⟨b, k, v, d, rfl, b0, b60, w, ok, q⟩ := h
  have q0 := q H (.refl H)
  refine ⟨by decide, _, w.ty, ?_⟩
  cases w with
  | @tup a xs ds e r =>
    have el := r.len
    refine Sel.no rfl (.inl (.inr (.inl ⟨_, SqT.of e, Sel.ndec (fun ne => ?_) (fun he => ?_)⟩)))
    · have e2 : kI b k (.tup ds) = false := by
        unfold kI
        split
        · rename_i heq; cases heq; simp at el; omega
        · rfl
      rw [e2] at q0; exact q0
    · cases r with
      | nil => simp at he
      | @cons x0 _ d0 _ w0 r =>
      cases r with
      | nil => simp at he
      | @cons x1 _ d1 _ w1 r =>
      cases r with
      | cons _ _ => simp at he; omega
      | nil =>
      have ok : gL d1 := ok
      refine ixT (j := 0) e rfl rfl ⟨b, x0, d0, rfl, w0, ?_⟩
      cases w0 with
      | @tup a0 ys es e0 r0 =>
        have q : ∀ H', ay H H' → Q (.bl (bu b 0 es && eN b k (jf es) d1)) H' := q
        refine Sel.mk (fun hs => ?_) (fun hs => ?_)
        · have hs : bu b 0 es = false := by simpa only [Bool.not_eq_true'] using hs
          have q := q H (.refl H)
          rw [hs] at q; exact q
        · have hs : bu b 0 es = true := by simpa only [Bool.not_eq_false'] using hs
          rw [hs] at q
          refine ixT (j := 0) e rfl rfl ⟨!ys.isEmpty, .inr (.inl ⟨ys, SqT.of e0, rfl⟩), ?_⟩
          have l0 := r0.len
          cases ys with
          | nil =>
            cases r0
            exact Sel.no rfl (ixT (j := 1) e rfl rfl ⟨b, k, 0, x1, d1, rfl, by decide, b60, b0, w1, ok, q⟩)
          | cons y yr =>
            obtain ⟨s, hsl⟩ : ∃ s, es.getLast? = some s := by
              cases es with
              | nil => simp at l0
              | cons z zr => exact ⟨_, List.getLast?_eq_some_getLast (by simp)⟩
            obtain ⟨i, m, rfl, i0, i1⟩ := jJ (Int.le_refl 0) hs hsl
            have hlast : es[es.length - 1]? = some (.tup [.int i, m]) := by rw [← List.getLast?_eq_getElem?]; exact hsl
            have hpl : jf es = i + 1 := by unfold jf; rw [hsl]; rfl
            have hpos : 0 < (y :: yr).length := by simp
            obtain ⟨v', hv'⟩ : ∃ v', (y :: yr)[(y :: yr).length - 1]? = some v' := ⟨_, List.getElem?_eq_getElem (by omega)⟩
            obtain ⟨d', hd', wd'⟩ := r0.get hv'
            rw [l0] at hd'
            rw [hlast] at hd'; cases hd'
            refine Sel.yes rfl (ixT (j := 0) e rfl rfl ?_)
            refine .inl (.inr (.inl ⟨a0, y :: yr, -1, v', rfl, rfl, SqT.of e0, ?_, ?_⟩))
            · unfold atI ixN
              rw [if_neg (by decide), if_pos (by simp; omega)]
              show (y :: yr)[(-1 + ((y :: yr).length : Int)).toNat]? = _
              have : (-1 + ((y :: yr).length : Int)).toNat = (y :: yr).length - 1 := by omega
              rw [this]; exact hv'
            · cases wd' with
              | tup ee rr =>
                cases rr with
                | cons z0 rr =>
                  cases z0
                  refine ixT (j := 0) ee rfl rfl (ixT (j := 1) e rfl rfl ⟨b, k, i + 1, x1, d1, rfl, by omega, b60, by omega, w1, ok, ?_⟩)
                  rw [hpl] at q
                  exact q
      | _ => exact Sel.t q0
  | _ => exact Sel.yes rfl (Sel.t q0)
end Rs
namespace Rs
open PySem PySem.Spec PyProof.Rows L2
theorem uU {x : Int} (h : x.natAbs < 2 ^ 64) : Builtin.Int.intBits x ≤ 64 := by
 unfold Builtin.Int.intBits
 split
 · decide
 · rename_i hx
   have hx : x ≠ 0 := by simpa using hx
   have : x.natAbs.log2 < 64 := (Nat.log2_lt (by omega)).mpr h
   omega
theorem jo {x y : Int} (h0 : 0 ≤ x) (h : x < 2 ^ 64) : IntMulOk x y := IntMulOk.of_left (uU (by omega))
theorem gH {x y : Int} (h0 : 0 ≤ y) (h : y < 2 ^ 64) : IntMulOk x y := IntMulOk.of_right (uU (by omega))
variable {K : W.Frag} {mg : Str → Option Value} {A : Adr}
theorem DK (K : W.Frag) (A : Adr) : Ln (dX K A) 2 := by rintro vs H Q E ⟨a, ns, k, rfl, _⟩; rfl
theorem Iq (T : Txt K mg A) : Rd (dX K A) (T_0 K A) ["_law_script", "_law_k", "_law_number_here", "_law_cell"] := by
 intro vs H Q E h
 obtain ⟨a, ns, k, rfl, hs, h0, q⟩ := h
 refine .inl (.inl ⟨_, hs, Sel.dec (fun h => ?_) (fun h => ?_)⟩)
 · obtain ⟨v, hv⟩ := uk h0 h
   obtain ⟨j, _, hj, _⟩ := iY hv
   obtain ⟨z, _, rfl⟩ := kE hj
   exact .inl (.inl ⟨a, _, k, _, rfl, rfl, hs, hv, q z H (.refl H)⟩)
 · obtain ⟨zs, ez, hz⟩ := nQ ns none (some 5)
   refine .inl (.inl ⟨_, hs, 5, rfl, .inl (.inl ⟨a, _, rfl, hs, fun p hp => ?_⟩)⟩)
   rw [ez]
   refine ⟨p, rfl, .inl ⟨⟨_, SqL.of am⟩, ?_⟩⟩
   refine jy (xs := zs.map V.int) (fun i σ H' => H' = upd H p (.lst (zs.map V.int)) ∧ ∃ n x3, σ = [some (.ref a), some (.int k), some (.int n), x3]) ⟨rfl, _, none, rfl⟩ ?_ ?_ ?_
   · rintro i σ _ _ ⟨rfl, _⟩; exact SqL.of am
   · rintro i x σ _ hx ⟨rfl, n, x3, rfl⟩
     obtain ⟨z, _, rfl⟩ := kE hx
     exact ⟨gH (by decide) (by decide), by decide, rfl, _, _, rfl⟩
   · rintro σ _ ⟨rfl, n, x3, rfl⟩
     refine ⟨IntMulOk.of_left (by decide), by decide, ?_⟩
     have b0 : 0 ≤ (n + 7919 * k) % 1000003 := by omega
     have b1 : (n + 7919 * k) % 1000003 < 1000003 := by omega
     exact ⟨jo b0 (by omega), by decide, q _ _ (ay.upd hp)⟩
theorem EB (K : W.Frag) (A : Adr) : Ln (sf K A) 1 := by rintro vs H Q E ⟨c, rfl, _⟩; rfl
theorem Hy (T : Txt K mg A) : Rd (sf K A) (T_2 K A) ["_law_cell"] := by
 intro vs H Q E h
 obtain ⟨c, rfl, q⟩ := h
 refine ⟨⟨by decide, by decide⟩, bo (n := 3) (by decide), fun p hp => ⟨by decide, ?_⟩⟩
 have hc : c % 3 = 0 ∨ c % 3 = 1 ∨ c % 3 = 2 := by omega
 have S := ay.upd (o := .lst [V.int 60, .int 8, .int 60]) hp
 rcases hc with e | e | e <;> rw [e]
 · exact ixL (j := 0) am rfl rfl ⟨by decide, q _ _ S (by omega) (by omega)⟩
 · exact ixL (j := 1) am rfl rfl ⟨by decide, q _ _ S (by omega) (by omega)⟩
 · exact ixL (j := 2) am rfl rfl ⟨by decide, q _ _ S (by omega) (by omega)⟩
theorem zY {x : Int} {j m : Nat} (x0 : 0 ≤ x) (hm : j < m) (x1 : x < 2 ^ m) : 0 ≤ Builtin.bitXor x (1 * 2 ^ j) ∧ Builtin.bitXor x (1 * 2 ^ j) < 2 ^ m := by
 obtain ⟨y, rfl⟩ := Int.eq_ofNat_of_zero_le x0
 have e : (1 : Int) * 2 ^ j = ((2 ^ j : Nat) : Int) := by rw [Int.one_mul, mH]
 rw [e, sJ, ← mH]
 refine ⟨by omega, ?_⟩
 have y1 : y < 2 ^ m := by rw [← mH] at x1; exact_mod_cast x1
 have := Nat.xor_lt_two_pow (n := m) y1 (Nat.pow_lt_pow_right (by decide : 1 < 2) hm)
 exact_mod_cast this
theorem FB (K : W.Frag) (A : Adr) : Ln (lh K A) 3 := by rintro vs H Q E ⟨b, c, o, ks, rfl, _⟩; rfl
theorem HG (T : Txt K mg A) : Rd (lh K A) (T_6 K A) ["_law_bits_here", "_law_cell", "_law_others", "_law_many", "_law_number_here", "_law_flip"] := by
  intro vs H Q E h
  obtain ⟨b, c, o, ks, rfl, b1, b60, ho, kl, kk, q⟩ := h
  have hp : (0 : Int) < 1 * 2 ^ b.toNat := by rw [Int.one_mul]; exact ck _
  have e1 : (1 : Int) * 2 ^ b.toNat = 2 ^ b.toNat := Int.one_mul _
  have fin : ∀ (n : Int) (H' : Hp), ay H H' → Q (.int (n % (1 * 2 ^ b.toNat))) H' := fun n H' s => q _ _ s (Int.emod_nonneg _ (Int.ne_of_gt hp)) (Int.lt_of_lt_of_le (Int.emod_lt_of_pos _ hp) (Int.le_of_eq e1))
  refine ⟨⟨by omega, by omega, by decide⟩, ⟨by decide, by decide⟩, by decide, Sel.dec (fun h => ?_) (fun h => ?_)⟩
  · exact ⟨hp, fin _ H (.refl H)⟩
  refine ⟨by decide, Sel.dec (fun h1 => ?_) (fun h1 => ?_)⟩
  · have h2 := Int.emod_nonneg (c / 5) (b := 1 * 2 ^ b.toNat) (by omega)
    have h3 := Int.emod_lt_of_pos (c / 5) hp
    exact ⟨hp, q _ _ (.refl H) (by omega) (Int.lt_of_lt_of_le (b := 1 * 2 ^ b.toNat) (by omega) (Int.le_of_eq e1))⟩
  refine ⟨by decide, Sel.dec (fun h2 => ?_) (fun h2 => Sel.f ?_)⟩
  · refine ⟨bo (n := 0) (by decide), fun p hp' => ⟨_, _, .lst (SqL.of (ay.upd hp' _ _ ho)) (mB ks), .lst (SqL.of am) .nil, lc ks, rfl, sw ks, ?_⟩⟩
    cases ks with
    | nil => exact Sel.no rfl ⟨gH (by decide) (by decide), hp, fin _ _ (ay.upd hp')⟩
    | cons x xr =>
      cases xr with
      | cons y yr => simp at kl
      | nil =>
      refine Sel.yes rfl ⟨gH (by decide) (by decide), by decide, by omega, .inl (.inl ⟨_, SqL.of (ay.upd hp' _ _ ho), by simp, ?_⟩)⟩
      have hx := kk x List.mem_cons_self
      have r0 := Int.emod_nonneg (c / 5 * 48271 % 65537) (b := b) (by omega)
      have r1 := Int.emod_lt_of_pos (c / 5 * 48271 % 65537) (b := b) (by omega)
      have fl := zY (j := (c / 5 * 48271 % 65537 % b).toNat) hx.1 (by omega) hx.2
      refine ixL (j := 0) (ay.upd hp' _ _ ho) ?_ rfl ⟨⟨by omega, by omega, by decide⟩, q _ _ (ay.upd hp') fl.1 fl.2⟩
      show c / 5 % 1 = 0
      omega
  · exact ⟨gH (by decide) (by decide), hp, fin _ H (.refl H)⟩
theorem Fo (K : W.Frag) (A : Adr) : Ln (sv K A) 1 := by rintro vs H Q E ⟨c, rfl, _⟩; rfl
theorem FG : ∀ n : Fin 50, okD (.str (("m" : Str) ++ Str.ofString (toString (((n : Nat) : Int))))) = true ∧ (Str.ofString (toString (((n : Nat) : Int)))).length ≤ 2 ∧ szK (.inr (("m" : Str) ++ Str.ofString (toString (((n : Nat) : Int))))) ≤ 1062 := by decide +kernel
theorem qD {i : Int} (h0 : 0 ≤ i) (h1 : i < 10 ^ 60) : mx (.inl i) := ⟨decide_eq_true ⟨h0, h1⟩, rfl, by show 62 ≤ 1062; decide⟩
theorem GQ (T : Txt K mg A) : Rd (sv K A) (T_8 K A) ["_law_number_here"] := by
 intro vs H Q E h
 obtain ⟨c, rfl, q⟩ := h
 refine ⟨gH (by decide) (by decide), by decide, ?_⟩
 have n0 : 0 ≤ c * 69621 % 1000003 := by omega
 have n1 : c * 69621 % 1000003 < 1000003 := by omega
 show ao _ _ _ [some (V.int (c * 69621 % 1000003))] H
 generalize c * 69621 % 1000003 = n at n0 n1 ⊢
 have big : (1000003 : Int) * 10 ^ 30 < 10 ^ 60 := by decide +kernel
 have p30 : (0 : Int) < 10 ^ 30 := by decide +kernel
 have p60 : (1000003 : Int) < 10 ^ 60 := by decide +kernel
 refine ⟨by decide, Sel.dec (fun h => ?_) (fun h => ?_)⟩
 · have l0 : 0 ≤ n % 50 := by omega
   have l1 : n % 50 < 50 := by omega
   obtain ⟨j, hj⟩ := Int.eq_ofNat_of_zero_le l0
   obtain ⟨s1, s2, s3⟩ := FG ⟨j, by omega⟩
   have s1 : okD (.str (("m" : Str) ++ Str.ofString (toString ((j : Nat) : Int)))) = true := s1
   have s2 : (Str.ofString (toString ((j : Nat) : Int))).length ≤ 2 := s2
   refine ⟨by decide, ?_⟩
   rw [hj]
   exact ⟨Nat.lt_of_le_of_lt (Nat.log2_le_self _) (by omega), Nat.le_trans (Nat.add_le_add (Nat.le_refl 1) s2) (bo (by decide)), q (.inr _) ⟨rfl, s1, s3⟩⟩
 refine ⟨by decide, Sel.dec (fun h1 => ?_) (fun h1 => ?_)⟩
 · exact ⟨⟨by decide, by decide⟩, by decide, q (.inl _) (qD (by omega) (by omega))⟩
 refine ⟨by decide, Sel.dec (fun h2 => ?_) (fun h2 => ?_)⟩
 · refine ⟨⟨by decide, by decide, by decide⟩, jo n0 (by omega), q (.inl _) (qD ?_ ?_)⟩
   · exact Int.mul_nonneg n0 (Int.le_of_lt p30)
   · have : n * 10 ^ 30 < 1000003 * 10 ^ 30 := Int.mul_lt_mul_of_pos_right n1 p30
     show n * 10 ^ 30 < 10 ^ 60
     omega
 · refine ⟨⟨by decide, by decide, by decide⟩, q (.inl _) (qD ?_ ?_)⟩
   · show 0 ≤ (10 : Int) ^ 60 - 1 - n
     omega
   · show (10 : Int) ^ 60 - 1 - n < 10 ^ 60
     omega
end Rs
namespace Rs
open PySem PySem.Spec PyProof.Rows L2
theorem jZ {a b : Int} (h0 : 0 ≤ a) (h : a ≤ b) : (2 : Int) ^ b.toNat = 2 ^ a.toNat * 2 ^ (b - a).toNat := by
 rw [← Int.pow_add]
 congr 1
 omega
theorem ie {x y z : Int} (hy : 0 < y) : x / y / z = x / (y * z) := by
 rw [Int.ediv_ediv, if_neg (by omega), Int.sub_zero]
theorem uM {b k e : Int} (e0 : 0 ≤ e) (h : e ≤ b) (hk : k < 2 ^ b.toNat) : aw b k e < 2 ^ e.toNat := by
 unfold aw
 refine Int.ediv_lt_of_lt_mul (ck _) ?_
 rw [← jZ e0 h]; exact hk
theorem tF {b k e : Int} (k0 : 0 ≤ k) : 0 ≤ aw b k e := Int.ediv_nonneg k0 (Int.le_of_lt (ck _))
theorem gt {b k e l : Int} (h1 : l ≤ e) (h2 : e ≤ b) : aw b k e / 2 ^ (e - l).toNat = aw b k l := by
 unfold aw
 rw [ie (ck _), ← Int.pow_add]
 congr 2
 omega
theorem uL {x y : Str} (h1 : fB x = true) (h2 : fB y = true) : fB (x ++ y) = true := by
 unfold fB at h1 h2 ⊢
 show (x.cps ++ y.cps).all _ = true
 rw [Array.all_append, h1, h2]; rfl
theorem kc (H : Hp) (m : Key) : aP H (kV m) (bc m) := by cases m <;> constructor
theorem nh (m : Key) : (cO (bc m)).depth = 0 := by cases m <;> rfl
mutual
def noL : Dat → Bool
 | .lst _ => false
 | .tup ds => noLs ds
 | .non => true
 | .bl _ => true
 | .int _ => true
 | .str _ => true
 | .dic => true
def noLs : List Dat → Bool
 | [] => true
 | d :: r => noL d && noLs r
end
end Rs
namespace Rs
open PySem PySem.Spec PyProof.Rows L2
def sg1 : Str := " !\"#$&'()*+,-./0123456789:;<=>?@ABCDEFGHIJKLMNOPQRSTUVWXYZ[\\]^_`"
def sg2 : Str := "abcdefghijklmnopqrstuvwxyz{|}~"
theorem Al : (sg1 ++ sg2).length = 94 ∧ (sg1 ++ sg2).cps.toList.length = 94 ∧ (sg1 ++ sg2).cps.toList.all (· < 128) = true := by decide +kernel
theorem wY : okD (.str "leaf") = true := by decide +kernel
theorem xy : okD (.str "fork") = true := by decide +kernel
theorem Dx {z : Str} (h : fB z = true) (hl : z.length ≤ 100000) : okD (.str z) = true := by
 show (fB z && decide (z.length ≤ 100000)) = true
 rw [h, decide_eq_true hl]; rfl
variable {K : W.Frag} {mg : Str → Option Value} {A : Adr}
theorem Bj (K : W.Frag) (A : Adr) : Ln (jG K A) 1 := by rintro vs H Q E ⟨c, rfl, _⟩; rfl
theorem Fq (T : Txt K mg A) : Rd (jG K A) (HM K A) ["_law_cell", "_law_signs", "_law_size", "_law_made", "_law_k"] := by
 intro vs H Q E h
 obtain ⟨c, rfl, q⟩ := h
 obtain ⟨g1, g2, g3⟩ := Al
 have ci : ∀ sz : Int, 0 ≤ sz → sz ≤ 60 → tY K A { nx := fun _ H' => Q .non H', rt := Q } [some (.int c), some (.str (sg1 ++ sg2)), some (.int sz), none, none] H := by
  intro sz s0 s1
  refine ⟨sz, rfl, by omega, by omega, ?_⟩
  refine iM (fun i σ H' => H' = H ∧ ∃ z x4, σ = [some (.int c), some (.str (sg1 ++ sg2)), some (.int sz), some (.str z), x4] ∧ z.length = i ∧ fB z = true) ⟨rfl, "", none, rfl, by decide, by decide +kernel⟩ ?_ ?_
  · rintro i σ _ hi ⟨rfl, z, x4, rfl, hz, ho⟩
    refine ⟨⟨by decide, by decide⟩, ⟨by decide, by decide⟩, by decide, gH (by omega) (by omega), .inl ⟨by rw [g1]; exact bo (by decide), by rw [g1]; decide, ?_⟩⟩
    generalize (c / 4 + _ : Int) = w
    have e94 : ((sg1 ++ sg2).length : Int) = 94 := by rw [g1]; rfl
    rw [e94]
    obtain ⟨cc, hcc⟩ := uk (xs := (sg1 ++ sg2).cps.toList) (i := w % 94) (by omega) (by rw [g2]; omega)
    refine .inl (.inr (.inr ⟨_, _, cc, rfl, rfl, by rw [g1]; exact bo (by decide), hcc, ?_⟩))
    refine ⟨by rw [hz]; exact bo (by show i + 1 ≤ 1000000; omega), rfl, z ++ ⟨#[cc]⟩, _, rfl, by rw [strLen_append, hz]; rfl, uL ho ?_⟩
    obtain ⟨j, _, hj, _⟩ := iY hcc
    have := of_decide_eq_true (List.all_eq_true.mp g3 cc (List.mem_of_getElem? hj))
    unfold fB
    simp
    omega
  · rintro σ _ ⟨rfl, z, x4, rfl, hz, ho⟩
    exact q z _ (.refl _) (by omega) ho
 have rest4 : ∀ sz : Int, 0 ≤ sz → sz ≤ 60 → BB K A { nx := fun _ H' => Q .non H', rt := Q } [some (.int c), some (.str (sg1 ++ sg2)), some (.int sz), none, none] H := by
  intro sz s0 s1
  refine ⟨⟨by decide, by decide⟩, by decide, Sel.dec (fun h => ?_) (fun h => ci sz s0 s1)⟩
  exact ⟨⟨by decide, by decide⟩, by decide, ci (c / 32 % 61) (by omega) (by omega)⟩
 refine ⟨bo (by decide +kernel), by decide, ⟨by decide, by decide⟩, by decide, Sel.dec (fun h => rest4 60 (by decide) (by decide)) (fun h => rest4 (c % 4) (by omega) (by omega))⟩
end Rs
namespace Rs
open PySem PySem.Spec PyProof.Rows L2
theorem jz {K : W.Frag} {H : Hp} {Q : VK} {a : Key} (q : Q (.bl false) H) : cP K (kV a) (kV a) H Q := by
 cases a
 · rename_i i
   have e : (!decide (i = i)) = false := by simp
   rw [← e] at q; exact q
 · rename_i i
   have e : (!decide (i = i)) = false := by simp
   rw [← e] at q; exact q
theorem yP {H : Hp} {v : V} {k : Key} (w : aP H v (bc k)) : v = kV k := by cases k <;> (cases w; rfl)
theorem vb {H : Hp} {v : V} : ∀ {e : List Key} {xs : List V}, DatWs H xs (e.map bc) → xs = e.map kV
  | [], _, h => by cases h; rfl
  | x :: r, _, h => by
    cases h with
    | cons a b => rw [yP a, vb (v := v) b]; rfl
theorem ma {H : Hp} {v : V} {e : List Key} (h : aP H v (.tup (e.map bc))) : ∃ a, v = .ref a ∧ H a = some (.tup (e.map kV)) := by
 cases h with
 | @tup a xs _ ea r => exact ⟨a, rfl, by rw [ea, vb (v := .non) r]⟩
theorem ue {H : Hp} : ∀ {st : List (Int × Key)} {xs : List V}, DatWs H xs (st.map stD) → ∀ {i : Nat} {x : V}, xs[i]? = some x → ∃ s p, st[i]? = some s ∧ x = .ref p ∧ H p = some (.tup [.int s.1, kV s.2])
  | [], _, h, i, x, e => by cases h; cases e
  | s :: r, _, h, i, x, e => by
    cases h with
    | cons a b =>
      cases i with
      | zero =>
        cases e
        have a : aP H x (.tup [.int s.1, bc s.2]) := a
        cases a with
        | @tup p ys _ ea rr =>
          cases rr with
          | cons z0 rr =>
            cases rr with
            | cons z1 rr =>
              cases rr
              cases z0
              exact ⟨s, p, rfl, rfl, by rw [ea, yP z1]⟩
      | succ i => exact ue b e
theorem rf {H : Hp} {v : V} {b k : Int} {st : List (Int × Key)} {e : List Key} (h : iF H v b k st e) : ∃ (a s t : Addr) (xs : List V), v = .ref a ∧ H a = some (.tup [.ref s, .ref t]) ∧ H s = some (.tup xs) ∧ DatWs H xs (st.map stD) ∧ H t = some (.tup (e.map kV)) := by
  obtain ⟨w, _⟩ := h
  cases w with
  | @tup a xs _ ea r =>
    cases r with
    | cons z0 r =>
      cases r with
      | cons z1 r =>
        cases r
        obtain ⟨t, rfl, ht⟩ := ma z1
        cases z0 with
        | @tup s ys _ es rs => exact ⟨a, s, t, ys, rfl, ea, es, rs, ht⟩
theorem lJ {w : Str} {d : Dat} (h : bY w d = true) : d = .str w := by
 cases d <;> first | cases h | skip
 rename_i z
 have : z = w := of_decide_eq_true h
 rw [this]
theorem xC : ∀ {a b : Key}, bc a = bc b → a = b
 | .inl i, .inl j, h => by cases h; rfl
 | .inl i, .inr j, h => by cases h
 | .inr i, .inl j, h => by cases h
 | .inr i, .inr j, h => by cases h; rfl
theorem vC {b k l : Int} {e : List Key} (h : eN b k l (.tup (e.map bc)) = true) : e = [.inr "bare"] ∨ (∃ x z, e = [.inr "leaf", .inl x, .inr z] ∧ z.length ≤ 60) ∨ ∃ d bb m n, e = [.inr "fork", .inl d, .inl bb, m, n] := by
  have key : ∀ {x : Key} {w : Str}, bc x = .str w → x = .inr w := fun {x w} hx => xC (b := .inr w) hx
  unfold eN at h
  split at h
  · rename_i hb
    match e, hb with
    | [x], hb => exact .inl (by rw [key (lJ hb)])
  · rw [Bool.or_eq_true] at h
    rcases h with h | h
    · match e, h with
      | [w, .inl x, z], h =>
        have h : (bY "leaf" (bc w) && decide (0 ≤ x ∧ x < 2 ^ b.toNat) && eQ (bc z) && decide (aw b x l = aw b k l)) = true := h
        simp only [Bool.and_eq_true] at h
        cases z with
        | inl i => cases h.1.2
        | inr z => exact .inr (.inl ⟨x, z, by rw [key (lJ h.1.1.1)], of_decide_eq_true h.1.2⟩)
    · rw [Bool.and_eq_true] at h
      have h := h.1
      match e, h with
      | [w, .inl d, .inl bb, m, n], h =>
        have h : (bY "fork" (bc w) && decide (l ≤ d ∧ d < b) && decide (0 ≤ bb ∧ bb < 2 ^ d.toNat) && decide (bb / 2 ^ (d - l).toNat = aw b k l)) = true := h
        simp only [Bool.and_eq_true] at h
        exact .inr (.inr ⟨d, bb, m, n, by rw [key (lJ h.1.1.1)]⟩)
variable {K : W.Frag} {mg : Str → Option Value} {A : Adr}
theorem Cg (K : W.Frag) (A : Adr) : Ln (mh K A) 3 := by rintro vs H Q E ⟨b, k, d, rfl, _⟩; rfl
theorem Gf (T : Txt K mg A) : Rd (mh K A) (Hj K A) ["bits", "key", "depth"] := by
 intro vs H Q E h
 obtain ⟨b, k, d, rfl, hd, k0, q⟩ := h
 refine ⟨by omega, ?_⟩
 show Q (.int (Builtin.bitAnd (k / 2 ^ (b - d - 1).toNat) 1)) H
 have h0 : 0 ≤ k / 2 ^ (b - d - 1).toNat := Int.ediv_nonneg k0 (Int.le_of_lt (ck _))
 obtain ⟨y, hy⟩ := Int.eq_ofNat_of_zero_le h0
 rw [hy] at q ⊢
 rw [mD]
 have : ((y % 2 : Nat) : Int) = (y : Int) % 2 := by omega
 rw [this]; exact q
theorem By (K : W.Frag) (A : Adr) : Ln (oS K A) 4 := by rintro vs H Q E ⟨b, k, d, m, s, p, rfl, _⟩; rfl
theorem Gc (T : Txt K mg A) : Rd (oS K A) (GE K A) ["bits", "key", "step", "mark", "depth", "begin"] := by
 intro vs H Q E h
 obtain ⟨b, k, d, m, s, p, rfl, hp, hd, k0, q⟩ := h
 refine ixT (j := 0) hp rfl rfl ⟨b, k, d, rfl, by omega, b, k, d, rfl, hd, k0, ?_⟩
 unfold cN at q
 refine Sel.dec (fun h => ?_) (fun h => ?_)
 · refine ixT (j := 1) hp rfl rfl ⟨bo (n := 5) (by decide), fun t ht => ?_⟩
   have q := q t ht
   rw [if_pos h] at q; exact q
 · refine ixT (j := 1) hp rfl rfl ⟨bo (n := 5) (by decide), fun t ht => ?_⟩
   have q := q t ht
   rw [if_neg h] at q; exact q
theorem uP {k x : Int} {z : Str} : kA k [.inr "leaf", .inl x, .inr z] = if x = k then .str z else .non := by
 show (if ("leaf" : Str) = "leaf" ∧ x = k then V.str z else .non) = _
 by_cases h : x = k
 · rw [if_pos ⟨rfl, h⟩, if_pos h]
 · rw [if_neg (fun z => h z.2), if_neg h]
theorem wm : decide (("bare" : Str) = "leaf") = false := by decide +kernel
theorem xD : decide (("fork" : Str) = "leaf") = false := by decide +kernel
theorem Bi (K : W.Frag) (A : Adr) : Ln (pj K A) 2 := by rintro vs H Q E ⟨b, k, v, st, e, rfl, _⟩; rfl
theorem ED (T : Txt K mg A) : Rd (pj K A) (HJ K A) ["key", "slip", "end"] := by
 intro vs H Q E h
 obtain ⟨b, k, v, st, e, rfl, w, q⟩ := h
 obtain ⟨a, s, t, xs, rfl, ha, hs, ws, ht⟩ := rf w
 refine ixT (j := 1) ha rfl rfl ?_
 rcases vC w.2.en with rfl | ⟨x, z, rfl, _⟩ | ⟨d, bb, m, n, rfl⟩
 · exact ixT (j := 0) ht rfl rfl (Sel.no wm (Sel.f q))
 · refine ixT (j := 0) ht rfl rfl (Sel.yes (decide_eq_true rfl) (ixT (j := 1) ht rfl rfl ?_))
   rw [uP] at q
   refine Sel.dec (fun h => ?_) (fun h => ?_)
   · rw [if_pos h] at q
     exact ixT (j := 2) ht rfl rfl q
   · rw [if_neg h] at q; exact q
 · exact ixT (j := 0) ht rfl rfl (Sel.no xD (Sel.f q))
theorem Dk (K : W.Frag) (A : Adr) : Ln (pf K A) 2 := by rintro vs H Q E ⟨v, rfl, _⟩; rfl
theorem Ec (T : Txt K mg A) : Rd (pf K A) (GM K A) ["_law_found", "_law_due"] := by
 intro vs H Q E h
 obtain ⟨v, rfl, rfl | ⟨z, rfl⟩, q⟩ := h
 · exact Sel.yes rfl q
 · refine Sel.no rfl ⟨by decide, "str", rfl, Sel.yes rfl ?_⟩
   have e : decide (z = z) = true := decide_eq_true rfl
   rw [← e] at q; exact q
theorem An (K : W.Frag) (A : Adr) : Ln (oZ K A) 2 := by rintro vs H Q E ⟨x, rfl, _⟩; rfl
theorem FD (T : Txt K mg A) : Rd (oZ K A) (Hi K A) ["_law_found", "_law_due"] := by
  intro vs H Q E h
  obtain ⟨x, rfl, q⟩ := h
  cases x with
  | inl i =>
    have e : decide (i = i) = true := decide_eq_true rfl
    rw [← e] at q
    exact ⟨by decide, "int", rfl, Sel.no rfl ⟨by decide, "int", rfl, Sel.yes rfl ⟨by decide, "int", rfl, Sel.yes rfl q⟩⟩⟩
  | inr z =>
    have e : decide (z = z) = true := decide_eq_true rfl
    rw [← e] at q
    exact ⟨by decide, "str", rfl, Sel.yes rfl ⟨by decide, "str", rfl, Sel.yes rfl q⟩⟩
theorem Av (K : W.Frag) (A : Adr) : Ln (kR K A) 2 := by rintro vs H Q E ⟨p, r, k, rfl, _⟩; rfl
theorem FA (T : Txt K mg A) : Rd (kR K A) (Hg K A) ["_law_found", "_law_due", "_law_k"] := by
 intro vs H Q E h
 obtain ⟨p, r, k, rfl, hp, hr, hk, q⟩ := h
 have ty : tyN H (.ref p) = some "tuple" := by unfold tyN; dsimp only; rw [hp]
 refine ⟨by decide, "tuple", ty, Sel.no rfl (.inl (.inr (.inl ⟨_, SqT.of hp, .inl (.inr (.inl ⟨_, SqT.of hr, ?_⟩))⟩)))⟩
 refine Sel.no (by simp) (.inl (.inr (.inl ⟨_, SqT.of hr, _, rfl, by omega, by simp; omega, ?_⟩)))
 have hn : (((k.map kV).length : Nat) : Int).toNat = k.length := by simp
 rw [hn]
 refine iM (fun i σ H' => H' = H ∧ ∃ x2, σ = [some (.ref p), some (.ref r), x2]) ⟨rfl, none, rfl⟩ ?_ ?_
 · rintro i σ _ hi ⟨rfl, x2, rfl⟩
   obtain ⟨x, hx⟩ : ∃ x, k[i]? = some x := ⟨_, List.getElem?_eq_getElem hi⟩
   have hx2 : (k.map kV)[i]? = some (kV x) := by rw [List.getElem?_map, hx]; rfl
   refine ixT (j := i) hp (by omega) hx2 (ixT (j := i) hr (by omega) hx2 ⟨x, rfl, Sel.no rfl ⟨rfl, _, rfl⟩⟩)
 · rintro σ _ ⟨rfl, x2, rfl⟩
   exact q
theorem tX {H : Hp} {ps : List Addr} {ts : List (List Key)} (h : PK H ps ts) : ∀ {i : Nat} {t : List Key}, ts[i]? = some t → ∃ p, ps[i]? = some p ∧ H p = some (.tup (t.map kV)) ∧ okT t = true := by
  induction h with
  | nil => intro i t e; cases e
  | cons r _ ih =>
    intro i t e
    cases i with
    | zero => cases e; exact ⟨_, rfl, r⟩
    | succ i => exact ih e
theorem fH {H : Hp} {ps : List Addr} {ts : List (List Key)} (h : PK H ps ts) : ps.length = ts.length := Paired.length h
theorem qU {k : List Key} (h : okT k = true) : 1 ≤ k.length ∧ k.length ≤ 8 := by
 unfold okT at h
 simp only [Bool.and_eq_true] at h
 exact of_decide_eq_true h.1.1
theorem ur {H : Hp} {ps : List Addr} {ts : List (List Key)} (h : PT H ps ts) : ∀ {i : Nat} {t : List Key}, ts[i]? = some t → ∃ p, ps[i]? = some p ∧ H p = some (.tup (t.map kV)) ∧ t.length ≤ 8 := by
  induction h with
  | nil => intro i t e; cases e
  | cons a _ ih =>
    intro i t e
    cases i with
    | zero => cases e; exact ⟨_, rfl, a⟩
    | succ i => exact ih e
theorem ut {H : Hp} {ps : List Addr} {ts : List (List Key)} (h : PT H ps ts) : ps.length = ts.length := Paired.length h
theorem As (K : W.Frag) (A : Adr) : Ln (oY K A) 2 := by rintro vs H Q E ⟨_, _, _, _, _, rfl, _⟩; rfl
theorem EJ (T : Txt K mg A) : Rd (oY K A) (Hu K A) ["_law_found", "_law_due", "_law_k"] := by
 intro vs H Q E h
 obtain ⟨L, M, ps, rs, ts, rfl, hL, hM, w1, w2, hl, q⟩ := h
 have l1 := ut w1
 have l2 := ut w2
 have ty : tyN H (.ref L) = some "list" := by unfold tyN; dsimp only; rw [hL]
 refine ⟨by decide, "list", ty, Sel.no rfl (.inl (.inl ⟨_, SqL.of hL, .inl (.inl ⟨_, SqL.of hM, ?_⟩)⟩))⟩
 refine Sel.no (by simp; omega) (.inl (.inl ⟨_, SqL.of hM, _, rfl, by omega, by simp; omega, ?_⟩))
 have hn : (((rs.map V.ref).length : Nat) : Int).toNat = ts.length := by simp; omega
 rw [hn]
 refine iM (fun i σ H' => H' = H ∧ ∃ x2, σ = [some (.ref L), some (.ref M), x2]) ⟨rfl, none, rfl⟩ ?_ ?_
 · rintro i σ _ hi ⟨rfl, x2, rfl⟩
   obtain ⟨t, ht⟩ : ∃ t, ts[i]? = some t := ⟨_, List.getElem?_eq_getElem hi⟩
   obtain ⟨p, hp, hp2, ok⟩ := ur w1 ht
   obtain ⟨r, hr, hr2, _⟩ := ur w2 ht
   have e1 : (ps.map V.ref)[i]? = some (.ref p) := by rw [List.getElem?_map, hp]; rfl
   have e2 : (rs.map V.ref)[i]? = some (.ref r) := by rw [List.getElem?_map, hr]; rfl
   refine ixL (j := i) hL (by omega) e1 (ixL (j := i) hM (by omega) e2 ⟨p, r, t, rfl, hp2, hr2, ok, Sel.no rfl ⟨rfl, _, rfl⟩⟩)
 · rintro σ _ ⟨rfl, x2, rfl⟩
   exact q
end Rs
namespace Rs
open PySem PySem.Spec PyProof.Rows L2
theorem nA {k : List Key} (h : okT k = true) : k.all okP = true := by
 unfold okT at h
 rw [Bool.and_eq_true] at h
 exact h.2
theorem yU {k : List Key} {x : Key} (h : okT k = true) (hx : x ∈ k) : okP x = true := List.all_eq_true.mp (nA h) x hx
theorem cE.rfl' {b : Addr} {H : Hp} : cE b H H := fun _ _ _ e => e
theorem cE.trans {b : Addr} {H H1 H2 : Hp} (a : cE b H H1) (c : cE b H1 H2) : cE b H H2 := fun x o n e => c x o n (a x o n e)
theorem cE.same {b : Addr} {H H1 : Hp} (s : ay H H1) : cE b H H1 := fun x o _ e => s x o e
theorem cC.rfl' {g : List Key → Option Key} : cC g g := fun _ _ e => e
theorem cC.trans {g g1 g2 : List Key → Option Key} (a : cC g g1) (b : cC g1 g2) : cC g g2 := fun k v e => b k v (a k v e)
theorem fV.of {g g' : List Key → Option Key} {h : List Key → Key} (s : cC g g') (e : fV g' h) : fV g h := fun k v z => e k v (s k v z)
theorem rp (kvs : List (List Key × Key)) (k : List Key) : cg (gT kvs) k = (aX kvs k).map kV := by
 unfold cg gT aX
 rw [List.find?_map]
 simp only [Option.map_map]
 congr 1
theorem tz {kvs : List (List Key × Key)} {k : List Key} {v : Key} {x : List Key × Key} (h : aX kvs k = some v) : aX (kvs ++ [x]) k = some v := by
 unfold aX at h ⊢
 rw [List.find?_append]
 cases e : kvs.find? fun p => decide (p.1 = k) with
 | none => rw [e] at h; cases h
 | some y => rw [e] at h; exact h
theorem qw {kvs : List (List Key × Key)} {k : List Key} {d : Key} (h : aX kvs k = none) : aX (kvs ++ [(k, d)]) k = some d := by
 unfold aX at h ⊢
 rw [List.find?_append]
 cases e : kvs.find? fun p => decide (p.1 = k) with
 | none => simp
 | some y => rw [e] at h; cases h
theorem xJ {kvs : List (List Key × Key)} {k : List Key} {v : Key} (h : aX kvs k = some v) : cg (gT kvs) k = some (kV v) := by rw [rp, h]; rfl
theorem kU {kvs : List (List Key × Key)} {k : List Key} {v : Key} (h : aX kvs k = some v) : ∃ i : Nat, kvs[i]? = some (k, v) := by
  unfold aX at h
  cases e : kvs.find? fun p => decide (p.1 = k) with
  | none => rw [e] at h; cases h
  | some y =>
    rw [e] at h
    cases h
    obtain ⟨i, hi, ei⟩ := List.getElem_of_mem (List.mem_of_find?_eq_some e)
    have hk := List.find?_some e
    refine ⟨i, ?_⟩
    rw [List.getElem?_eq_getElem hi, ei, ← (of_decide_eq_true hk)]
theorem vF {j : Int} {kvs : List (List Key × Key)} (s : gf j kvs) {k k' : List Key} {v : Key} (h : aX kvs k = some v) (h' : aX kvs k' = some v) : k = k' := by
 obtain ⟨i, hi⟩ := kU h
 obtain ⟨i', hi'⟩ := kU h'
 have e1 := s _ _ hi
 have e2 := s _ _ hi'
 have : (Sum.inl (3 * (i : Int) + j) : Key) = Sum.inl (3 * (i' : Int) + j) := e1.symm.trans e2
 have : i = i' := by injection this; omega
 subst this
 rw [hi] at hi'; cases hi'; rfl
theorem lx {j : Int} (j0 : 0 ≤ j) (j1 : j < 1000) {kvs : List (List Key × Key)} (s : gf j kvs) (hl : kvs.length ≤ 50000) {k : List Key} {v : Key} (h : aX kvs k = some v) : ∃ i : Int, 0 ≤ i ∧ i < 10 ^ 60 ∧ v = .inl i := by
 obtain ⟨i, hi⟩ := kU h
 have e1 : v = .inl (3 * (i : Int) + j) := s _ _ hi
 have hlt := (List.getElem?_eq_some_iff.mp hi).1
 have p60 : (200000 : Int) < 10 ^ 60 := by decide +kernel
 exact ⟨_, by omega, by omega, e1⟩
theorem uG {j : Int} {kvs : List (List Key × Key)} (s : gf j kvs) (k : List Key) : gf j (kvs ++ [(k, .inl (3 * (kvs.length : Int) + j))]) := fun i p h => by
  by_cases hi : i < kvs.length
  · rw [List.getElem?_append_left hi] at h; exact s i p h
  · rw [List.getElem?_append_right (by omega)] at h
    cases e : i - kvs.length with
    | zero =>
      rw [e] at h
      cases h
      have : i = kvs.length := by omega
      rw [this]
    | succ m => rw [e] at h; cases h
theorem dC.keepB {H H' : Hp} {a : SA} {kvs : List (List Key × Key)} {n m : Nat} (s : dC H a kvs n) (hn : n ≤ m) (k : ∀ x o, H x = some o → (∀ xs, o ≠ .lst xs) → (∀ kvs, o ≠ .dK kvs) → (∀ ps, o ≠ .tbl ps) → H' x = some o) : dC H' a kvs m :=
 ⟨s.j0, s.j1, k _ _ s.hf (fun _ z => nomatch z) (fun _ z => nomatch z) (fun _ z => nomatch z), k _ _ s.hc (fun _ z => nomatch z) (fun _ z => nomatch z) (fun _ z => nomatch z), k _ _ s.h0 (fun _ z => nomatch z) (fun _ z => nomatch z) (fun _ z => nomatch z), k _ _ s.h1 (fun _ z => nomatch z) (fun _ z => nomatch z) (fun _ z => nomatch z), k _ _ s.hb (fun _ z => nomatch z) (fun _ z => nomatch z) (fun _ z => nomatch z), Nat.le_trans s.hl hn, s.st⟩
theorem dC.clo {H : Hp} {a : SA} {kvs : List (List Key × Key)} {n : Nat} (s : dC H a kvs n) : gy H a.f dE [a.q1, a.q0] [.ref a.b, .int a.j] := ⟨⟨a.c, s.hf, s.hc⟩, .cons s.h1 (.cons s.h0 .nil)⟩
variable {K : W.Frag} {mg : Str → Option Value} {A : Adr}
theorem Dn {H : Hp} {b p : Addr} {kvs : List (List Key × V)} {kk : List Key} {d : V} (hb : H b = some (.dT kvs)) (hp : H p = some (.tup (kk.map kV))) (hl : kvs.length ≤ 50000) :
  Cl H b (.ref p) d (qg kvs kk d) (qu H b kvs kk d) := by
 unfold qg qu
 have g := gG.t hb hp
 cases e : cg kvs kk with
 | some v => rw [e] at g; exact .inl ⟨g, if_pos rfl⟩
 | none => rw [e] at g; exact .inr ⟨g, .inr ⟨kvs, kk, p, hb, rfl, hp, Nat.lt_of_le_of_lt hl (bo (n := 50001) (by decide)), if_neg (by decide)⟩, rfl⟩
theorem Fh (T : Txt K mg A) (a0 b0 b1 : V) (H : Hp) (Q : VK) (E : XK) (h : lO K A [a0, b0, b1] H Q E) : Ci K A { nx := fun _ H' => Q .non H', rt := Q } (iA ["_law_term", "_law_known", "_law_first"] [a0] [b0, b1]) H := by
 obtain ⟨p, b, j, k, kvs, e, hp, hb, hl, q⟩ := h
 cases e
 exact ⟨.inr (.inr (.inl ⟨rfl, .inr ⟨_, hb⟩⟩)), .inr ⟨b, kvs, rfl, hb, IntMulOk.of_left (by decide), b, .ref p, _, _, _, rfl, rfl, Dn hb hp hl, q⟩⟩
theorem lD {ks : L2.jA} (hm : (dE, lO K A) ∈ ks) {H : Hp} {a : SA} {p : Addr} {kvs : List (List Key × Key)} {n : Nat} {k : List Key} {R : VK} (s : dC H a kvs n) (hn : n ≤ 46000) (hp : H p = some (.tup (k.map kV)))
    (q : ∀ (v : Key) (H' : Hp) (kvs' : List (List Key × Key)), cE a.b H H' → dC H' a kvs' (n + 1) → cC (aX kvs) (aX kvs') → aX kvs' k = some v → (∃ i : Int, 0 ≤ i ∧ i < 10 ^ 60 ∧ v = .inl i) → R (kV v) H') : kD ks a.f [.ref p] H R E0 := by
  have hc := s.clo
  have ll : (gT kvs).length = kvs.length := by simp [gT]
  have hbc : a.b ∉ [a.q1, a.q0] := hc.cells.notin s.hb fun _ z => nomatch z
  refine ⟨_, hm, _, _, hc, rfl, p, a.b, a.j, k, gT kvs, rfl, hc.cells.hide hp (fun _ z => nomatch z), hc.cells.hide s.hb (fun _ z => nomatch z), by rw [ll]; have := s.hl; omega, ?_⟩
  dsimp only
  rw [ll]
  cases e : aX kvs k with
  | some v =>
    have ev := xJ e
    unfold qg qu
    rw [ev]
    show R (kV v) (cR _ H (dm _ H))
    rw [mK]
    exact q v H kvs cE.rfl' (s.keepB (Nat.le_succ _) fun _ _ e _ _ _ => e) cC.rfl' e (lx s.j0 s.j1 s.st (by have := s.hl; omega) e)
  | none =>
    have ev : cg (gT kvs) k = none := by rw [rp, e]; rfl
    unfold qg qu
    rw [ev, if_neg (by decide), tQ hbc, mK, xS _ ev]
    have et : gT kvs ++ [(k, V.int (3 * (kvs.length : Int) + a.j))] = gT (kvs ++ [(k, .inl (3 * (kvs.length : Int) + a.j))]) := by unfold gT; rw [List.map_append]; rfl
    rw [et]
    have kb : cE a.b H (upd H a.b (.dT (gT (kvs ++ [(k, .inl (3 * (kvs.length : Int) + a.j))])))) := fun x o n e => by rw [aK n]; exact e
    have sn := uG s.st k
    have ne : ∀ {x : Addr} {φ : Heap → Prop}, H x = some (.ext φ) → x ≠ a.b := fun h z => by rw [z, s.hb] at h; cases h
    exact q (.inl (3 * (kvs.length : Int) + a.j)) _ (kvs ++ [(k, .inl (3 * (kvs.length : Int) + a.j))]) kb ⟨s.j0, s.j1, kb _ _ (ne s.hf) s.hf, kb _ _ (ne s.hc) s.hc, kb _ _ (ne s.h0) s.h0, kb _ _ (ne s.h1) s.h1, am, by have := s.hl; simp; omega, sn⟩
      (fun x y z => tz z) (qw e) (lx s.j0 s.j1 sn (by have := s.hl; simp; omega) (qw e))
theorem oa {H : Hp} {Q : VK} {a b : Addr} {k l : List Key} (ha : H a = some (.tup (k.map kV))) (hb : H b = some (.tup (l.map kV))) (q : Q (.bl (decide (k = l))) H) : be K (.ref a) (.ref b) H Q := by
 refine .inl ⟨a, b, _, _, rfl, rfl, SqT.of ha, SqT.of hb, nR _, nR _, ?_⟩
 by_cases e : k = l
 · subst e; rw [decide_eq_true rfl] at q ⊢; exact q
 · rw [decide_eq_false e] at q; rw [decide_eq_false fun z => e (jh z)]; exact q
theorem m0 {x : cT × Sp} {l : List (cT × Sp)} : x ∈ x :: l := List.mem_cons_self
theorem mS {x y : cT × Sp} {l : List (cT × Sp)} (h : x ∈ l) : x ∈ y :: l := List.mem_cons_of_mem _ h
theorem Eh (T : Txt K mg A) (a0 b0 b1 b2 : V) (H : Hp) (Q : VK) (E : XK) (h : sF K A [a0, b0, b1, b2] H Q E) : BU K A { nx := fun _ H' => Q .non H', rt := Q } (iA ["_law_term", "_law_sure_one", "_law_other", "_law_one"] [a0] [b0, b1, b2]) H := by
 obtain ⟨p, o1, o2, a, k, k1, k2, kvs, n, e, hp, h1, h2, ok, ok1, ok2, su, hn, q⟩ := h
 cases e
 refine oa hp h2 (Sel.dec (fun e => ?_) (fun e => ?_))
 · rw [if_pos e] at q
   exact ⟨a.f, rfl, ⟨_, m0, _, _, su.clo⟩, tc1 rfl (lD (K := K) (A := A) m0 su (by omega) h1 fun v H' kvs' kb su' sub gv nv => q v H' kvs' kb su' sub gv nv)⟩
 · rw [if_neg e] at q
   exact ⟨a.f, rfl, ⟨_, m0, _, _, su.clo⟩, tc1 rfl (lD (K := K) (A := A) m0 su (by omega) hp fun v H' kvs' kb su' sub gv nv => q v H' kvs' kb su' sub gv nv)⟩
theorem Stq.clo {H : Hp} {f : Addr} {d : Kd} {g : List Key → Option Key} {n : Nat} (s : Stq A H f d g n) : ∃ ts ∈ eT K A, ∃ cs cvs, gy H f ts.1 cs cvs := by
  cases s with
  | sur kvs h ef ep hg => subst ef; exact ⟨_, m0, _, _, h.clo⟩
  | pla k1 k2 kvs h ep hg =>
    obtain ⟨q0, q1, q2, o1, o2, hc, _⟩ := h.ex
    exact ⟨_, mS m0, _, _, hc⟩
theorem iN.keep {H H' : Hp} {f : Addr} {a : SA} {k1 k2 : List Key} {kvs : List (List Key × Key)} {n m : Nat} (s : iN H f a k1 k2 kvs n) (hn : n ≤ m) (k : ∀ x o, H x = some o → (∀ xs, o ≠ .lst xs) → (∀ kvs, o ≠ .dK kvs) → (∀ ps, o ≠ .tbl ps) → H' x = some o) : iN H' f a k1 k2 kvs m := by
 obtain ⟨⟨q0, q1, q2, o1, o2, hc, e1, e2, dis⟩, ok1, ok2, su⟩ := s
 exact ⟨⟨q0, q1, q2, o1, o2, hc.keep (fun x φ e => k x _ e (fun _ z => nomatch z) (fun _ z => nomatch z) (fun _ z => nomatch z)), k _ _ e1 (fun _ z => nomatch z) (fun _ z => nomatch z) (fun _ z => nomatch z), k _ _ e2 (fun _ z => nomatch z) (fun _ z => nomatch z) (fun _ z => nomatch z), dis⟩, ok1, ok2, su.keepB hn k⟩
theorem Stq.keep {H H' : Hp} {f : Addr} {d : Kd} {g : List Key → Option Key} {n m : Nat} (s : Stq A H f d g n) (hn : n ≤ m) (k : ∀ x o, H x = some o → (∀ xs, o ≠ .lst xs) → (∀ kvs, o ≠ .dK kvs) → (∀ ps, o ≠ .tbl ps) → H' x = some o) : Stq A H' f d g m := by
 cases s with
 | sur kvs h ef ep hg => exact .sur kvs (h.keepB hn k) ef ep hg
 | pla k1 k2 kvs h ep hg => exact .pla k1 k2 kvs (h.keep hn k) ep hg
theorem Stq.same {H H' : Hp} {f : Addr} {d : Kd} {g : List Key → Option Key} {n m : Nat} (s : Stq A H f d g n) (hn : n ≤ m) (S : ay H H') : Stq A H' f d g m := s.keep hn fun b o e _ _ _ => S b o e
theorem Stq.dict {H : Hp} {f : Addr} {d : Kd} {g : List Key → Option Key} {n : Nat} (s : Stq A H f d g n) : ∃ kvs, H d.a.b = some (.dT kvs) := by
 cases s with
 | sur kvs h ef ep hg => exact ⟨_, h.hb⟩
 | pla k1 k2 kvs h ep hg => exact ⟨_, h.su.hb⟩
theorem xf {H : Hp} {f p : Addr} {a : SA} {k1 k2 : List Key} {kvs : List (List Key × Key)} {n : Nat} {k : List Key} {R : VK} (s : iN H f a k1 k2 kvs n) (hn : n ≤ 45000) (hp : H p = some (.tup (k.map kV))) (ok : okT k = true)
  (q : ∀ (v : Key) (H' : Hp) (kvs' : List (List Key × Key)), cE a.b H H' → iN H' f a k1 k2 kvs' (n + 1) → cC (aX kvs) (aX kvs') → aX kvs' (if k = k2 then k1 else k) = some v → (∃ i : Int, 0 ≤ i ∧ i < 10 ^ 60 ∧ v = .inl i) → R (kV v) H') : kD (eT K A) f [.ref p] H R E0 := by
 obtain ⟨⟨q0, q1, q2, o1, o2, hc, e1, e2, dis⟩, ok1, ok2, su⟩ := s
 have out : ∀ x ∈ [a.f, a.q0, a.q1, a.c], dm [q0, q2, q1] H x = H x := fun x hx => cz (dis x hx)
 have bk : ∀ (x : Addr) (H' : Hp), x ∈ [a.f, a.q0, a.q1, a.c] → cR [q0, q2, q1] H H' x = H' x := fun x H' hx => cf (dis x hx)
 have hbc : a.b ∉ [q0, q2, q1] := hc.cells.notin su.hb fun _ z => nomatch z
 refine ⟨_, mS m0, _, _, hc, rfl, p, o1, o2, a, k, k1, k2, kvs, n, rfl, hc.cells.hide hp (fun _ z => nomatch z), hc.cells.hide e1 (fun _ z => nomatch z), hc.cells.hide e2 (fun _ z => nomatch z), ok, ok1, ok2,
  ⟨su.j0, su.j1, by rw [out _ (by simp)]; exact su.hf, by rw [out _ (by simp)]; exact su.hc, by rw [out _ (by simp)]; exact su.h0, by rw [out _ (by simp)]; exact su.h1, by rw [cz hbc]; exact su.hb, su.hl, su.st⟩, hn, fun v H' kvs' kb su' sub gv nv => ?_⟩
 have kb' : cE a.b H (cR [q0, q2, q1] H H') := fun x o n e => by
  by_cases hx : x ∈ [q0, q2, q1]
  · rw [ip hx]; exact e
  · rw [cf hx]; exact kb x o n (by rw [cz hx]; exact e)
 have ne : ∀ {x : Addr} {o : HO}, H x = some o → (∀ kvs, o ≠ .dT kvs) → x ≠ a.b := fun h hn z => by subst z; rw [su.hb] at h; cases h; exact hn _ rfl
 refine q v _ kvs' kb' ⟨⟨q0, q1, q2, o1, o2, hc.keep (fun x φ e => kb' x _ (ne e (fun _ z => nomatch z)) e), kb' _ _ (ne e1 (fun _ z => nomatch z)) e1, kb' _ _ (ne e2 (fun _ z => nomatch z)) e2, dis⟩, ok1, ok2, ?_⟩ sub gv nv
 exact ⟨su.j0, su.j1, by rw [bk _ _ (by simp)]; exact su'.hf, by rw [bk _ _ (by simp)]; exact su'.hc, by rw [bk _ _ (by simp)]; exact su'.h0, by rw [bk _ _ (by simp)]; exact su'.h1, by rw [cf hbc]; exact su'.hb, su'.hl, su'.st⟩
theorem mX {d : Kd} {g g' : List Key → Option Key} (s : cC g g') : cC (eff d g) (eff d g') := fun k v e => by
 unfold eff at e ⊢
 cases h : d.pl with
 | none => rw [h] at e; exact s _ _ e
 | some p => rw [h] at e; exact s _ _ e
theorem qr {H : Hp} {f p : Addr} {d : Kd} {g : List Key → Option Key} {n : Nat} {k : List Key} {R : VK} (s : Stq A H f d g n) (hn : n ≤ 45000) (hp : H p = some (.tup (k.map kV))) (ok : okT k = true)
    (q : ∀ (v : Key) (H' : Hp) (g' : List Key → Option Key), cE d.a.b H H' → Stq A H' f d g' (n + 1) → cC g g' → eff d g' k = some v → lu k v → R (kV v) H') : kD (eT K A) f [.ref p] H R E0 := by
  cases s with
  | sur kvs h ef ep hg =>
    subst ef hg
    exact lD m0 h (by omega) hp fun v H' kvs' kb su' sub gv ⟨i, i0, i1, ei⟩ => q v H' (aX kvs') kb (.sur kvs' su' rfl ep rfl) sub (by unfold eff; rw [ep]; exact gv) (by rw [ei]; exact ⟨i0, i1⟩)
  | pla k1 k2 kvs h ep hg =>
    subst hg
    exact xf h hn hp ok fun v H' kvs' kb su' sub gv ⟨i, i0, i1, ei⟩ => q v H' (aX kvs') kb (.pla k1 k2 kvs' su' ep rfl) sub (by unfold eff; rw [ep]; exact gv) (by rw [ei]; exact ⟨i0, i1⟩)
end Rs
namespace Rs
open PySem PySem.Spec PyProof.Rows L2
theorem cD.trans {P : Addr} {H H1 H2 : Hp} (a : cD P H H1) (b : cD P H1 H2) : cD P H H2 := fun x o e n => b x o (a x o e n) n
theorem cD.new {P p : Addr} {H : Hp} {o : HO} (h : H p = none) : cD P H (upd H p o) := fun b u e _ => by rw [aK (bj e h)]; exact e
theorem cD.tab {P : Addr} {H : Hp} {o : HO} : cD P H (upd H P o) := fun b u e n => by rw [aK n]; exact e
theorem jn {H : Hp} {P q : Addr} {o : HO} (hP : H P = some o) (hq : H q = none) : q ≠ P := fun e => by rw [e, hP] at hq; cases hq
theorem cv.same {P : Addr} {l c : Nat} {t : cT} {H H' : Hp} (h : cv P l c t H) (s : ay H H') : cv P l c t H' := by
 obtain ⟨ps, h1, h2⟩ := h
 exact ⟨ps, s _ _ h1, h2.imp id fun ⟨a, e, ha⟩ => ⟨a, e, s _ _ ha⟩⟩
theorem CI {P : Addr} {l c : Nat} {t : cT} {H : Hp} {cs : List Addr} {R : V → Hp → Prop} (tb : cv P l c t H)
   (q : ∀ (f d : Addr) (H3 : Hp), H f = none → cD P H H3 → cv P l c t H3 → f ≠ P → d ≠ P → H3 f = some (fw f t cs d) → H3 d = some (fN d t.qual) → R (.ref f) H3) :
   ∃ ps, H P = some (.tbl ps) ∧ ((ps = #[] ∧ ∀ d f, H d = none → H f = none → d ≠ f → R (.ref f) (upd (upd (upd H P (.tbl (ps ++ #[rawInt ((l : Nat) : Int), rawInt ((c : Nat) : Int), .ref d]))) d (fN d t.qual)) f (fw f t cs d))) ∨ ∃ d, ps = #[] ++ #[rawInt ((l : Nat) : Int), rawInt ((c : Nat) : Int), .ref d] ∧ ∀ f, H f = none → R (.ref f) (upd H f (fw f t cs d))) := by
 obtain ⟨ps, hP, tb⟩ := tb
 refine ⟨ps, hP, ?_⟩
 rcases tb with rfl | ⟨d, rfl, hd⟩
 · refine .inl ⟨rfl, fun d f hd hf hne => ?_⟩
   have dP := jn hP hd
   have fP := jn hP hf
   have c1 : ∀ o, upd H P o d = none := fun o => by rw [aK dP]; exact hd
   have f1 : ∀ o, upd (upd H P o) d (fN d t.qual) f = none := fun o => by rw [aK (Ne.symm hne), aK fP]; exact hf
   exact q f d _ hf (cD.tab.trans ((cD.new (c1 _)).trans (cD.new (f1 _)))) ⟨_, by rw [aK (Ne.symm fP), aK (Ne.symm dP), am], .inr ⟨d, rfl, by rw [aK hne, am]⟩⟩ fP dP am (by rw [aK hne, am])
 · refine .inr ⟨d, rfl, fun f hf => ?_⟩
   have fP := jn hP hf
   have dP : d ≠ P := fun z => by subst z; rw [hP] at hd; cases hd
   have S := ay.upd (o := fw f t cs d) hf
   exact q f d _ hf (cD.new hf) ⟨_, S _ _ hP, .inr ⟨d, rfl, S _ _ hd⟩⟩ fP dP am (S _ _ hd)
variable {K : W.Frag} {mg : Str → Option Value} {A : Adr}
theorem Cw (K : W.Frag) (A : Adr) : Ln (oP K A) 1 := by rintro vs H Q E ⟨j, rfl, _⟩; rfl
theorem DE (T : Txt K mg A) (q0 q1 : Addr) (hnd : ([q0, q1] : List Addr).Nodup) (vs : List V) (H : Hp) (Q : VK) (E : XK) (h : oP K A vs H Q E) : BE K A q0 q1 { nx := fun σ H' => (∀ p ∈ ([(0, q0), (1, q1)] : List (Nat × Addr)), H' p.2 = none) → Q .non (ej [(0, q0), (1, q1)] σ H'), rt := fun σ v H' => (∀ p ∈ ([(0, q0), (1, q1)] : List (Nat × Addr)), H' p.2 = none) → Q v (ej [(0, q0), (1, q1)] σ H') } (L2.dk ["_law_first", "_law_known", "_law_number"] vs) H := by
 obtain ⟨j, rfl, j0, j1, tb, q⟩ := h
 have n01 : q0 ≠ q1 := fun e => by simp [e] at hnd
 refine .inr fun b hb => ?_
 have tb1 : fD A (upd H b (.dT [])) := tb.same (ay.upd hb)
 obtain ⟨ps0, hP0, _⟩ := id tb
 have bP : b ≠ A.t_23 := jn hP0 hb
 have S1 : cD A.t_23 H (upd H b (.dT [])) := cD.new hb
 have key : ∀ (f d : Addr) (H3 : Hp), upd H b (.dT []) f = none → cD A.t_23 (upd H b (.dT [])) H3 → fD A H3 → f ≠ A.t_23 → d ≠ A.t_23 → H3 f = some (fw f dE [q1, q0] d) → H3 d = some (fN d dE.qual) →
    ((∀ p ∈ ([(0, q0), (1, q1)] : List (Nat × Addr)), H3 p.2 = none) → Q (.ref f) (upd (upd H3 q0 (bg q0 (.int j))) q1 (bg q1 (.ref b)))) := by
   intro f d H3 hf k3 tb3 fP dP hf3 hd3 hq
   have a0 : H3 q0 = none := hq (0, q0) (by simp)
   have a1 : H3 q1 = none := hq (1, q1) (by simp)
   have a1' : upd H3 q0 (bg q0 (.int j)) q1 = none := by rw [aK (Ne.symm n01)]; exact a1
   have S2 := (ay.upd (o := bg q0 (.int j)) a0).trans (ay.upd (o := bg q1 (.ref b)) a1')
   refine q ⟨f, b, q0, q1, d, j⟩ _ (S1.trans (k3.trans fun x o e _ => S2 _ _ e)) (tb3.same S2) hb ⟨j0, j1, S2 _ _ hf3, S2 _ _ hd3, ?_, am, S2 _ _ (k3 _ _ am bP), Nat.le_refl _, fun i p h => by cases h⟩
   show upd (upd H3 q0 (bg q0 (.int j))) q1 _ q0 = _
   rw [aK n01, am]
 obtain ⟨ps, hP, h⟩ := CI (cs := [q1, q0]) (R := fun v H3 => ∀ f, v = .ref f → (∀ p ∈ ([(0, q0), (1, q1)] : List (Nat × Addr)), H3 p.2 = none) → Q (.ref f) (upd (upd H3 q0 (bg q0 (.int j))) q1 (bg q1 (.ref b)))) tb1
   (fun f d H3 hf k3 tb3 fP dP hf3 hd3 f' ef => by cases ef; exact key f d H3 hf k3 tb3 fP dP hf3 hd3)
 rcases h with ⟨rfl, h⟩ | ⟨d, rfl, h⟩
 · exact ⟨_, hP, trivial, .inl ⟨rfl, fun c f hc hf hne hq => h c f hc hf hne f rfl hq⟩⟩
 · exact ⟨_, hP, trivial, .inr ⟨d, rfl, fun f hf hq => h f hf f rfl hq⟩⟩
theorem Dm (K : W.Frag) (A : Adr) : Ln (lU K A) 3 := by rintro vs H Q E ⟨o1, o2, a, k1, k2, kvs, n, rfl, _⟩; rfl
theorem Eu (T : Txt K mg A) (q0 q1 q2 : Addr) (hnd : ([q0, q1, q2] : List Addr).Nodup) (vs : List V) (H : Hp) (Q : VK) (E : XK) (h : lU K A vs H Q E) : Bc K A q0 q1 q2 { nx := fun σ H' => (∀ p ∈ ([(0, q0), (1, q1), (2, q2)] : List (Nat × Addr)), H' p.2 = none) → Q .non (ej [(0, q0), (1, q1), (2, q2)] σ H'), rt := fun σ v H' => (∀ p ∈ ([(0, q0), (1, q1), (2, q2)] : List (Nat × Addr)), H' p.2 = none) → Q v (ej [(0, q0), (1, q1), (2, q2)] σ H') } (L2.dk ["_law_sure_one", "_law_one", "_law_other", "_law_number"] vs) H := by
 obtain ⟨o1, o2, a, k1, k2, kvs, n, rfl, h1, h2, ok1, ok2, su, tb, q⟩ := h
 have n01 : q0 ≠ q1 := fun e => by simp [e] at hnd
 have n02 : q0 ≠ q2 := fun e => by simp [e] at hnd
 have n12 : q1 ≠ q2 := fun e => by simp [e] at hnd
 obtain ⟨ps0, hP0, _⟩ := id tb
 have nP : ∀ {x : Addr} {o : HO}, H x = some o → (∀ ps, o ≠ .tbl ps) → x ≠ A.t_15 := fun e hn z => by subst z; rw [hP0] at e; cases e; exact hn _ rfl
 have key : ∀ (f d : Addr) (H3 : Hp), H f = none → cD A.t_15 H H3 → fS A H3 → f ≠ A.t_15 → d ≠ A.t_15 → H3 f = some (fw f fM [q0, q2, q1] d) → H3 d = some (fN d fM.qual) →
     ((∀ p ∈ ([(0, q0), (1, q1), (2, q2)] : List (Nat × Addr)), H3 p.2 = none) → Q (.ref f) (upd (upd (upd H3 q0 (bg q0 (.ref a.f))) q1 (bg q1 (.ref o1))) q2 (bg q2 (.ref o2)))) := by
   intro f d H3 hf k3 tb3 fP dP hf3 hd3 hq
   have a0 : H3 q0 = none := hq (0, q0) (by simp)
   have a1 : H3 q1 = none := hq (1, q1) (by simp)
   have a2 : H3 q2 = none := hq (2, q2) (by simp)
   have a1' : upd H3 q0 (bg q0 (.ref a.f)) q1 = none := by rw [aK (Ne.symm n01)]; exact a1
   have a2' : upd (upd H3 q0 (bg q0 (.ref a.f))) q1 (bg q1 (.ref o1)) q2 = none := by rw [aK (Ne.symm n12), aK (Ne.symm n02)]; exact a2
   have S2 := (ay.upd (o := bg q0 (.ref a.f)) a0).trans ((ay.upd (o := bg q1 (.ref o1)) a1').trans (ay.upd (o := bg q2 (.ref o2)) a2'))
   have kk : cD A.t_15 H (upd (upd (upd H3 q0 (bg q0 (.ref a.f))) q1 (bg q1 (.ref o1))) q2 (bg q2 (.ref o2))) := k3.trans fun x o e _ => S2 _ _ e
   have z0 : upd (upd (upd H3 q0 (bg q0 (.ref a.f))) q1 (bg q1 (.ref o1))) q2 (bg q2 (.ref o2)) q0 = some (bg q0 (.ref a.f)) := by rw [aK n02, aK n01, am]
   have z1 : upd (upd (upd H3 q0 (bg q0 (.ref a.f))) q1 (bg q1 (.ref o1))) q2 (bg q2 (.ref o2)) q1 = some (bg q1 (.ref o1)) := by rw [aK n12, am]
   have z2 : upd (upd (upd H3 q0 (bg q0 (.ref a.f))) q1 (bg q1 (.ref o1))) q2 (bg q2 (.ref o2)) q2 = some (bg q2 (.ref o2)) := am
   have hx : ∀ {x : Addr} {o : HO}, H x = some o → (∀ ps, o ≠ .tbl ps) → x ∉ [q0, q2, q1] := fun e hn z => by
     have e3 := k3 _ _ e (nP e hn)
     simp only [List.mem_cons, List.not_mem_nil, or_false] at z
     rcases z with rfl | rfl | rfl
     · rw [a0] at e3; cases e3
     · rw [a2] at e3; cases e3
     · rw [a1] at e3; cases e3
   refine q f _ kk (tb3.same S2) ⟨⟨q0, q1, q2, o1, o2, ⟨⟨d, S2 _ _ hf3, S2 _ _ hd3⟩, .cons z0 (.cons z2 (.cons z1 .nil))⟩, kk _ _ h1 (nP h1 (fun _ z => nomatch z)), kk _ _ h2 (nP h2 (fun _ z => nomatch z)), fun x hm => ?_⟩, ok1, ok2, su.keepB (Nat.le_refl _) fun x o e _ _ nt => kk _ _ e (nP e nt)⟩
   simp only [List.mem_cons, List.not_mem_nil, or_false] at hm
   rcases hm with rfl | rfl | rfl | rfl
   · exact hx su.hf (fun _ z => nomatch z)
   · exact hx su.h0 (fun _ z => nomatch z)
   · exact hx su.h1 (fun _ z => nomatch z)
   · exact hx su.hc (fun _ z => nomatch z)
 obtain ⟨ps, hP, h⟩ := CI (cs := [q0, q2, q1]) (R := fun v H3 => ∀ f, v = .ref f → (∀ p ∈ ([(0, q0), (1, q1), (2, q2)] : List (Nat × Addr)), H3 p.2 = none) → Q (.ref f) (upd (upd (upd H3 q0 (bg q0 (.ref a.f))) q1 (bg q1 (.ref o1))) q2 (bg q2 (.ref o2)))) tb
   (fun f d H3 hf k3 tb3 fP dP hf3 hd3 f' ef => by cases ef; exact key f d H3 hf k3 tb3 fP dP hf3 hd3)
 rcases h with ⟨rfl, h⟩ | ⟨d, rfl, h⟩
 · exact ⟨_, hP, trivial, .inl ⟨rfl, fun c f hc hf hne hq => h c f hc hf hne f rfl hq⟩⟩
 · exact ⟨_, hP, trivial, .inr ⟨d, rfl, fun f hf hq => h f hf f rfl hq⟩⟩
end Rs
namespace Rs
open PySem PySem.Spec PyProof.Rows L2
theorem aE.rfl' {H : Hp} : aE H H := fun _ _ e _ => e
theorem aE.trans {H H1 H2 : Hp} (a : aE H H1) (b : aE H1 H2) : aE H H2 := fun x o e n => b x o (a x o e n) n
theorem aE.same {H H' : Hp} (S : ay H H') : aE H H' := fun x o e _ => S x o e
theorem aE.tup {H H' : Hp} (k : aE H H') : ∀ b xs, H b = some (.tup xs) → H' b = some (.tup xs) := fun b xs e => k b _ e fun _ z => nomatch z
theorem cE.keepT {H H' : Hp} {b : Addr} {kvs : List (List Key × V)} (hb : H b = some (.dT kvs)) (k : cE b H H') : aE H H' := fun x o e n => k x o (fun z => by subst z; rw [hb] at e; cases e; exact n _ rfl) e
theorem cE.obj {d : Addr} {H H' : Hp} (k : cE d H H') (hd : ∃ kvs, H d = some (.dT kvs)) {x : Addr} {o : HO} (e : H x = some o) (hn : ∀ kvs, o ≠ .dT kvs) : H' x = some o := k _ _ (fun z => by obtain ⟨kvs, hd⟩ := hd; subst z; rw [hd] at e; cases e; exact hn _ rfl) e
theorem Sub.rfl' {g : SG} : Sub g g := ⟨rfl, cC.rfl'⟩
theorem Sub.trans {a b c : SG} (h : Sub a b) (k : Sub b c) : Sub a c := ⟨h.1.trans k.1, cC.trans h.2 k.2⟩
theorem Ext.of {g g' : SG} {h : List Key → Key} (e : Ext g' h) (s : Sub g g') : Ext g h := fun k v hk => by
 obtain ⟨d, g⟩ := g
 obtain ⟨d', g'⟩ := g'
 obtain ⟨rfl, s⟩ := s
 exact e k v (mX s k v hk)
def dJ (g : SG) : List Key → Key := fun k => (g.e k).getD (.inl 0)
theorem bv (g : SG) : Ext g (dJ g) := fun k v e => by unfold dJ; rw [e]; rfl
theorem Stq.dict' {A : Adr} {H : Hp} {f : Addr} {d : Kd} {g : List Key → Option Key} {n : Nat} (s : Stq A H f d g n) : ∃ kvs, H d.a.b = some (.dT kvs) := by
 cases s with
 | sur kvs h ef ep hg => exact ⟨_, h.hb⟩
 | pla k1 k2 kvs h ep hg => exact ⟨_, h.su.hb⟩
variable {K : W.Frag} {mg : Str → Option Value} {A : Adr}
theorem Stp.clo {H : Hp} {f : Addr} {g : SG} {n : Nat} (s : Stp A H f g n) : ∃ ts ∈ eT K A, ∃ cs cvs, gy H f ts.1 cs cvs := Stq.clo s
theorem Stp.keep {H H' : Hp} {f : Addr} {g : SG} {n m : Nat} (s : Stp A H f g n) (hn : n ≤ m) (k : ∀ b o, H b = some o → (∀ xs, o ≠ .lst xs) → (∀ ps, o ≠ .tbl ps) → H' b = some o) : Stp A H' f g m := Stq.keep s hn fun b o e n1 _ n3 => k b o e n1 n3
theorem Stp.same {H H' : Hp} {f : Addr} {g : SG} {n m : Nat} (s : Stp A H f g n) (hn : n ≤ m) (S : ay H H') : Stp A H' f g m := s.keep hn fun b o e _ _ => S b o e
theorem ii {H : Hp} {f p : Addr} {g : SG} {n : Nat} {k : List Key} {R : VK} (s : Stp A H f g n) (hn : n ≤ 45000) (hp : H p = some (.tup (k.map kV))) (ok : okT k = true)
  (q : ∀ (v : Key) (H' : Hp) (g' : SG), aE H H' → Stp A H' f g' (n + 1) → Sub g g' → g'.e k = some v → lu k v → R (kV v) H') : kD (eT K A) f [.ref p] H R E0 := by
 obtain ⟨kvs, hb⟩ := Stq.dict' s
 exact qr s hn hp ok fun v H' g' kb s' sub e so => q v H' ⟨g.d, g'⟩ (kb.keepT hb) s' ⟨rfl, sub⟩ e so
end Rs
namespace Rs
open PySem PySem.Spec PyProof.Rows L2
mutual
def iS : Dat → Bool
 | .lst _ => false
 | .tup ds => tupDs ds
 | .non => true
 | .bl _ => true
 | .int _ => true
 | .str _ => true
 | .dic => false
def tupDs : List Dat → Bool
 | [] => true
 | d :: r => iS d && tupDs r
end
mutual
theorem aP.keepT {H H' : Hp} {v : V} {d : Dat} (h : aP H v d) (k : ∀ b xs, H b = some (.tup xs) → H' b = some (.tup xs)) (t : iS d = true) : aP H' v d := by
 cases h with
 | non => exact .non
 | bl b => exact .bl b
 | int i => exact .int i
 | str z => exact .str z
 | lst e r => cases t
 | tup e r => exact .tup (k _ _ e) (DatWs.keepT r k t)
 | dic e => cases t
theorem DatWs.keepT {H H' : Hp} {xs : List V} {ds : List Dat} (h : DatWs H xs ds) (k : ∀ b xs, H b = some (.tup xs) → H' b = some (.tup xs)) (t : tupDs ds = true) : DatWs H' xs ds := by
  cases h with
  | nil => exact .nil
  | cons a r =>
    have t : (iS _ && tupDs _) = true := t
    rw [Bool.and_eq_true] at t
    exact .cons (aP.keepT a k t.1) (DatWs.keepT r k t.2)
end
theorem mU (x : Key) : iS (bc x) = true := by cases x <;> rfl
theorem lC : ∀ e : List Key, tupDs (e.map bc) = true
 | [] => rfl
 | x :: r => by show (iS (bc x) && tupDs (r.map bc)) = true; rw [mU, lC r]; rfl
theorem kn : ∀ st : List (Int × Key), tupDs (st.map stD) = true
  | [] => rfl
  | s :: r => by
    show ((true && (iS (bc s.2) && true)) && tupDs (r.map stD)) = true
    rw [mU, kn r]; rfl
theorem iF.keep {H H' : Hp} {v : V} {b k : Int} {st : List (Int × Key)} {e : List Key} (h : iF H v b k st e) (kt : ∀ b xs, H b = some (.tup xs) → H' b = some (.tup xs)) : iF H' v b k st e := by
 refine ⟨h.1.keepT kt ?_, h.2⟩
 show (tupDs (st.map stD) && (tupDs (e.map bc) && true)) = true
 rw [kn, lC]; rfl
theorem qy {b l : Int} {d : Dat} (hl : 0 ≤ l) (h : bU b 0 d = false) : bU b l d = false := by
 unfold bU at h ⊢
 split at h
 · rename_i i m
   rw [Bool.and_eq_false_iff] at h ⊢
   rcases h with h | h
   · left
     have h := of_decide_eq_false h
     exact decide_eq_false (by omega)
   · exact .inr h
 · rfl
theorem qQ {b l : Int} {s : Dat} (hl : 0 ≤ l) (h : bU b l s = true) : l ≤ eu s ∧ eu s < b := by
 obtain ⟨i, m, rfl⟩ := iq h
 have h : (decide (l ≤ i ∧ i < b) && bX m) = true := h
 rw [Bool.and_eq_true, decide_eq_true_eq] at h
 exact h.1
theorem kf {b : Int} {d : Dat} (h : bU b 0 d = false) : ∀ {ds : List Dat} {l : Int} {j : Nat}, 0 ≤ l → ds[j]? = some d → bu b l ds = false
  | [], l, j, _, e => by cases e
  | s :: r, l, j, hl, e => by
    show (bU b l s && bu b (eu s + 1) r) = false
    cases hs : bU b l s with
    | false => rfl
    | true =>
      have := qQ hl hs
      cases j with
      | zero =>
        have e : s = d := Option.some.inj e
        rw [e, qy hl h] at hs; cases hs
      | succ j =>
        have e : r[j]? = some d := e
        rw [kf h (by omega) e]; rfl
theorem km {b : Int} : ∀ {ds : List Dat} {l : Int}, 0 ≤ l → l ≤ b → bu b l ds = true → (ds.length : Int) ≤ b - l
  | [], l, _, h, _ => by simp; omega
  | s :: r, l, hl, hb, h => by
    have h : (bU b l s && bu b (eu s + 1) r) = true := h
    rw [Bool.and_eq_true] at h
    have := qQ hl h.1
    have := km (by omega) (by omega) h.2
    rw [List.length_cons]; omega
theorem ko {x : Key} (h1 : bX (bc x) = true) (h2 : okD (bc x) = true) : okP x = true := by
 cases x with
 | inl i => exact h1
 | inr z => exact h2
theorem gK {x : Key} (h : okP x = true) : okD (bc x) = true ∧ bX (bc x) = true := by
 cases x with
 | inl i => exact ⟨rfl, h⟩
 | inr z => exact ⟨h, rfl⟩
theorem jU : ∀ {e : List Key}, e.all okP = true → okDs (e.map bc) = true
  | [], _ => rfl
  | x :: r, h => by
    rw [List.all_cons, Bool.and_eq_true] at h
    show (okD (bc x) && okDs (r.map bc)) = true
    rw [(gK h.1).1, jU h.2]; rfl
theorem mY : ∀ e : List Key, PyData.depthAll (toPys (e.map bc)) = 0
  | [] => rfl
  | x :: r => by
    show max (cO (bc x)).depth (PyData.depthAll (toPys (r.map bc))) = 0
    rw [nh, mY r]; rfl
theorem gp.step {b k : Int} {st : List (Int × Key)} {e : List Key} (g : gp b k st e) {i : Nat} {s : Int × Key} (h : st[i]? = some s) : 0 ≤ s.1 ∧ s.1 < b ∧ okP s.2 = true := by
 have hi : (st.map stD)[i]? = some (stD s) := by rw [List.getElem?_map, h]; rfl
 have hs : bU b 0 (stD s) = true := by
  cases hh : bU b 0 (stD s) with
  | true => rfl
  | false => have := kf hh (Int.le_refl 0) hi; rw [g.gs] at this; cases this
 have hs : (decide (0 ≤ s.1 ∧ s.1 < b) && bX (bc s.2)) = true := hs
 rw [Bool.and_eq_true, decide_eq_true_eq] at hs
 exact ⟨hs.1.1, hs.1.2, g.so s (List.mem_of_getElem? h)⟩
theorem gp.len {b k : Int} {st : List (Int × Key)} {e : List Key} (g : gp b k st e) : st.length ≤ 60 := by
 have h1 := km (Int.le_refl 0) (by have := g.b1; omega) g.gs
 have h2 := g.b60
 have h3 : ((st.map stD).length : Int) = st.length := by simp
 omega
theorem Im {x y z : Key} (hx : okP x = true) (hy : okP y = true) (hz : okP z = true) (h : mv x = true) : okT [x, y, z] = true := by
 show (true && mv x && (okP x && (okP y && (okP z && true)))) = true
 rw [h, hx, hy, hz]; rfl
theorem sm {x y z u v : Key} (hx : okP x = true) (hy : okP y = true) (hz : okP z = true) (hu : okP u = true) (hv : okP v = true) (h : mv x = true) : okT [x, y, z, u, v] = true := by
 show (true && mv x && (okP x && (okP y && (okP z && (okP u && (okP v && true)))))) = true
 rw [h, hx, hy, hz, hu, hv]; rfl
theorem jc : okP (.inr "fork") = true ∧ okP (.inr "leaf") = true ∧ okP (.inr "bare") = true := by decide +kernel
theorem iU : szK (.inr "fork") = 66 ∧ szK (.inr "leaf") = 66 ∧ szK (.inr "bare") = 66 := by decide +kernel
theorem lm {i : Int} (h0 : 0 ≤ i) (h1 : i < 10 ^ 60) : okP (.inl i) = true := decide_eq_true ⟨h0, h1⟩
theorem tB {b k d : Int} (d0 : 0 ≤ d) (hd : d ≤ b) (hb : b ≤ 60) (k0 : 0 ≤ k) (k1 : k < 2 ^ b.toNat) : 0 ≤ aw b k d ∧ aw b k d < 10 ^ 60 := by
 refine ⟨tF k0, ?_⟩
 have h1 := uM d0 hd k1
 have h2 := zM (k := d.toNat) (by omega)
 have q60 : (2 : Int) ^ 60 < 10 ^ 60 := by decide +kernel
 omega
theorem iV {k : List Key} {v : Key} (h : lu k v) (hk : szT k ≤ 100000) : okP v = true ∧ szK v ≤ szT k + 62 := by
 cases v with
 | inl i => exact ⟨decide_eq_true h, by show 62 ≤ _; omega⟩
 | inr z => exact h.elim
theorem zP {k : List Key} {v : Key} (h : lu k v) : szK v = 62 := by
 cases v with
 | inl i => rfl
 | inr z => exact h.elim
theorem wD {b k d : Int} {m s : Key} (hd : okP (.inl d) = true) (hb : okP (.inl (aw b k d)) = true) (hm : okP m = true) (hs : okP s = true) : okT (cN b k d m s) = true ∧ szT (cN b k d m s) = 190 + szK m + szK s := by
 unfold cN
 split
 · refine ⟨sm jc.1 hd hb hs hm rfl, ?_⟩
   show ([szK (.inr "fork"), 62, 62, szK s, szK m] : List Nat).sum = _
   rw [iU.1]; simp; omega
 · refine ⟨sm jc.1 hd hb hm hs rfl, ?_⟩
   show ([szK (.inr "fork"), 62, 62, szK m, szK s] : List Nat).sum = _
   rw [iU.1]; simp; omega
theorem chain_last (h : List Key → Key) (b k : Int) : ∀ (r : List (Int × Key)) (e : List Key), ∃ pre, cQ h b k e r = pre ++ [eK h b k e r]
  | [], e => ⟨[], rfl⟩
  | s :: r, e => by
    obtain ⟨pre, hp⟩ := chain_last h b k r (cN b k s.1 s.2 (h e))
    exact ⟨e :: pre, by show e :: cQ h b k _ r = _; rw [hp]; rfl⟩
theorem qM {g : SG} {b k : Int} {e : List Key} {r : List (Int × Key)} {ts : List (List Key)} (h : ∀ f, Ext g f → ts = cQ f b k e r) : ∃ pre cur, ts = pre ++ [cur] ∧ ∀ f, Ext g f → eK f b k e r = cur := by
 obtain ⟨pre, hp⟩ := chain_last (dJ g) b k r e
 have h0 := h _ (bv g)
 refine ⟨pre, eK (dJ g) b k e r, by rw [h0, hp], fun f hf => ?_⟩
 obtain ⟨pre', hp'⟩ := chain_last f b k r e
 have h1 := h f hf
 rw [hp'] at h1
 rw [hp] at h0
 rw [h0] at h1
 have := congrArg List.getLast? h1
 simp at this
 exact this.symm
theorem mR {H : Hp} {ps : List Addr} {ts : List (List Key)} {p : Addr} {t : List Key} (h : PK H ps ts) (e : H p = some (.tup (t.map kV)) ∧ okT t = true) : PK H (ps ++ [p]) (ts ++ [t]) := by
 induction h with
 | nil => exact .cons e .nil
 | cons r t ih => exact .cons r ih
theorem cy {H H' : Hp} {ps : List Addr} {ts : List (List Key)} (k : ∀ b xs, H b = some (.tup xs) → H' b = some (.tup xs)) (h : PK H ps ts) : PK H' ps ts := L2.Paired.imp' (fun p x e => ⟨k _ _ e.1, e.2⟩) h
theorem fh {H : Hp} {ps : List Addr} {pre : List (List Key)} {cur : List Key} (h : PK H ps (pre ++ [cur])) : ∃ qs p, ps = qs ++ [p] ∧ H p = some (.tup (cur.map kV)) ∧ okT cur = true := by
 have hl := fH h
 obtain ⟨p, hp, h2⟩ := tX h (i := pre.length) (t := cur) (by simp)
 have hn : ps ≠ [] := by intro z; subst z; simp at hl
 refine ⟨ps.dropLast, p, ?_, h2⟩
 have : ps.getLast? = some p := by
  rw [List.getLast?_eq_getElem?]
  have : ps.length - 1 = pre.length := by simp at hl; omega
  rw [this]; exact hp
 obtain ⟨ys, hy⟩ := List.getLast?_eq_some_iff.mp this
 rw [hy]; simp
theorem cx {K : W.Frag} {H : Hp} {Q : VK} {L : Addr} {qs : List Addr} {p : Addr} (hL : H L = some (.lst ((qs ++ [p]).map V.ref))) (q : Q (.ref p) H) : aq K (.ref L) (.int (-1)) H Q := by
 refine .inl (.inl ⟨L, _, -1, .ref p, rfl, rfl, SqL.of hL, ?_, q⟩)
 rw [List.map_append]
 exact wT _ _
structure At (A : Adr) (H : Hp) (f : Addr) (b k : Int) (st : List (Int × Key)) (e : List Key) (g : SG) (n : Nat) (L : Addr) (i : Nat) (H' : Hp) (ps : List Addr) (pre : List (List Key)) (cur : List Key) (g' : SG) : Prop where
 kt : aE H H'
 sp : Stp A H' f g' (n + i)
 sub : Sub g g'
 hL : H' L = some (.lst (ps.map V.ref))
 pk : PK H' ps (pre ++ [cur])
 pl : pre.length = i
 sz : szT cur + szS (st.reverse.drop i) ≤ 100000
 ch : ∀ h, Ext g' h → cQ h b k e st.reverse = pre ++ cQ h b k cur (st.reverse.drop i)
variable {K : W.Frag} {mg : Str → Option Value} {A : Adr} {H : Hp} {f : Addr} {b k : Int} {st : List (Int × Key)} {e : List Key} {g : SG} {n : Nat} {L : Addr}
theorem At.next {i : Nat} {H1 H2 : Hp} {ps : List Addr} {pre : List (List Key)} {cur : List Key} {g1 g2 : SG} {s : Int × Key} {v : Key} {t : Addr}
   (a : At A H f b k st e g n L i H1 ps pre cur g1) (gd : gp b k st e) (hi : st.reverse[i]? = some s) (hLn : H L = none) (kt : aE H1 H2) (sp : Stp A H2 f g2 (n + i + 1)) (sub : Sub g1 g2) (gv : g2.e cur = some v) (so : lu cur v) (ht : H2 t = none) :
   At A H f b k st e g n L (i + 1) (upd (upd H2 t (.tup ((cN b k s.1 s.2 v).map kV))) L (.lst ((ps ++ [t]).map V.ref))) (ps ++ [t]) (pre ++ [cur]) (cN b k s.1 s.2 v) g2 := by
 have hil : i < st.length := by
   rcases Nat.lt_or_ge i st.length with h | h
   · exact h
   · rw [List.getElem?_eq_none (by simp; exact h)] at hi; cases hi
 have gl := gd.len
 have hst : st[st.length - 1 - i]? = some s := by rw [← hi, List.getElem?_reverse hil]
 obtain ⟨d0, d1, mo⟩ := gd.step hst
 have hd : st.reverse.drop i = s :: st.reverse.drop (i + 1) := by
   rw [List.drop_eq_getElem_cons (by simp; exact hil)]
   have : st.reverse[i]? = some (st.reverse[i]'(by simp; exact hil)) := List.getElem?_eq_getElem _
   rw [this] at hi; cases hi; rfl
 have sz : szT cur + (szK s.2 + 252 + szS (st.reverse.drop (i + 1))) ≤ 100000 := by have := a.sz; rw [hd] at this; exact this
 have hL2 : H2 L = some (.lst (ps.map V.ref)) := kt _ _ a.hL fun _ z => nomatch z
 have tL : t ≠ L := fun z => by subst z; rw [hL2] at ht; cases ht
 have S1 := ay.upd (o := .tup ((cN b k s.1 s.2 v).map kV)) ht
 have hb60 := gd.b60
 have p60 : (60 : Int) < 10 ^ 60 := by decide +kernel
 have vs := iV so (by omega)
 have sd := tB (b := b) (k := k) (d := s.1) d0 (by omega) gd.b60 gd.k0 gd.k1
 have fo := wD (b := b) (k := k) (lm d0 (by omega)) (lm sd.1 sd.2) mo vs.1
 have kp : ∀ x o, x ≠ L → upd H2 t (.tup ((cN b k s.1 s.2 v).map kV)) x = some o → upd (upd H2 t (.tup ((cN b k s.1 s.2 v).map kV))) L (.lst ((ps ++ [t]).map V.ref)) x = some o := fun x o h z => by rw [aK h]; exact z
 have nl : ∀ x xs, H2 x = some (.tup xs) → x ≠ L := fun x xs h z => by subst z; rw [hL2] at h; cases h
 have ktt : ∀ x xs, H2 x = some (.tup xs) → upd (upd H2 t (.tup ((cN b k s.1 s.2 v).map kV))) L (.lst ((ps ++ [t]).map V.ref)) x = some (.tup xs) := fun x xs h => kp _ _ (nl _ _ h) (S1 _ _ h)
 refine ⟨fun x o h nd => ?_, ?_, a.sub.trans sub, am, ?_, by simp [a.pl], ?_, fun hh he => ?_⟩
 · exact kp _ _ (bj h hLn) (S1 _ _ (kt _ _ (a.kt _ _ h nd) nd))
 · refine sp.keep (by omega) fun x o h n1 _ => kp _ _ (fun z => ?_) (S1 _ _ h)
   subst z; rw [hL2] at h; cases h; exact n1 _ rfl
 · exact mR (cy ktt (cy kt.tup a.pk)) ⟨kp _ _ tL am, fo.1⟩
 · rw [fo.2]; have := vs.2; omega
 · rw [a.ch hh (he.of sub)]
   rw [hd]
   show pre ++ (cur :: cQ hh b k (cN b k s.1 s.2 (hh cur)) _) = _
   rw [he cur v gv]
   simp
theorem At.done {H' : Hp} {ps : List Addr} {pre : List (List Key)} {cur : List Key} {g' : SG} (a : At A H f b k st e g n L st.length H' ps pre cur g') : ∀ h, Ext g' h → pre ++ [cur] = cQ h b k e st.reverse := fun h he => by
 rw [a.ch h he]
 have : st.reverse.drop st.length = [] := by rw [List.drop_eq_nil_iff]; simp
 rw [this]; rfl
end Rs
namespace Rs
open PySem PySem.Spec PyProof.Rows L2
variable {K : W.Frag} {mg : Str → Option Value} {A : Adr}
theorem Bo {H : Hp} {st : List (Int × Key)} {xs : List V} (w : DatWs H xs (st.map stD)) {i : Nat} (hi : i < xs.length) : ∃ s p, st.reverse[i]? = some s ∧ xs.reverse.getD i .non = .ref p ∧ H p = some (.tup [.int s.1, kV s.2]) := by
 have hl : xs.length = st.length := by rw [w.len]; simp
 obtain ⟨x, hx⟩ : ∃ x, xs[xs.length - 1 - i]? = some x := ⟨_, List.getElem?_eq_getElem (by omega)⟩
 obtain ⟨s, p, hs, rfl, hp⟩ := ue w hx
 refine ⟨s, p, ?_, ?_, hp⟩
 · rw [List.getElem?_reverse (by omega), ← hs, hl]
 · rw [List.getD_eq_getElem?_getD, List.getElem?_reverse hi, hx]; rfl
theorem rX {ps : List Addr} {H : Hp} {ts : List (List Key)} (h : PK H ps ts) (ht : ts.length ≤ 100) : (ps.map V.ref).length < sizeLine := by
 rw [List.length_map, fH h]; exact iH (by omega)
theorem zk (st : List (Int × Key)) : szS st.reverse = szS st := by unfold szS; rw [List.map_reverse, List.sum_reverse]
theorem gp.okE {b k : Int} {st : List (Int × Key)} {e : List Key} (g : gp b k st e) : gL (.tup (e.map bc)) := .inl ⟨jU (nA g.et), by show PyData.depthAll (toPys (e.map bc)) + 1 ≤ 140; rw [mY]; decide⟩
theorem gp.slip {b k : Int} {st : List (Int × Key)} {e : List Key} (g : gp b k st e) : kI b k (.tup [.tup (st.map stD), .tup (e.map bc)]) = true := by
 show (bu b 0 (st.map stD) && eN b k (jf (st.map stD)) (.tup (e.map bc))) = true
 have : jf (st.map stD) = dQ 0 (st.map stD) := rfl
 rw [g.gs, this, g.en]; rfl
theorem At.zero {H H1 : Hp} {f t L : Addr} {b k : Int} {st : List (Int × Key)} {e : List Key} {g : SG} {n : Nat} (S : ay H H1) (gd : gp b k st e) (sp : Stp A H f g n) (ht : H t = some (.tup (e.map kV))) (hL : H1 L = none) : At A H f b k st e g n L 0 (upd H1 L (.lst [.ref t])) [t] [] e g := by
 have S2 := S.trans (ay.upd (o := .lst [V.ref t]) hL)
 exact ⟨aE.same S2, sp.same (Nat.le_refl _) S2, Sub.rfl', am, .cons ⟨S2 _ _ ht, gd.et⟩ .nil, rfl, by rw [List.drop_zero, zk]; exact gd.sz, fun h _ => rfl⟩
theorem Aj (K : W.Frag) (A : Adr) : Ln (mJ K A) 4 := by rintro vs H Q E ⟨f, b, k, v, st, e, g, n, rfl, _⟩; rfl
theorem Fk (T : Txt K mg A) : Rd (mJ K A) (GW K A) ["stamper", "bits", "key", "slip", "terms", "step"] := by
 intro vs H Q E h
 obtain ⟨f, b, k, v, st, e, g, n, rfl, w, sp, hn, q⟩ := h
 have gd := w.2
 have gl := gd.len
 have hb1 := gd.b1
 obtain ⟨a, s, t, xs, rfl, ha, hs, ws, ht⟩ := rf w
 have hxl : xs.length = st.length := by rw [ws.len]; simp
 refine ⟨b, .int k, .int k, rfl, by omega, gd.b60, .int k, Sel.no (by show (!decide (0 ≤ k ∧ k < 2 ^ b.toNat)) = false; rw [decide_eq_true ⟨gd.k0, gd.k1⟩]; rfl) ?_⟩
 refine ⟨b, k, .ref a, _, rfl, by omega, gd.b60, w.1, gd.okE, fun H0 S0 => ?_⟩
 rw [gd.slip]
 refine Sel.no rfl ?_
 refine ixT (j := 1) (S0 _ _ ha) rfl rfl ⟨bo (n := 1) (by decide), fun L hL => ?_⟩
 have hLn : H L = none := by
   cases z : H L with
   | none => rfl
   | some o => rw [S0 _ _ z] at hL; cases hL
 have S1 := S0.trans (ay.upd (o := .lst [V.ref t]) hL)
 have a0 := At.zero (A := A) S0 gd sp ht hL
 refine ixT (j := 0) (S1 _ _ ha) rfl rfl ⟨s, xs, rfl, SqT.of (S1 _ _ hs), ?_⟩
 refine vg (fv.rev .non) (fun i σ H' => ∃ ps pre cur g' x5, σ = [some (.ref f), some (.int b), some (.int k), some (.ref a), some (.ref L), x5] ∧ At A H f b k st e g n L i H' ps pre cur g')
   ⟨[t], [], e, g, none, rfl, a0⟩ ?_ ?_ ?_
 · rintro i σ H1 _ ⟨ps, pre, cur, g1, x5, rfl, a1⟩
   exact SqT.of (a1.kt.tup _ _ hs)
 · rintro i σ H1 hi ⟨ps, pre, cur, g1, x5, rfl, a1⟩
   obtain ⟨sk, p, hsk, ep, hp⟩ := Bo ws hi
   rw [ep]
   have hi' : i < st.length := by omega
   obtain ⟨d0, d1, _⟩ := gd.step (i := st.length - 1 - i) (s := sk) (by rw [← hsk, List.getElem?_reverse hi'])
   obtain ⟨qs, pc, rfl, hpc, okc⟩ := fh a1.pk
   refine ⟨.inl ⟨rfl, _, SqL.of a1.hL⟩, ?_⟩
   refine ⟨f, rfl, a1.sp.clo, cx a1.hL (ii a1.sp (by omega) hpc okc fun v H2 g2 kt sp2 sub gv so => ?_)⟩
   have hL2 : H2 L = some (.lst ((qs ++ [pc]).map V.ref)) := kt _ _ a1.hL fun _ z => nomatch z
   refine ⟨b, k, sk.1, sk.2, v, p, rfl, kt.tup _ _ (a1.kt.tup _ _ hp), d1, gd.k0, fun t1 h1 => ?_⟩
   have hlen : ((qs ++ [pc]).map V.ref).length < sizeLine := rX a1.pk (by have := a1.pl; simp; omega)
   refine ⟨L, _, .ref t1, rfl, rfl, ay.upd h1 _ _ hL2, hlen, ?_⟩
   have ml : (qs ++ [pc]).map V.ref ++ [V.ref t1] = (qs ++ [pc] ++ [t1]).map V.ref := by simp
   rw [ml]
   exact ⟨_, _, _, g2, _, rfl, a1.next gd hsk hLn kt sp2 sub gv so h1⟩
 · rintro σ H1 ⟨ps, pre, cur, g1, x5, rfl, a1⟩
   rw [hxl] at a1
   exact q L ps _ g1 H1 a1.kt a1.sp a1.sub hLn a1.hL a1.pk a1.done
theorem AV (K : W.Frag) (A : Adr) : Ln (lY K A) 4 := by rintro vs H Q E ⟨f, b, k, v, st, e, g, n, rfl, _⟩; rfl
theorem FR (T : Txt K mg A) : Rd (lY K A) (HH K A) ["stamper", "bits", "key", "slip"] := by
 intro vs H Q E h
 obtain ⟨f, b, k, v, st, e, g, n, rfl, w, sp, hn, q⟩ := h
 have gl := w.2.len
 refine ⟨f, rfl, sp.clo, f, b, k, v, st, e, g, n, rfl, w, sp, hn, fun L ps ts g1 H1 kt sp1 sub hLn hL pk ch => ?_⟩
 obtain ⟨pre, cur, rfl, hc⟩ := qM ch
 obtain ⟨qs, pc, rfl, hpc, okc⟩ := fh pk
 refine cx hL (ii sp1 (by omega) hpc okc fun x H2 g2 kt2 sp2 sub2 gv so => ?_)
 refine q x g2 H2 (kt.trans kt2) sp2 (sub.trans sub2) fun h he => ?_
 rw [hc h (he.of sub2)]
 exact (he _ _ gv).symm
theorem CN (K : W.Frag) (A : Adr) : Ln (oM K A) 5 := by rintro vs H Q E ⟨f, b, k, v, st, e, g, n, x, rfl, _⟩; rfl
theorem Gg (T : Txt K mg A) : Rd (oM K A) (HX K A) ["stamper", "bits", "mark", "key", "slip", "came"] := by
 intro vs H Q E h
 obtain ⟨f, b, k, v, st, e, g, n, x, rfl, w, sp, hn, hx, q⟩ := h
 refine ⟨f, b, k, v, st, e, g, n, rfl, w, sp, hn, fun y g1 H1 kt sp1 sub hy => ?_⟩
 have e1 := hx _ ((bv g1).of sub)
 have e2 := hy _ (bv g1)
 rw [← e2] at e1
 subst e1
 exact jz (Sel.no rfl ⟨b, k, v, st, e, rfl, w.keep kt.tup, q g1 H1 kt sp1 sub⟩)
end Rs
namespace Rs
open PySem PySem.Spec PyProof.Rows L2
theorem kF {d : Int} (h : d ≤ 60) : (2 : Int) ^ d.toNat ≤ 2 ^ 60 := by
 have : (2 : Nat) ^ d.toNat ≤ 2 ^ 60 := Nat.pow_le_pow_right (by decide) (by omega)
 exact_mod_cast this
theorem bq (p : au) : iS (aV p) = true := by
 induction p with
 | cut m => show (true && (iS (bc m) && true)) = true; rw [mU]; rfl
 | bare => rfl
 | leaf k z => rfl
 | fork d b l r hl hr => show (true && (true && (true && (iS (aV l) && (iS (aV r) && true))))) = true; rw [hl, hr]; rfl
theorem fF {H : Hp} {v : V} {m : Key} (h : aP H v (aV (.cut m))) : ∃ a, v = .ref a ∧ H a = some (.tup [.str "cut", kV m]) := ma (e := [.inr "cut", m]) h
theorem fu {H : Hp} {v : V} (h : aP H v (aV .bare)) : ∃ a, v = .ref a ∧ H a = some (.tup [.str "bare"]) := ma (e := [.inr "bare"]) h
theorem eZ {H : Hp} {v : V} {k : Int} {z : Str} (h : aP H v (aV (.leaf k z))) : ∃ a, v = .ref a ∧ H a = some (.tup [.str "leaf", .int k, .str z]) := ma (e := [.inr "leaf", .inl k, .inr z]) h
theorem cY {H : Hp} {v : V} {d b : Int} {l r : au} (h : aP H v (aV (.fork d b l r))) : ∃ a x y, v = .ref a ∧ H a = some (.tup [.str "fork", .int d, .int b, x, y]) ∧ aP H x (aV l) ∧ aP H y (aV r) := by
  cases h with
  | @tup a xs _ ea w =>
    cases w with
    | cons w0 w =>
    cases w with
    | cons w1 w =>
    cases w with
    | cons w2 w =>
    cases w with
    | cons w3 w =>
    cases w with
    | cons w4 w =>
    cases w
    cases w0
    cases w1
    cases w2
    exact ⟨a, _, _, rfl, ea, w3, w4⟩
theorem zL : okD (.str "cut") = true := by decide +kernel
theorem vA {b lo hi d g : Int} {p : au} (h : aM b lo hi d g p) (hd : d ≤ b) : okD (aV p) = true := by
  induction p generalizing d g with
  | cut m => show (okD (.str "cut") && (okD (bc m) && true)) = true; rw [zL, h.2.2.1]; rfl
  | bare => decide +kernel
  | leaf k z =>
    show (okD (.str "leaf") && (true && (okD (.str z) && true))) = true
    rw [wY, Dx h.2.2.2.2.1 (by have := h.2.2.2.1; omega)]; rfl
  | fork e x l r hl hr =>
    show (okD (.str "fork") && (true && (true && (okD (aV l) && (okD (aV r) && true))))) = true
    obtain ⟨_, _, he, _, _, _, h1, h2⟩ := h
    rw [xy, hl h1 (by omega), hr h2 (by omega)]; rfl
theorem tW (p : au) : (cO (aV p)).depth ≤ aU p + 1 := by
  induction p with
  | cut m =>
    show max 0 (max (cO (bc m)).depth 0) + 1 ≤ 0 + 1
    rw [nh]; decide
  | bare => decide
  | leaf k z => show max 0 (max 0 (max 0 0)) + 1 ≤ 0 + 1; decide
  | fork d b l r hl hr =>
    show max 0 (max 0 (max 0 (max (cO (aV l)).depth (max (cO (aV r)).depth 0)))) + 1 ≤ max (aU l) (aU r) + 1 + 1
    omega
theorem xc {b lo hi d g : Int} {p : au} (h : aM b lo hi d g p) (hd : d ≤ b) (ht : aU p ≤ 60) : gL (aV p) := .inl ⟨vA h hd, by have := tW p; omega⟩
theorem cJ {e x : Int} (e0 : 0 ≤ e) (x0 : 0 ≤ x) (x1 : x < 2 ^ e.toNat) : 0 ≤ 2 * x ∧ 2 * x < 2 ^ (e + 1).toNat ∧ 2 * x + 1 < 2 ^ (e + 1).toNat := by
 have : (e + 1).toNat = e.toNat + 1 := by omega
 rw [this, Int.pow_succ]
 omega
theorem eI.left {H : Hp} {v : V} {b lo hi d g e x : Int} {l r : au} {y : V} (h : eI H v b lo hi d g (.fork e x l r)) (w : aP H y (aV l)) : eI H y b lo hi (e + 1) (2 * x) l := by
 obtain ⟨_, h1, he, x0, x1, _, hl, _⟩ := h.ok
 have d0 := h.d0
 obtain ⟨a, b', _⟩ := cJ (by omega) x0 x1
 exact ⟨w, hl, by omega, by omega, a, b'⟩
theorem eI.right {H : Hp} {v : V} {b lo hi d g e x : Int} {l r : au} {y : V} (h : eI H v b lo hi d g (.fork e x l r)) (w : aP H y (aV r)) : eI H y b lo hi (e + 1) (2 * x + 1) r := by
 obtain ⟨_, h1, he, x0, x1, _, _, hr⟩ := h.ok
 have d0 := h.d0
 obtain ⟨a, _, b'⟩ := cJ (by omega) x0 x1
 exact ⟨w, hr, by omega, by omega, by omega, b'⟩
variable {K : W.Frag} {mg : Str → Option Value} {A : Adr}
theorem CF (K : W.Frag) (A : Adr) : Ln (pe K A) 3 := by rintro vs H Q E ⟨_, _, _, rfl, _⟩; rfl
theorem Ej (T : Txt K mg A) : Rd (pe K A) (GS K A) ["bits", "depth", "begin", "rest"] := by
 intro vs H Q E h
 obtain ⟨b, d, g, rfl, d0, d1, b60, g0, g1, q⟩ := h
 have := kF (d := d) (by omega)
 exact ⟨⟨by omega, by omega, by omega⟩, ⟨by omega, by omega, by omega⟩, by show 2 ≤ sizeLine; decide, fun p hp => q p hp⟩
theorem Dr (K : W.Frag) (A : Adr) : Ln (pC K A) 5 := by rintro vs H Q E ⟨_, _, _, _, _, rfl, _⟩; rfl
theorem EM (T : Txt K mg A) : Rd (pC K A) (GU K A) ["bits", "low", "high", "depth", "begin", "ends"] := by
 intro vs H Q E h
 obtain ⟨b, lo, hi, d, g, rfl, d0, d1, b60, g0, g1, q⟩ := h
 refine ⟨b, d, g, rfl, d0, d1, b60, g0, g1, fun p hp => ?_⟩
 refine ixT (j := 0) am rfl rfl ?_
 have q := q _ (ay.upd (o := .tup [.int (g * 2 ^ (b - d).toNat), .int ((g + 1) * 2 ^ (b - d).toNat - 1)]) hp)
 unfold bf at q
 refine Sel.mk (fun e => ixT (j := 1) am rfl rfl ?_) (fun e => ?_)
 · rw [e, Bool.true_and] at q; exact q
 · rw [e, Bool.false_and] at q; exact q
theorem BA (K : W.Frag) (A : Adr) : Ln (mC K A) 3 := by rintro vs H Q E ⟨_, _, _, rfl, _⟩; rfl
theorem DC (T : Txt K mg A) : Rd (mC K A) (GD K A) ["bits", "low", "high"] := by
 intro vs H Q E h
 obtain ⟨b, lo, hi, rfl, e, q⟩ := h
 have k1 : gQ b (.int lo) = true := decide_eq_true ⟨e.lo0, Int.lt_of_le_of_lt e.le e.hi1⟩
 have k2 : gQ b (.int hi) = true := decide_eq_true ⟨Int.le_trans e.lo0 e.le, e.hi1⟩
 have b1 := e.b1
 have b60 := e.b60
 refine ⟨b, .int lo, .int lo, rfl, by omega, b60, .int lo, Sel.no (by rw [k1]; rfl) ⟨b, .int hi, .int hi, rfl, by omega, b60, .int hi, Sel.no (by rw [k2]; rfl) ?_⟩⟩
 exact Sel.no (decide_eq_false (by have := e.le; omega)) q
theorem Be (K : W.Frag) (A : Adr) : Ln (pE K A) 1 := by rintro vs H Q E ⟨_, _, rfl, _⟩; rfl
theorem FX (T : Txt K mg A) : Rd (pE K A) (Hl K A) ["thing"] := by
 intro vs H Q E h
 obtain ⟨v, m, rfl, w, hm, q⟩ := h
 have ty := w.ty
 obtain ⟨a, rfl, ha⟩ := fF w
 refine ⟨by decide, _, ty, Sel.yes rfl (.inl (.inr (.inl ⟨_, SqT.of ha, Sel.yes rfl ?_⟩)))⟩
 refine ixT (j := 0) ha rfl rfl (Sel.yes (decide_eq_true rfl) (ixT (j := 1) ha rfl rfl ⟨kV m, bc m, rfl, kc H m, ?_⟩))
 rw [hm.1]; exact q
theorem zB {p : au} (h : ∀ (_ : p = .bare), False) : jd (aV p) = false := by
 cases p with
 | bare => exact (h rfl).elim
 | _ => rfl
theorem Cm (K : W.Frag) (A : Adr) : Ln (oH K A) 6 := by rintro vs H Q E ⟨_, _, _, _, _, _, _, rfl, _⟩; rfl
theorem FH (T : Txt K mg A) : Rd (oH K A) (GK K A) ["bits", "low", "high", "depth", "begin", "thing"] := by
  intro vs H Q E h
  obtain ⟨b, lo, hi, d, g, v, p, rfl, e, w, ht, q⟩ := h
  have b1 := e.b1
  have b60 := e.b60
  refine ⟨b, lo, hi, d, g, rfl, w.d0, w.d1, b60, w.g0, w.g1, fun H2 s2 => ?_⟩
  have eo := xc w.ok w.d1 ht
  have ci : ∀ (hm : bf b lo hi d g = true) (hb : ¬ p = .bare) (r1 : eW b d g (aV p) = true ∨ (eW b d g (aV p) = false ∧ da b d g (aV p) = true)), Cd K A { nx := fun _ H' => Q .non H', rt := Q } [some (.int b), some (.int lo), some (.int hi), some (.int d), some (.int g), some v] H2 := by
    intro hm hb r1
    refine ⟨by show 1 ≤ sizeLine; decide, fun t hT => ?_⟩
    have s3 := s2.trans (ay.upd (o := .tup [.str "bare"]) hT)
    refine ng (w.w.mono s3) eo am ?_
    refine Sel.no (zB hb) ?_
    refine ⟨b, d, g, v, aV p, rfl, by omega, b60, w.d1, w.w.mono s3, eo, ?_⟩
    rcases r1 with h | ⟨h1, h2⟩
    · exact Sel.yes h (q _ s3)
    · refine Sel.no h1 ⟨b, d, g, v, aV p, rfl, w.d0, b60, w.d1, w.w.mono s3, eo, ?_⟩
      rw [h2]; exact q _ s3
  have hok := w.ok
  cases p with
  | cut m =>
    refine Sel.yes (by rw [hok.1]; rfl) ⟨v, m, rfl, w.w.mono s2, hok.2, q _ s2⟩
  | bare =>
    refine Sel.no (by rw [hok.1]; rfl) ⟨by show 1 ≤ sizeLine; decide, fun t hT => ?_⟩
    have s3 := s2.trans (ay.upd (o := .tup [.str "bare"]) hT)
    refine ng (w.w.mono s3) eo am (Sel.yes (by decide +kernel) ?_)
    show Q (.bl (decide (d = 0))) _
    rw [decide_eq_true hok.2]; exact q _ s3
  | leaf k z =>
    refine Sel.no (by rw [hok.1]; rfl) (ci hok.1 (by intro z; cases z) (.inl ?_))
    obtain ⟨_, k0, k1, hz, _, hs⟩ := hok
    show (bY "leaf" (.str "leaf") && decide (0 ≤ k ∧ k < 2 ^ b.toNat) && eQ (.str z) && decide (aw b k d = g)) = true
    rw [decide_eq_true ⟨k0, k1⟩, decide_eq_true hs]
    show (decide (("leaf" : Str) = "leaf") && true && decide (z.length ≤ 60) && true) = true
    rw [decide_eq_true hz, decide_eq_true rfl]; rfl
  | fork e x l r =>
    refine Sel.no (by rw [hok.1]; rfl) (ci hok.1 (by intro z; cases z) (.inr ⟨rfl, ?_⟩))
    obtain ⟨_, h1, h2, x0, x1, hx, _⟩ := hok
    show (bY "fork" (.str "fork") && decide (d ≤ e ∧ e < b) && decide (0 ≤ x ∧ x < 2 ^ e.toNat) && decide (x / 2 ^ (e - d).toNat = g)) = true
    rw [decide_eq_true ⟨h1, h2⟩, decide_eq_true ⟨x0, x1⟩, decide_eq_true hx]
    show (decide (("fork" : Str) = "fork") && true && true && true) = true
    rw [decide_eq_true rfl]; rfl
theorem Au (K : W.Frag) (A : Adr) (n : Nat) : Ln (iL K A n) 6 := by rintro vs H Q E ⟨_, _, _, _, _, _, _, rfl, _⟩; rfl
theorem yA (K : W.Frag) (A : Adr) : ∀ vs H Q E, ¬ iL K A 0 vs H Q E := by
 rintro vs H Q E ⟨_, _, _, _, _, _, _, _, _, _, _, h, _⟩
 omega
theorem ly : decide (("cut" : Str) = "fork") = false ∧ decide (("bare" : Str) = "fork") = false ∧ decide (("leaf" : Str) = "fork") = false := by decide +kernel
theorem FS (T : Txt K mg A) (n : Nat) : Rd (iL K A (n + 1)) (GH K A n) ["bits", "low", "high", "depth", "begin", "part"] := by
  intro vs H Q E h
  obtain ⟨b, lo, hi, d, g, v, p, rfl, e, w, ht, hn, q⟩ := h
  refine ⟨b, lo, hi, d, g, v, p, rfl, e, w, ht, fun H2 s2 => Sel.no rfl ?_⟩
  have w2 := w.w.mono s2
  cases p with
  | cut m =>
    obtain ⟨a, rfl, ha⟩ := fF w2
    exact ixT (j := 0) ha rfl rfl (Sel.no ly.1 (q _ s2))
  | bare =>
    obtain ⟨a, rfl, ha⟩ := fu w2
    exact ixT (j := 0) ha rfl rfl (Sel.no ly.2.1 (q _ s2))
  | leaf k z =>
    obtain ⟨a, rfl, ha⟩ := eZ w2
    exact ixT (j := 0) ha rfl rfl (Sel.no ly.2.2 (q _ s2))
  | fork e2 x l r =>
    obtain ⟨a, vl, vr, rfl, ha, wl, wr⟩ := cY w2
    have ht' : max (aU l) (aU r) + 1 ≤ 60 := ht
    have hn' : max (aU l) (aU r) + 1 < n + 1 := hn
    obtain ⟨_, h1, h2, x0, x1, _⟩ := w.ok
    have b60 := e.b60
    have := kF (d := e2) (by omega)
    have W : eI H2 (.ref a) b lo hi d g (.fork e2 x l r) := ⟨w2, w.ok, w.d0, w.d1, w.g0, w.g1⟩
    refine ixT (j := 0) ha rfl rfl (Sel.yes (decide_eq_true rfl) ?_)
    refine ixT (j := 1) ha rfl rfl (ixT (j := 2) ha rfl rfl ⟨jo (by decide) (by decide), ixT (j := 3) ha rfl rfl ?_⟩)
    refine ⟨b, lo, hi, e2 + 1, 2 * x, vl, l, rfl, e, W.left wl, by omega, by omega, fun H3 s3 => ?_⟩
    have ha3 := s3 _ _ ha
    refine ixT (j := 1) ha3 rfl rfl (ixT (j := 2) ha3 rfl rfl ⟨jo (by decide) (by decide), ixT (j := 4) ha3 rfl rfl ?_⟩)
    have W3 : eI H3 (.ref a) b lo hi d g (.fork e2 x l r) := ⟨w2.mono s3, w.ok, w.d0, w.d1, w.g0, w.g1⟩
    exact ⟨b, lo, hi, e2 + 1, 2 * x + 1, vr, r, rfl, e, W3.right (wr.mono s3), by omega, by omega, fun H4 s4 => q _ ((s2.trans s3).trans s4)⟩
theorem Cq (K : W.Frag) (A : Adr) : Ln (pB K A) 4 := by rintro vs H Q E ⟨_, _, _, _, _, rfl, _⟩; rfl
theorem FW (T : Txt K mg A) : Rd (pB K A) (Hf K A) ["bits", "low", "high", "paper"] := by
 intro vs H Q E h
 obtain ⟨b, lo, hi, v, p, rfl, w, q⟩ := h
 have t := w.t
 exact ⟨b, lo, hi, rfl, w.e, b, lo, hi, 0, 0, v, p, rfl, w.e, w.w, t, by omega, fun H2 s2 => q _ s2⟩
end Rs
namespace Rs
open PySem PySem.Spec PyProof.Rows L2
theorem cb (h : List Key → Key) {p : au} (hp : bI p = false) : ∃ pre, aJ h p = pre ++ [aO h p] := by
 cases p with
 | cut m => cases hp
 | bare => exact ⟨[], rfl⟩
 | leaf k z => exact ⟨[], rfl⟩
 | fork d b l r => exact ⟨aJ h l ++ aJ h r, rfl⟩
theorem dw (h : List Key → Key) {p : au} (hp : bI p = false) : aR h p = h (aO h p) := by
 cases p with
 | cut m => cases hp
 | _ => rfl
theorem dF (p : au) : bK p ≤ 2 * forks p + 1 := by
 induction p with
 | fork d b l r hl hr => show bK l + bK r + 1 ≤ 2 * (forks l + forks r + 1) + 1; omega
 | cut m => show 0 ≤ _; omega
 | _ => exact Nat.le_refl _
theorem gc (h : List Key → Key) (p : au) : (aJ h p).length = bK p := by
  induction p with
  | fork d b l r hl hr =>
    show (aJ h l ++ aJ h r ++ [_]).length = bK l + bK r + 1
    rw [List.length_append, List.length_append, hl, hr]; rfl
  | _ => rfl
theorem pY (p : au) : szP p ≤ 1376 * forks p + 1062 := by
 induction p with
 | fork d b l r hl hr => show 252 + szP l + szP r ≤ 1376 * (forks l + forks r + 1) + 1062; omega
 | cut m => show 1062 ≤ _; omega
 | bare => show 128 ≤ _; omega
 | leaf k z => show 312 ≤ _; omega
theorem p10 {b : Int} (h : b ≤ 60) : (2 : Int) ^ b.toNat < 10 ^ 60 := Int.lt_of_le_of_lt (kF h) (by decide +kernel)
theorem fU : okT [.inr "bare"] = true ∧ szT [.inr "bare"] = 66 := by decide +kernel
theorem ls {k : Int} {z : Str} (k0 : 0 ≤ k) (k1 : k < 10 ^ 60) (hz : z.length ≤ 60) (ha : fB z = true) : okT [.inr "leaf", .inl k, .inr z] = true ∧ szT [.inr "leaf", .inl k, .inr z] ≤ 250 := by
 refine ⟨Im jc.2.1 (lm k0 k1) ?_ rfl, ?_⟩
 · show (fB z && decide (z.length ≤ 100000)) = true
   rw [ha, decide_eq_true (by omega)]; rfl
 · show szK (.inr "leaf") + (62 + ((z.length + 62) + 0)) ≤ 250
   rw [iU.2.1]; omega
theorem nU {d x : Int} {m s : Key} (d0 : 0 ≤ d) (d1 : d < 10 ^ 60) (x0 : 0 ≤ x) (x1 : x < 10 ^ 60) (hm : okP m = true) (hs : okP s = true) : okT [.inr "fork", .inl d, .inl x, m, s] = true ∧ szT [.inr "fork", .inl d, .inl x, m, s] = 190 + szK m + szK s := by
 refine ⟨sm jc.1 (lm d0 d1) (lm x0 x1) hm hs rfl, ?_⟩
 show szK (.inr "fork") + (62 + (62 + (szK m + (szK s + 0)))) = _
 rw [iU.1]; omega
def kQ : au → Bool
 | .fork _ _ _ _ => true
 | _ => false
def zf : au → Bool
 | .leaf _ _ => true
 | _ => false
theorem fJ : (decide (("cut" : Str) = "cut") = true ∧ decide (("bare" : Str) = "cut") = false ∧ decide (("leaf" : Str) = "cut") = false ∧ decide (("fork" : Str) = "cut") = false) ∧
 (decide (("cut" : Str) = "fork") = false ∧ decide (("bare" : Str) = "fork") = false ∧ decide (("leaf" : Str) = "fork") = false ∧ decide (("fork" : Str) = "fork") = true) ∧
 (decide (("cut" : Str) = "leaf") = false ∧ decide (("bare" : Str) = "leaf") = false ∧ decide (("leaf" : Str) = "leaf") = true ∧ decide (("fork" : Str) = "leaf") = false) := by decide +kernel
theorem zi {H : Hp} {v : V} {p : au} (h : aP H v (aV p)) : ∃ (a : Addr) (xs : List V) (w : Str), v = .ref a ∧ H a = some (.tup xs) ∧ xs[0]? = some (.str w) ∧ decide (w = "cut") = bI p ∧ decide (w = "fork") = kQ p ∧ decide (w = "leaf") = zf p := by
 obtain ⟨⟨c1, c2, c3, c4⟩, ⟨f1, f2, f3, f4⟩, l1, l2, l3, l4⟩ := fJ
 cases p with
 | cut m => obtain ⟨a, rfl, ha⟩ := fF h; exact ⟨a, _, _, rfl, ha, rfl, c1, f1, l1⟩
 | bare => obtain ⟨a, rfl, ha⟩ := fu h; exact ⟨a, _, _, rfl, ha, rfl, c2, f2, l2⟩
 | leaf k z => obtain ⟨a, rfl, ha⟩ := eZ h; exact ⟨a, _, _, rfl, ha, rfl, c3, f3, l3⟩
 | fork d b l r => obtain ⟨a, x, y, rfl, ha, _⟩ := cY h; exact ⟨a, _, _, rfl, ha, rfl, c4, f4, l4⟩
theorem dB.keep {H H' : Hp} {v : V} {p : au} (h : dB H v p) (k : ∀ b xs, H b = some (.tup xs) → H' b = some (.tup xs)) : dB H' v p := ⟨h.w.keepT k (bq p), h.ok, h.f⟩
theorem dB.left {H : Hp} {v y : V} {e x : Int} {l r : au} (h : dB H v (.fork e x l r)) (w : aP H y (aV l)) : dB H y l := by
 obtain ⟨b, lo, hi, d, g, en, d0, d1, _, h1, h2, _, _, _, hl, _⟩ := h.ok
 have : forks l + forks r + 1 ≤ 70 := h.f
 exact ⟨w, ⟨b, lo, hi, e + 1, 2 * x, en, by omega, by omega, hl⟩, by omega⟩
theorem dB.right {H : Hp} {v y : V} {e x : Int} {l r : au} (h : dB H v (.fork e x l r)) (w : aP H y (aV r)) : dB H y r := by
 obtain ⟨b, lo, hi, d, g, en, d0, d1, _, h1, h2, _, _, _, _, hr⟩ := h.ok
 have : forks l + forks r + 1 ≤ 70 := h.f
 exact ⟨w, ⟨b, lo, hi, e + 1, 2 * x + 1, en, by omega, by omega, hr⟩, by omega⟩
theorem dB.nums {H : Hp} {v : V} {e x : Int} {l r : au} (h : dB H v (.fork e x l r)) : 0 ≤ e ∧ e < 10 ^ 60 ∧ 0 ≤ x ∧ x < 10 ^ 60 := by
 obtain ⟨b, lo, hi, d, g, en, d0, d1, _, h1, h2, x0, x1, _⟩ := h.ok
 have := en.b60
 have := p10 (b := e) (by omega)
 have c : (60 : Int) < 10 ^ 60 := by decide +kernel
 exact ⟨by omega, by omega, x0, by omega⟩
variable {K : W.Frag} {mg : Str → Option Value} {A : Adr}
theorem Bl (K : W.Frag) (A : Adr) : Ln (jx K A) 3 := by rintro vs H Q E ⟨_, _, _, _, _, _, _, _, rfl, _⟩; rfl
theorem ER (T : Txt K mg A) : Rd (jx K A) (Gy K A) ["stamper", "part", "terms"] := by
  intro vs H Q E h
  obtain ⟨f, L, v, p, ps, ts, g, n, rfl, w, sp, hn, hL, pk, ht, lo, q⟩ := h
  cases hc : bI p with
  | true =>
    cases p with
    | cut m =>
      obtain ⟨a, rfl, ha⟩ := fF w.w
      obtain ⟨_, _, _, _, _, _, _, _, _, hm⟩ := w.ok
      have o1 := ko hm.1 hm.2.1
      have o2 := hm.2.2
      exact ixT (j := 0) ha rfl rfl (Sel.yes fJ.1.1 (ixT (j := 1) ha rfl rfl (q m g H aE.rfl' (sp.same (by omega) (.refl H)) Sub.rfl' (fun _ _ => rfl) o1 o2)))
    | _ => cases hc
  | false =>
    obtain ⟨a, xs, wd, rfl, ha, hx, e1, _, _⟩ := zi w.w
    refine ixT (j := 0) ha rfl hx (Sel.no (e1.trans hc) ?_)
    obtain ⟨pre, e⟩ := cb (dJ g) hc
    have ets := ht _ (bv g)
    rw [e] at ets
    subst ets
    obtain ⟨qs, pc, rfl, hpc, okc⟩ := fh pk
    have lk := lo (aO (dJ g) p) (by simp)
    have sz := pY p
    have hf := w.f
    refine ⟨f, rfl, sp.clo, cx hL (ii sp (by omega) hpc okc fun x H2 g2 kt sp2 sub gv so => ?_)⟩
    obtain ⟨o1, o2⟩ := iV so (by omega)
    refine q x g2 H2 kt sp2 sub (fun h he => ?_) o1 (by omega)
    obtain ⟨pre', e'⟩ := cb h hc
    have e2 := (ht h (he.of sub)).trans e'
    have e3 := (List.append_inj' e2 rfl).2
    have e4 : aO (dJ g) p = aO h p := List.cons.inj e3 |>.1
    rw [dw h hc, ← e4]
    exact (he _ _ gv).symm
theorem CP (K : W.Frag) (A : Adr) (n : Nat) : Ln (gz K A n) 2 := by rintro vs H Q E ⟨_, _, _, _, _, rfl, _⟩; rfl
theorem yc (K : W.Frag) (A : Adr) : ∀ vs H Q E, ¬ gz K A 0 vs H Q E := by
 rintro vs H Q E ⟨_, _, _, _, _, _, _, h, _⟩
 omega
theorem pW {H : Hp} {ps qs : List Addr} {ts us : List (List Key)} (h : PK H ps ts) (h2 : PK H qs us) : PK H (ps ++ qs) (ts ++ us) := by
 induction h with
 | nil => exact h2
 | cons r t ih => exact .cons r ih
theorem eR {H H' : Hp} {L : Addr} (k : aE H H') (h : H' L = none) : ny H L := fun M xs e z => by
 have := k M _ e fun _ z => nomatch z
 rw [z, h] at this; cases this
theorem Fu (T : Txt K mg A) (n : Nat) : Rd (gz K A (n + 1)) (HK K A n) ["stamper", "part", "left", "right", "marks"] := by
  intro vs H Q E h
  obtain ⟨f, v, p, g, m, rfl, w, ht, sp, hm, q⟩ := h
  obtain ⟨⟨c1, c2, c3, c4⟩, ⟨f1, f2, f3, f4⟩, _⟩ := fJ
  have hf := w.f
  have one : ∀ (a : Addr) (t : List Key), forks p = 0 → H a = some (.tup (t.map kV)) → okT t = true → (∀ h, aJ h p = [t]) → szT t + 62 ≤ szP p → (aA (cp (aa (ab 1) (af)))) { nx := fun _ H' => Q .non H', rt := Q } [some (.ref f), some (.ref a), none, none, none] H := fun a t h0 ha ok ht hs => by
    refine ⟨by show 1 ≤ sizeLine; decide, fun L hL => ?_⟩
    have S := ay.upd (o := .lst [V.ref a]) hL
    refine q L [a] [t] g _ (aE.same S) (sp.same (by omega) S) Sub.rfl' (eR aE.rfl' hL) am (.cons ⟨S _ _ ha, ok⟩ .nil) (fun h _ => (ht h).symm) fun t' e => ?_
    have : t = t' := by simpa using e
    rw [← this]; exact hs
  cases p with
  | cut c =>
    obtain ⟨a, rfl, ha⟩ := fF w.w
    refine ixT (j := 0) ha rfl rfl (Sel.yes c1 ⟨by show 0 ≤ sizeLine; decide, fun L hL => ?_⟩)
    have S := ay.upd (o := .lst []) hL
    exact q L [] [] g _ (aE.same S) (sp.same (by omega) S) Sub.rfl' (eR aE.rfl' hL) am .nil (fun h _ => rfl) fun t e => by cases e
  | bare =>
    obtain ⟨a, rfl, ha⟩ := fu w.w
    refine ixT (j := 0) ha rfl rfl (Sel.no c2 (ixT (j := 0) ha rfl rfl (Sel.yes (by rw [f2]; rfl) ?_)))
    exact one a [.inr "bare"] rfl ha fU.1 (fun _ => rfl) (by rw [fU.2]; exact Nat.le_refl _)
  | leaf k z =>
    obtain ⟨a, rfl, ha⟩ := eZ w.w
    refine ixT (j := 0) ha rfl rfl (Sel.no c3 (ixT (j := 0) ha rfl rfl (Sel.yes (by rw [f3]; rfl) ?_)))
    obtain ⟨b, lo, hi, d, g', en, d0, d1, _, k0, k1, hz, has, _⟩ := w.ok
    have := p10 en.b60
    obtain ⟨o1, o2⟩ := ls (k := k) (z := z) k0 (by omega) hz has
    exact one a [.inr "leaf", .inl k, .inr z] rfl ha o1 (fun _ => rfl) (by show _ ≤ 312; omega)
  | fork d x l r =>
    obtain ⟨a, vl, vr, rfl, ha, wl, wr⟩ := cY w.w
    have ht' : max (aU l) (aU r) + 1 < n + 1 := ht
    have hm' : m + 2 * (forks l + forks r + 1) ≤ 42000 := hm
    obtain ⟨d0, d1, x0, x1⟩ := w.nums
    refine ixT (j := 0) ha rfl rfl (Sel.no c4 (ixT (j := 0) ha rfl rfl (Sel.no (by rw [f4]; rfl) ?_)))
    refine ixT (j := 3) ha rfl rfl ⟨f, vl, l, g, m, rfl, w.left wl, by omega, sp, by omega, fun L1 ps1 ts1 g1 H1 kt1 sp1 sub1 nl1 hL1 pk1 e1 lo1 => ?_⟩
    have ha1 := kt1.tup _ _ ha
    refine ixT (j := 4) ha1 rfl rfl ⟨f, vr, r, g1, m + 2 * forks l, rfl, (w.right wr).keep kt1.tup, by omega, sp1, by omega, fun L2 ps2 ts2 g2 H2 kt2 sp2 sub2 nl2 hL2 pk2 e2 lo2 => ?_⟩
    have ha2 := kt2.tup _ _ ha1
    have hL1b := kt2 _ _ hL1 fun _ z => nomatch z
    refine ixT (j := 3) ha2 rfl rfl ⟨f, L1, vl, l, ps1, ts1, g2, m + 2 * forks l + 2 * forks r, rfl, ((w.left wl).keep kt1.tup).keep kt2.tup, sp2, by omega, hL1b, cy kt2.tup pk1, fun h he => e1 h (he.of sub2), lo1, fun y1 g3 H3 kt3 sp3 sub3 ey1 oy1 sy1 => ?_⟩
    have ha3 := kt3.tup _ _ ha2
    have hL2c := kt3 _ _ hL2 fun _ z => nomatch z
    refine ixT (j := 4) ha3 rfl rfl ⟨f, L2, vr, r, ps2, ts2, g3, m + 2 * forks l + 2 * forks r + 1, rfl, (((w.right wr).keep kt1.tup).keep kt2.tup).keep kt3.tup, sp3, by omega, hL2c, cy kt3.tup pk2, fun h he => e2 h (he.of sub3), lo2, fun y2 g4 H4 kt4 sp4 sub4 ey2 oy2 sy2 => ?_⟩
    have ha4 := kt4.tup _ _ ha3
    have hL1d := kt4 _ _ (kt3 _ _ hL1b fun _ z => nomatch z) fun _ z => nomatch z
    have hL2d := kt4 _ _ hL2c fun _ z => nomatch z
    refine ⟨by show 2 ≤ sizeLine; decide, fun M hM => ?_⟩
    have S5 := ay.upd (o := .tup [kV y1, kV y2]) hM
    have p1 : ps1.length = bK l := by rw [fH pk1, e1 _ (bv g1), gc]
    have p2 : ps2.length = bK r := by rw [fH pk2, e2 _ (bv g2), gc]
    have q1 := dF l
    have q2 := dF r
    have hf' : forks l + forks r + 1 ≤ 70 := hf
    refine .inl ⟨L1, L2, _, _, rfl, rfl, S5 _ _ hL1d, S5 _ _ hL2d, bo (by simp; omega), fun C hC => ?_⟩
    have S6 := S5.trans (ay.upd (o := .lst (ps1.map V.ref ++ ps2.map V.ref)) hC)
    have hM6 := ay.upd (o := .lst (ps1.map V.ref ++ ps2.map V.ref)) hC M _ (am (o := .tup [kV y1, kV y2]))
    refine ixT (j := 1) (S6 _ _ ha4) rfl rfl (ixT (j := 2) (S6 _ _ ha4) rfl rfl (ixT (j := 0) hM6 rfl rfl (ixT (j := 1) hM6 rfl rfl ⟨by show 5 ≤ sizeLine; decide, fun t hT => ⟨by show 1 ≤ sizeLine; decide, fun D hD => ?_⟩⟩)))
    have hC7 := (ay.upd (o := .tup [V.str "fork", .int d, .int x, kV y1, kV y2]) hT).trans (ay.upd (o := .lst [V.ref t]) hD) C _ (am (o := .lst (ps1.map V.ref ++ ps2.map V.ref)))
    refine .inl ⟨C, D, _, _, rfl, rfl, hC7, am, bo (by simp; omega), fun L hL => ?_⟩
    have S8 : ay H4 _ := ((S6.trans (ay.upd (o := .tup [V.str "fork", .int d, .int x, kV y1, kV y2]) hT)).trans (ay.upd (o := .lst [V.ref t]) hD)).trans (ay.upd (o := .lst (ps1.map V.ref ++ ps2.map V.ref ++ [V.ref t])) hL)
    have ht8 := (ay.upd (o := .lst [V.ref t]) hD).trans (ay.upd (o := .lst (ps1.map V.ref ++ ps2.map V.ref ++ [V.ref t])) hL) t _ (am (o := .tup [V.str "fork", .int d, .int x, kV y1, kV y2]))
    have kt8 := (((kt1.trans kt2).trans kt3).trans kt4).trans (aE.same S8)
    obtain ⟨ok, sz⟩ := nU (d := d) (x := x) d0 d1 x0 x1 oy1 oy2
    have kk := ((kt3.trans kt4).trans (aE.same S8)).tup
    have ml : ps1.map V.ref ++ ps2.map V.ref ++ [V.ref t] = (ps1 ++ ps2 ++ [t]).map V.ref := by simp
    have nl : ny H L := eR ((((kt1.trans kt2).trans kt3).trans kt4).trans (aE.same ((S6.trans (ay.upd (o := .tup [V.str "fork", .int d, .int x, kV y1, kV y2]) hT)).trans (ay.upd (o := .lst [V.ref t]) hD)))) hL
    refine q L (ps1 ++ ps2 ++ [t]) (ts1 ++ ts2 ++ [[.inr "fork", .inl d, .inl x, y1, y2]]) g4 _ kt8 (sp4.same (by show _ ≤ m + 2 * (forks l + forks r + 1); omega) S8) (((sub1.trans sub2).trans sub3).trans sub4) nl (by rw [am, ml]) (mR (pW (cy kk (cy kt2.tup pk1)) (cy kk pk2)) ⟨ht8, ok⟩) (fun h he => ?_) fun t' e => ?_
    · have h3 := he.of sub4
      have h2 := h3.of sub3
      rw [e1 h (h2.of sub2), e2 h h2, ey1 h h3, ey2 h he]; rfl
    · have : ([Sum.inr "fork", Sum.inl d, Sum.inl x, y1, y2] : List Key) = t' := by simpa using e
      rw [← this, sz]
      show 190 + szK y1 + szK y2 + 62 ≤ 252 + szP l + szP r
      omega
end Rs
namespace Rs
open PySem PySem.Spec PyProof.Rows L2
theorem eM.s {H : Hp} {v : V} {b lo hi : Int} {p : au} (w : eM H v b lo hi p) : dB H v p := ⟨w.w.w, ⟨b, lo, hi, 0, 0, w.e, by decide, by have := w.e.b1; omega, w.w.ok⟩, w.f⟩
theorem uz {b lo hi : Int} (e : dS b lo hi) : bf b lo hi 0 0 = true := by
 unfold bf
 have h1 := e.hi1
 have h2 := e.lo0
 have h3 := e.le
 rw [Int.sub_zero, decide_eq_true (by omega), decide_eq_true (by omega)]; rfl
theorem eM.nc {H : Hp} {v : V} {b lo hi : Int} {p : au} (w : eM H v b lo hi p) : bI p = false := by
 have h := w.w.ok
 have m := uz w.e
 cases p with
 | cut c => have := h.1; rw [m] at this; cases this
 | _ => rfl
variable {K : W.Frag} {mg : Str → Option Value} {A : Adr}
theorem Bf (K : W.Frag) (A : Adr) : Ln (kO K A) 5 := by rintro vs H Q E ⟨_, _, _, _, _, _, _, _, rfl, _⟩; rfl
theorem DU (T : Txt K mg A) : Rd (kO K A) (Hb K A) ["stamper", "bits", "low", "high", "paper"] := by
 intro vs H Q E h
 obtain ⟨f, b, lo, hi, v, p, g, n, rfl, w, sp, hn, q⟩ := h
 have hf := w.f
 have ht := w.t
 refine ⟨b, lo, hi, v, p, rfl, w, fun H2 s2 => ?_⟩
 refine ⟨f, v, p, g, n, rfl, w.s.keep (fun c xs e => s2 c _ e), by omega, sp.same (Nat.le_refl _) s2, by omega, fun L ps ts g' H' kt sp' sub nl hL pk e lo' => ?_⟩
 exact q L ps ts g' H' ((aE.same s2).trans kt) (sp'.same (by omega) (.refl _)) sub (fun M xs e => nl M xs (s2 _ _ e)) hL pk e
theorem Am (K : W.Frag) (A : Adr) : Ln (oE K A) 5 := by rintro vs H Q E ⟨_, _, _, _, _, _, _, _, rfl, _⟩; rfl
theorem og {H : Hp} {f L : Addr} {p : au} {ps : List Addr} {ts : List (List Key)} {g : SG} {n : Nat} {R : VK} (sp : Stp A H f g n) (hn : n ≤ 45000) (hc : bI p = false) (hL : H L = some (.lst (ps.map V.ref))) (pk : PK H ps ts) (ht : ∀ h, Ext g h → ts = aJ h p)
  (q : ∀ (x : Key) (g' : SG) (H' : Hp), aE H H' → Stp A H' f g' (n + 1) → Sub g g' → (∀ h, Ext g' h → x = aR h p) → R (kV x) H') : aq K (.ref L) (.int (-1)) H (fun y H1 => kD (eT K A) f [y] H1 R E0) := by
 obtain ⟨pre, e⟩ := cb (dJ g) hc
 have ets := ht _ (bv g)
 rw [e] at ets
 subst ets
 obtain ⟨qs, pc, rfl, hpc, okc⟩ := fh pk
 refine cx hL (ii sp hn hpc okc fun x H2 g2 kt sp2 sub gv so => ?_)
 refine q x g2 H2 kt sp2 sub (fun h he => ?_)
 obtain ⟨pre', e'⟩ := cb h hc
 have e2 := (ht h (he.of sub)).trans e'
 have e3 := (List.append_inj' e2 rfl).2
 have e4 : aO (dJ g) p = aO h p := List.cons.inj e3 |>.1
 rw [dw h hc, ← e4]
 exact (he _ _ gv).symm
theorem EK (T : Txt K mg A) : Rd (oE K A) (GF K A) ["stamper", "bits", "low", "high", "paper"] := by
 intro vs H Q E h
 obtain ⟨f, b, lo, hi, v, p, g, n, rfl, w, sp, hn, q⟩ := h
 refine ⟨f, rfl, sp.clo, f, b, lo, hi, v, p, g, n, rfl, w, sp, hn, fun L ps ts g1 H1 kt sp1 sub nl hL pk e => ?_⟩
 exact og sp1 (by omega) w.nc hL pk e fun x g2 H2 kt2 sp2 sub2 ex => q x g2 H2 (kt.trans kt2) sp2 (sub.trans sub2) ex
def fK : List Key → Option (Int × Str)
 | [.inr w, .inl k, .inr z] => if w = "leaf" then some (k, z) else none
 | _ => none
theorem pT (k : Int) (z : Str) : fK [.inr "leaf", .inl k, .inr z] = some (k, z) := by
 show (if ("leaf" : Str) = "leaf" then some (k, z) else none) = some (k, z)
 rw [if_pos rfl]
theorem sH (h : List Key → Key) (p : au) : (aJ h p).filterMap fK = aC p := by
  induction p with
  | cut m => rfl
  | bare => rfl
  | leaf k z => show [_].filterMap fK = _; rw [List.filterMap_cons, pT]; rfl
  | fork d b l r hl hr =>
    show (aJ h l ++ aJ h r ++ [_]).filterMap fK = aC l ++ aC r
    rw [List.filterMap_append, List.filterMap_append, hl, hr]
    show aC l ++ aC r ++ [] = _
    rw [List.append_nil]
theorem rJ {h : List Key → Key} {p : au} {t : List Key} (ht : t ∈ aJ h p) : t = [.inr "bare"] ∨ (∃ k z, t = [.inr "leaf", .inl k, .inr z]) ∨ ∃ d b x y, t = [.inr "fork", .inl d, .inl b, x, y] := by
  induction p with
  | cut m => cases ht
  | bare => exact .inl (List.mem_singleton.mp ht)
  | leaf k z => exact .inr (.inl ⟨k, z, List.mem_singleton.mp ht⟩)
  | fork d b l r hl hr =>
    have ht : t ∈ aJ h l ++ aJ h r ++ [_] := ht
    rcases List.mem_append.mp ht with ht | ht
    · rcases List.mem_append.mp ht with ht | ht
      · exact hl ht
      · exact hr ht
    · exact .inr (.inr ⟨_, _, _, _, List.mem_singleton.mp ht⟩)
theorem rB {H : Hp} {ps : List Addr} {ts : List (Int × Str)} {p : Addr} {t : Int × Str} (h : PR H ps ts) (e : H p = some (.tup ((pL t).map kV))) : PR H (ps ++ [p]) (ts ++ [t]) := by
 induction h with
 | nil => exact .cons e .nil
 | cons r t ih => exact .cons r ih
theorem uZ {H : Hp} {ps qs : List Addr} {ts us : List (Int × Str)} (h : PR H ps ts) (h2 : PR H qs us) : PR H (ps ++ qs) (ts ++ us) := by
 induction h with
 | nil => exact h2
 | cons r t ih => exact .cons r ih
theorem gC {H H' : Hp} {ps : List Addr} {ts : List (Int × Str)} (k : ∀ b xs, H b = some (.tup xs) → H' b = some (.tup xs)) (h : PR H ps ts) : PR H' ps ts := L2.Paired.imp' (fun p x e => k _ _ e) h
theorem qb {H : Hp} {ps : List Addr} {ts : List (Int × Str)} (h : PR H ps ts) : ps.length = ts.length := Paired.length h
theorem qo {H : Hp} {ps : List Addr} {ts : List (Int × Str)} (h : PR H ps ts) : ∀ {i : Nat} {t : Int × Str}, ts[i]? = some t → ∃ p, ps[i]? = some p ∧ H p = some (.tup ((pL t).map kV)) := by
  induction h with
  | nil => intro i t e; cases e
  | cons a _ ih =>
    intro i t e
    cases i with
    | zero => cases e; exact ⟨_, rfl, a⟩
    | succ i => exact ih e
theorem lH {ps : List Addr} {i : Nat} {p : Addr} (h : ps[i]? = some p) : (ps.map V.ref).getD i .non = .ref p := by
 rw [List.getD_eq_getElem?_getD, List.getElem?_map, h]; rfl
theorem jS {α : Type} {l : List α} {i : Nat} {x : α} (h : l[i]? = some x) : l.take (i + 1) = l.take i ++ [x] := by rw [List.take_add_one, h]; rfl
theorem Ad (K : W.Frag) (A : Adr) : Ln (pG K A) 3 := by rintro vs H Q E ⟨_, _, _, _, _, _, rfl, _⟩; rfl
theorem EE (T : Txt K mg A) : Rd (pG K A) (GT K A) ["low", "high", "terms"] := by
 intro vs H Q E h
 obtain ⟨L, lo, hi, ps, hh, p, rfl, hL, pk, hl, q⟩ := h
 obtain ⟨_, _, l1, l2, l3, l4⟩ := fJ
 have pl := fH pk
 refine ⟨L, rfl, .inl ⟨⟨_, SqL.of hL⟩, fun D hD => ?_⟩⟩
 have hLD : L ≠ D := bj hL hD
 refine mN (fv.list (xs := ps.map V.ref) .non) (fun i ys H2 => ∃ rs : List Addr, ys = rs.map V.ref ∧ H2 D = some (.lst ys) ∧ ay H H2 ∧ rs.length ≤ i ∧ PR H2 rs ((((aJ hh p).take i).filterMap fK).filter (inI lo hi)))
   (fun i ys H2 _ ⟨_, _, _, s2, _⟩ => SqL.of (s2 _ _ hL)) ⟨[], rfl, am, ay.upd hD, Nat.le_refl _, .nil⟩ ?_ ?_
 · rintro i ys H2 hi' ⟨rs, rfl, hd, s2, hrl, pr⟩
   rw [List.length_map] at hi'
   obtain ⟨t, ht⟩ : ∃ t, (aJ hh p)[i]? = some t := ⟨_, List.getElem?_eq_getElem (by omega)⟩
   obtain ⟨a, ha, hat, _⟩ := tX pk ht
   have e0 := lH ha
   have hi2 : i < (ps.map V.ref).length := by rw [List.length_map]; exact hi'
   have ha2 := s2 _ _ hat
   show (tOp (aq K) (ab 0) (tC (.int 0))) [some ((ps.map V.ref).getD i .non), some (.int lo), some (.int hi)] H2 _
   have skip : fK t = none → CWd (ps.map V.ref).length (fun i ys H2 => ∃ rs : List Addr, ys = rs.map V.ref ∧ H2 D = some (.lst ys) ∧ ay H H2 ∧ rs.length ≤ i ∧ PR H2 rs ((((aJ hh p).take i).filterMap fK).filter (inI lo hi))) (i + 1) ((ps.map V.ref).length - (i + 1)) (rs.map V.ref) H2 := fun hr => by
     refine ⟨hi2, rfl, rs, rfl, hd, s2, by omega, ?_⟩
     rw [jS ht, List.filterMap_append]
     have : [t].filterMap fK = [] := by rw [List.filterMap_cons, hr]; rfl
     rw [this, List.append_nil]; exact pr
   have go : ∀ B, (aq K (.ref a) (.int 0) H2 B) → (tOp (aq K) (ab 0) (tC (.int 0))) [some ((ps.map V.ref).getD i .non), some (.int lo), some (.int hi)] H2 B := fun B hB => by
     show aq K ((ps.map V.ref).getD i .non) (.int 0) H2 B
     rw [e0]; exact hB
   refine go _ ?_
   rcases rJ (List.mem_of_getElem? ht) with rfl | ⟨k, z, rfl⟩ | ⟨d, b, x, y, rfl⟩
   · exact ixT (j := 0) ha2 rfl rfl (Sel.no l2 (se ⟨_, by omega, skip rfl⟩))
   · refine ixT (j := 0) ha2 rfl rfl (Sel.yes l3 ?_)
     show aq K ((ps.map V.ref).getD i .non) (.int 1) H2 _
     rw [e0]
     refine ixT (j := 1) ha2 rfl rfl ?_
     have step : ∀ b : Bool, inI lo hi (k, z) = b → ((((aJ hh p).take (i + 1)).filterMap fK).filter (inI lo hi)) = ((((aJ hh p).take i).filterMap fK).filter (inI lo hi)) ++ (if b = true then [(k, z)] else []) := fun b hb => by
       rw [jS ht, List.filterMap_append]
       have : [([Sum.inr "leaf", Sum.inl k, Sum.inr z] : List Key)].filterMap fK = [(k, z)] := by rw [List.filterMap_cons, pT]; rfl
       rw [this, List.filter_append]
       cases b with
       | true => rw [List.filter_cons_of_pos hb]; rfl
       | false => rw [List.filter_cons_of_neg (by rw [hb]; decide)]; rfl
     have out : inI lo hi (k, z) = false → ∃ m', m' < (ps.map V.ref).length - i ∧ CWd (ps.map V.ref).length (fun i ys H2 => ∃ rs : List Addr, ys = rs.map V.ref ∧ H2 D = some (.lst ys) ∧ ay H H2 ∧ rs.length ≤ i ∧ PR H2 rs ((((aJ hh p).take i).filterMap fK).filter (inI lo hi))) (i + 1) m' (rs.map V.ref) H2 := fun hb => by
       refine CWd.next hi2 ⟨rs, rfl, hd, s2, by omega, ?_⟩
       rw [step false hb]
       show PR H2 rs (_ ++ [])
       rw [List.append_nil]; exact pr
     refine Sel.dec (fun h1 => ?_) (fun h1 => se (out (by unfold inI; rw [decide_eq_false h1]; rfl)))
     show (if decide (k ≤ hi) = true then _ else _)
     by_cases h2 : k ≤ hi
     · rw [if_pos (decide_eq_true h2)]
       refine ixT (j := 1) ha2 rfl rfl ?_
       refine ixT (j := 2) ha2 rfl rfl ⟨by show 2 ≤ sizeLine; decide, fun t hT => ?_⟩
       have s3 := ay.upd (o := .tup [V.int k, V.str z]) hT
       have ne : D ≠ t := bj hd hT
       have ne2 : t ≠ D := fun z => ne z.symm
       refine ⟨s3 _ _ hd, by rw [List.length_map]; exact Nat.lt_of_le_of_lt (m := 1000) (by omega) (by decide), CWd.next hi2 ⟨rs ++ [t], by rw [List.map_append]; rfl, am, (s2.trans s3).put hD, by rw [List.length_append]; show _ + 1 ≤ _; omega, ?_⟩⟩
       rw [step true (by unfold inI; rw [decide_eq_true h1, decide_eq_true h2]; rfl)]
       refine rB (gC (fun c xs e => ?_) pr) ?_
       · have hc : c ≠ D := fun z => by rw [z, hd] at e; cases e
         rw [aK hc]; exact s3 _ _ e
       · rw [aK ne2]; exact am
     · rw [if_neg (by rw [decide_eq_false h2]; decide)]
       exact out (by unfold inI; rw [decide_eq_false h2, Bool.and_false])
   · exact ixT (j := 0) ha2 rfl rfl (Sel.no l4 (se ⟨_, by omega, skip rfl⟩))
 · rintro ys H2 ⟨rs, rfl, hd, s2, hrl, pr⟩
   rw [List.length_map, pl, List.take_length, sH] at pr
   exact q D rs H2 s2 hD hd pr
theorem AY (K : W.Frag) (A : Adr) : Ln (oO K A) 6 := by rintro vs H Q E ⟨_, _, _, _, _, _, _, _, _, rfl, _⟩; rfl
theorem Fs (T : Txt K mg A) : Rd (oO K A) (Il K A) ["stamper", "bits", "mark", "low", "high", "paper", "terms", "came"] := by
 intro vs H Q E h
 obtain ⟨f, b, lo, hi, v, p, g, n, x, rfl, w, sp, hn, hx, q⟩ := h
 refine ⟨f, b, lo, hi, v, p, g, n, rfl, w, sp, hn, fun L ps ts g1 H1 kt sp1 sub nl hL pk e => ?_⟩
 refine ⟨f, rfl, sp1.clo, og sp1 (by omega) w.nc hL pk e fun y g2 H2 kt2 sp2 sub2 ey => ?_⟩
 have e1 := hx _ ((bv g2).of (sub.trans sub2))
 have e2 := ey _ (bv g2)
 rw [← e2] at e1
 subst e1
 refine jz (Sel.no rfl ?_)
 have ets := e _ (bv g1)
 subst ets
 have hm := dF p
 have hf := w.f
 refine ⟨L, lo, hi, ps, dJ g1, p, rfl, kt2 _ _ hL (fun _ z => nomatch z), cy kt2.tup pk, by rw [gc]; omega, fun M rs H3 s3 hM hM3 pr => ?_⟩
 exact q M rs g2 H3 ((kt.trans kt2).trans (aE.same s3)) (sp2.same (Nat.le_refl _) s3) (sub.trans sub2) (eR (kt.trans kt2) hM) hM3 pr
end Rs
namespace Rs
open PySem PySem.Spec PyProof.Rows L2
theorem fm (p : au) : (aC p).length ≤ forks p + 1 := by
 induction p with
 | fork d b l r hl hr => show (aC l ++ aC r).length ≤ forks l + forks r + 1 + 1; rw [List.length_append]; omega
 | leaf k z => exact Nat.le_refl 1
 | cut m => exact Nat.zero_le _
 | bare => exact Nat.zero_le _
variable {K : W.Frag} {mg : Str → Option Value} {A : Adr}
theorem Gd (K : W.Frag) (A : Adr) (n : Nat) : Ln (gx K A n) 1 := by rintro vs H Q E ⟨_, _, rfl, _⟩; rfl
theorem AN (K : W.Frag) (A : Adr) : ∀ vs H Q E, ¬ gx K A 0 vs H Q E := by
 rintro vs H Q E ⟨_, _, _, _, h, _⟩
 omega
theorem dR {H H' : Hp} {L : Addr} (s : ay H H') (h : H' L = none) : H L = none := by
 cases e : H L with
 | none => rfl
 | some o => rw [s _ _ e] at h; cases h
theorem Ie (T : Txt K mg A) (n : Nat) : Rd (gx K A (n + 1)) (T_7 K A n) ["_law_part_here"] := by
  intro vs H Q E h
  obtain ⟨v, p, rfl, w, ht, hf, q⟩ := h
  obtain ⟨_, ⟨f1, f2, f3, f4⟩, l1, l2, l3, l4⟩ := fJ
  have non : aC p = [] → (aA (cp af)) { nx := fun _ H' => Q .non H', rt := Q } [some v] H := fun e => by
    refine ⟨by show 0 ≤ sizeLine; decide, fun M hM => q M [] _ (ay.upd hM) hM am ?_⟩
    rw [e]; exact .nil
  cases p with
  | cut m =>
    obtain ⟨a, rfl, ha⟩ := fF w
    exact ixT (j := 0) ha rfl rfl (Sel.no l1 (ixT (j := 0) ha rfl rfl (Sel.no f1 (non rfl))))
  | bare =>
    obtain ⟨a, rfl, ha⟩ := fu w
    exact ixT (j := 0) ha rfl rfl (Sel.no l2 (ixT (j := 0) ha rfl rfl (Sel.no f2 (non rfl))))
  | leaf k z =>
    obtain ⟨a, rfl, ha⟩ := eZ w
    refine ixT (j := 0) ha rfl rfl (Sel.yes l3 (ixT (j := 1) ha rfl rfl (ixT (j := 2) ha rfl rfl ⟨by show 2 ≤ sizeLine; decide, fun t hT => ⟨by show 1 ≤ sizeLine; decide, fun M hM => ?_⟩⟩)))
    have s1 := ay.upd (o := .tup [V.int k, V.str z]) hT
    have s2 := ay.upd (o := .lst [V.ref t]) hM
    exact q M [t] _ (s1.trans s2) (dR s1 hM) am (.cons (s2 _ _ am) .nil)
  | fork d b l r =>
    obtain ⟨a, vl, vr, rfl, ha, wl, wr⟩ := cY w
    have ht' : max (aU l) (aU r) + 1 < n + 1 := ht
    have hf' : forks l + forks r + 1 ≤ 70 := hf
    refine ixT (j := 0) ha rfl rfl (Sel.no l4 (ixT (j := 0) ha rfl rfl (Sel.yes f4 ?_)))
    refine ixT (j := 3) ha rfl rfl ⟨vl, l, rfl, wl, by omega, by omega, fun L1 r1 H1 s1 n1 h1 p1 => ?_⟩
    refine ixT (j := 4) (s1 _ _ ha) rfl rfl ⟨vr, r, rfl, wr.mono s1, by omega, by omega, fun L2 r2 H2 s2 n2 h2 p2 => ?_⟩
    have e1 := qb p1
    have e2 := qb p2
    have m1 := fm l
    have m2 := fm r
    refine .inl ⟨L1, L2, _, _, rfl, rfl, s2 _ _ h1, h2, bo (by simp; omega), fun M hM => ?_⟩
    have s3 := ay.upd (o := .lst (r1.map V.ref ++ r2.map V.ref)) hM
    have ml : r1.map V.ref ++ r2.map V.ref = (r1 ++ r2).map V.ref := by simp
    exact q M (r1 ++ r2) _ ((s1.trans s2).trans s3) (dR (s1.trans s2) hM) (by rw [am, ml]) (uZ (gC (fun c xs e => s3 _ _ (s2 _ _ e)) p1) (gC (fun c xs e => s3 _ _ e) p2))
theorem FJ (K : W.Frag) (A : Adr) : Ln (sr K A) 3 := by rintro vs H Q E ⟨_, _, _, _, rfl, _⟩; rfl
theorem Ih (T : Txt K mg A) : Rd (sr K A) (T_4 K A) ["_law_part_here", "_law_low", "_law_high"] := by
 intro vs H Q E h
 obtain ⟨v, p, lo, hi, rfl, w, ht, hf, q⟩ := h
 refine ⟨v, p, rfl, w, by omega, hf, fun L ps H1 s1 n1 hL pr => ?_⟩
 have pl := qb pr
 have ml := fm p
 refine ⟨L, rfl, .inl ⟨⟨_, SqL.of hL⟩, fun D hD => ?_⟩⟩
 refine mN (fv.list (xs := ps.map V.ref) .non) (fun i ys H2 => ∃ rs : List Addr, ys = rs.map V.ref ∧ H2 D = some (.lst ys) ∧ ay H1 H2 ∧ rs.length ≤ i ∧ PR H2 rs (((aC p).take i).filter (inI lo hi)))
   (fun i ys H2 _ ⟨_, _, _, s2, _⟩ => SqL.of (s2 _ _ hL)) ⟨[], rfl, am, ay.upd hD, Nat.le_refl _, .nil⟩ ?_ ?_
 · rintro i ys H2 hi' ⟨rs, rfl, hd, s2, hrl, pr2⟩
   rw [List.length_map] at hi'
   obtain ⟨t, ht⟩ : ∃ t, (aC p)[i]? = some t := ⟨_, List.getElem?_eq_getElem (by omega)⟩
   obtain ⟨a, ha, hat⟩ := qo pr ht
   have e0 := lH ha
   have hi2 : i < (ps.map V.ref).length := by rw [List.length_map]; exact hi'
   have ha2 := s2 _ _ hat
   have step : ∀ b : Bool, inI lo hi t = b → (((aC p).take (i + 1)).filter (inI lo hi)) = (((aC p).take i).filter (inI lo hi)) ++ (if b = true then [t] else []) := fun b hb => by
     rw [jS ht, List.filter_append]
     cases b with
     | true => rw [List.filter_cons_of_pos hb]; rfl
     | false => rw [List.filter_cons_of_neg (by rw [hb]; decide)]; rfl
   have out : inI lo hi t = false → ∃ m', m' < (ps.map V.ref).length - i ∧ CWd (ps.map V.ref).length (fun i ys H2 => ∃ rs : List Addr, ys = rs.map V.ref ∧ H2 D = some (.lst ys) ∧ ay H1 H2 ∧ rs.length ≤ i ∧ PR H2 rs (((aC p).take i).filter (inI lo hi))) (i + 1) m' (rs.map V.ref) H2 := fun hb => by
     refine CWd.next hi2 ⟨rs, rfl, hd, s2, by omega, ?_⟩
     rw [step false hb]
     show PR H2 rs (_ ++ [])
     rw [List.append_nil]; exact pr2
   show aq K ((ps.map V.ref).getD i .non) (.int 0) H2 _
   rw [e0]
   refine ixT (j := 0) ha2 rfl rfl ?_
   refine Sel.dec (fun h1 => ?_) (fun h1 => se (out (by unfold inI; rw [decide_eq_false h1]; rfl)))
   show (if decide (t.1 ≤ hi) = true then _ else _)
   by_cases h2 : t.1 ≤ hi
   · rw [if_pos (decide_eq_true h2)]
     refine ⟨hd, by rw [List.length_map]; exact Nat.lt_of_le_of_lt (m := 1000) (by omega) (by decide), CWd.next hi2 ⟨rs ++ [a], by rw [List.map_append]; rfl, am, s2.put hD, by rw [List.length_append]; show _ + 1 ≤ _; omega, ?_⟩⟩
     rw [step true (by unfold inI; rw [decide_eq_true h1, decide_eq_true h2]; rfl)]
     have kp : ∀ (c : Addr) (xs : List V), H2 c = some (.tup xs) → (upd H2 D (.lst (rs.map V.ref ++ [V.ref a]))) c = some (.tup xs) := fun c xs e => by
      have hc : c ≠ D := fun z => by rw [z, hd] at e; cases e
      rw [aK hc]; exact e
     exact rB (gC kp pr2) (kp _ _ ha2)
   · rw [if_neg (by rw [decide_eq_false h2]; decide)]
     exact out (by unfold inI; rw [decide_eq_false h2, Bool.and_false])
 · rintro ys H2 ⟨rs, rfl, hd, s2, hrl, pr2⟩
   rw [List.length_map, pl, List.take_length] at pr2
   exact q D rs H2 (s1.trans s2) (dR s1 hD) hd pr2
theorem qW {i : Nat} {σ : L2.St} {H : Hp} {Q : List V → Hp → Prop} {v : V} (h : σ[i]? = some (some v)) (q : Q [v] H) : aa (ab i) af σ H Q := by
 show (match σ[i]? with | some (some v) => af σ H fun xs H2 => Q (v :: xs) H2 | _ => False)
 rw [h]; exact q
theorem CV (K : W.Frag) (A : Adr) (n : Nat) : Ln (dh K A n) 2 := by rintro vs H Q E ⟨_, _, _, _, _, rfl, _⟩; rfl
theorem yJ (K : W.Frag) (A : Adr) : ∀ vs H Q E, ¬ dh K A 0 vs H Q E := by
 rintro vs H Q E ⟨_, _, _, _, _, _, _, h, _⟩
 omega
theorem FO (T : Txt K mg A) (n : Nat) : Rd (dh K A (n + 1)) (GL K A n) ["_law_stamper", "_law_part_here", "_law_left", "_law_right", "_law_own"] := by
  intro vs H Q E h
  obtain ⟨f, v, p, g, m, rfl, w, ht, sp, hm, q⟩ := h
  obtain ⟨⟨c1, c2, c3, c4⟩, ⟨f1, f2, f3, f4⟩, _⟩ := fJ
  have hf := w.f
  have one : ∀ (a : Addr) (t : List Key), bK p = 1 → H a = some (.tup (t.map kV)) → okT t = true → (∀ h, aJ h p = [t] ∧ aR h p = h t) → szT t + 62 ≤ szP p → szT t ≤ 1000 → (aA (bH (aa (fQ (eT K A) (fun _ => E0) (ab 0) (aa (ab 1) (af))) (aa (cp (aa (ab 1) (af))) (af))))) { nx := fun _ H' => Q .non H', rt := Q } [some (.ref f), some (.ref a), none, none, none] H := fun a t h0 ha ok ht hs hs2 => by
    refine ⟨f, rfl, sp.clo, ?_⟩
    refine qW (v := .ref a) rfl ?_
    refine ii sp (by omega) ha ok fun x H2 g2 kt sp2 sub gv so => ?_
    refine ⟨by show 1 ≤ sizeLine; decide, fun L hL => ⟨by show 2 ≤ sizeLine; decide, fun t2 hT => ?_⟩⟩
    have S := ay.upd (o := .lst [V.ref a]) hL
    have S2 := ay.upd (o := .tup [kV x, V.ref L]) hT
    obtain ⟨o1, o2⟩ := iV so (by omega)
    refine q t2 L x [a] [t] g2 _ (kt.trans (aE.same (S.trans S2))) (sp2.same (by omega) (S.trans S2)) sub (eR kt hL) am (S2 _ _ am) (.cons ⟨S2 _ _ (S _ _ (kt.tup _ _ ha)), ok⟩ .nil) (fun h he => ⟨(ht h).1.symm, ?_⟩) o1 (by omega)
    rw [(ht h).2]; exact (he _ _ gv).symm
  cases p with
  | cut c =>
    obtain ⟨a, rfl, ha⟩ := fF w.w
    obtain ⟨_, _, _, _, _, _, _, _, _, hst⟩ := w.ok
    have o1 := ko hst.1 hst.2.1
    have o2 := hst.2.2
    refine ixT (j := 0) ha rfl rfl (Sel.yes c1 (ixT (j := 1) ha rfl rfl ⟨by show 0 ≤ sizeLine; decide, fun L hL => ⟨by show 2 ≤ sizeLine; decide, fun t hT => ?_⟩⟩))
    have S := ay.upd (o := .lst []) hL
    have S2 := ay.upd (o := .tup [kV c, V.ref L]) hT
    exact q t L c [] [] g _ (aE.same (S.trans S2)) (sp.same (by omega) (S.trans S2)) Sub.rfl' (eR aE.rfl' hL) am (S2 _ _ am) .nil (fun h _ => ⟨rfl, rfl⟩) o1 o2
  | bare =>
    obtain ⟨a, rfl, ha⟩ := fu w.w
    refine ixT (j := 0) ha rfl rfl (Sel.no c2 (ixT (j := 0) ha rfl rfl (Sel.yes (by rw [f2]; rfl) ?_)))
    exact one a [.inr "bare"] rfl ha fU.1 (fun _ => ⟨rfl, rfl⟩) (by rw [fU.2]; exact Nat.le_refl _) (by rw [fU.2]; decide)
  | leaf k z =>
    obtain ⟨a, rfl, ha⟩ := eZ w.w
    refine ixT (j := 0) ha rfl rfl (Sel.no c3 (ixT (j := 0) ha rfl rfl (Sel.yes (by rw [f3]; rfl) ?_)))
    obtain ⟨b, lo, hi, d, g', en, d0, d1, _, k0, k1, hz, has, _⟩ := w.ok
    have := p10 en.b60
    obtain ⟨o1, o2⟩ := ls (k := k) (z := z) k0 (by omega) hz has
    exact one a [.inr "leaf", .inl k, .inr z] rfl ha o1 (fun _ => ⟨rfl, rfl⟩) (by show _ ≤ 312; omega) (by omega)
  | fork d x l r =>
    obtain ⟨a, vl, vr, rfl, ha, wl, wr⟩ := cY w.w
    have ht' : max (aU l) (aU r) + 1 < n + 1 := ht
    have hm' : m + (bK l + bK r + 1) ≤ 42000 := hm
    obtain ⟨d0, d1, x0, x1⟩ := w.nums
    refine ixT (j := 0) ha rfl rfl (Sel.no c4 (ixT (j := 0) ha rfl rfl (Sel.no (by rw [f4]; rfl) ?_)))
    refine ixT (j := 3) ha rfl rfl ⟨f, vl, l, g, m, rfl, w.left wl, by omega, sp, by omega, fun t1 L1 y1 ps1 ts1 g1 H1 kt1 sp1 sub1 nl1 ht1 hL1 pk1 e1 oy1 sy1 => ?_⟩
    have ha1 := kt1.tup _ _ ha
    refine ixT (j := 4) ha1 rfl rfl ⟨f, vr, r, g1, m + bK l, rfl, (w.right wr).keep kt1.tup, by omega, sp1, by omega, fun t2 L2 y2 ps2 ts2 g2 H2 kt2 sp2 sub2 nl2 ht2 hL2 pk2 e2 oy2 sy2 => ?_⟩
    have ha2 := kt2.tup _ _ ha1
    have ht1b := kt2.tup _ _ ht1
    have hL1b := kt2 _ _ hL1 (fun _ z => nomatch z)
    refine ixT (j := 1) ha2 rfl rfl (ixT (j := 2) ha2 rfl rfl (ixT (j := 0) ht1b rfl rfl (ixT (j := 0) ht2 rfl rfl ⟨by show 5 ≤ sizeLine; decide, fun t hT => ?_⟩)))
    have S3 := ay.upd (o := .tup [V.str "fork", .int d, .int x, kV y1, kV y2]) hT
    obtain ⟨ok, sz⟩ := nU (d := d) (x := x) d0 d1 x0 x1 oy1 oy2
    have szp := pY (.fork d x l r)
    have szp : 252 + szP l + szP r ≤ 1376 * (forks l + forks r + 1) + 1062 := szp
    have hf' : forks l + forks r + 1 ≤ 70 := hf
    refine ⟨f, rfl, (sp2.same (Nat.le_refl _) S3).clo, ?_⟩
    refine qW (v := .ref t) rfl ?_
    refine ii (sp2.same (Nat.le_refl _) S3) (by omega) (k := [.inr "fork", .inl d, .inl x, y1, y2]) am ok fun y H4 g4 kt4 sp4 sub4 gv so => ?_
    obtain ⟨o1, o2⟩ := iV so (by omega)
    have kt34 := (aE.same S3).trans kt4
    have ht1d := kt34.tup _ _ ht1b
    have ht2d := kt34.tup _ _ ht2
    have hL1d := kt34 _ _ hL1b (fun _ z => nomatch z)
    have hL2d := kt34 _ _ hL2 (fun _ z => nomatch z)
    have htd := kt4.tup _ _ (am (H := H2) (a := t) (o := .tup [V.str "fork", .int d, .int x, kV y1, kV y2]))
    have p1 : ps1.length = bK l := by rw [fH pk1, (e1 _ (bv g1)).1, gc]
    have p2 : ps2.length = bK r := by rw [fH pk2, (e2 _ (bv g2)).1, gc]
    have q1 := dF l
    have q2 := dF r
    refine ixT (j := 1) ht1d rfl rfl (ixT (j := 1) ht2d rfl rfl (.inl ⟨L1, L2, _, _, rfl, rfl, hL1d, hL2d, bo (by simp; omega), fun C hC => ⟨by show 1 ≤ sizeLine; decide, fun D hD => ?_⟩⟩))
    have S5 := ay.upd (o := .lst (ps1.map V.ref ++ ps2.map V.ref)) hC
    have S6 := ay.upd (o := .lst [V.ref t]) hD
    refine .inl ⟨C, D, _, _, rfl, rfl, S6 _ _ am, am, bo (by simp; omega), fun L hL => ⟨by show 2 ≤ sizeLine; decide, fun t5 h5 => ?_⟩⟩
    have S7 := ay.upd (o := .lst (ps1.map V.ref ++ ps2.map V.ref ++ [V.ref t])) hL
    have S8 := ay.upd (o := .tup [kV y, V.ref L]) h5
    have SS := ((S5.trans S6).trans S7).trans S8
    have ml : ps1.map V.ref ++ ps2.map V.ref ++ [V.ref t] = (ps1 ++ ps2 ++ [t]).map V.ref := by simp
    have kk := (kt34.trans (aE.same SS)).tup
    have hLx := S8 _ _ (am (o := .lst (ps1.map V.ref ++ ps2.map V.ref ++ [V.ref t])))
    rw [ml] at hLx
    refine q t5 L y (ps1 ++ ps2 ++ [t]) (ts1 ++ ts2 ++ [[.inr "fork", .inl d, .inl x, y1, y2]]) g4 _ (((kt1.trans kt2).trans kt34).trans (aE.same SS)) (sp4.same (by show _ ≤ m + (bK l + bK r + 1); omega) SS) ((sub1.trans sub2).trans sub4) (eR (((kt1.trans kt2).trans kt34).trans (aE.same (S5.trans S6))) hL) (by rw [am]) (by rw [← ml] at hLx ⊢; exact hLx) (mR (pW (cy kk (cy kt2.tup pk1)) (cy kk pk2)) ⟨SS _ _ htd, ok⟩) (fun h he => ?_) o1 (by rw [zP so]; decide)
    have h2 := he.of sub4
    have h1 := h2.of sub2
    have ge := he _ _ gv
    refine ⟨?_, ?_⟩
    · rw [(e1 h h1).1, (e2 h h2).1, (e1 h h1).2, (e2 h h2).2]; rfl
    · rw [← ge, (e1 h h1).2, (e2 h h2).2]; rfl
end Rs
namespace Rs
open PySem PySem.Spec PyProof.Rows L2
variable {K : W.Frag} {mg : Str → Option Value} {A : Adr}
theorem Cp (K : W.Frag) (A : Adr) : Ln (oB K A) 3 := by rintro vs H Q E ⟨_, _, _, rfl, _⟩; rfl
theorem DP (T : Txt K mg A) : Rd (oB K A) (GY K A) ["_law_cell", "_law_depth", "_law_begin_here"] := by
 intro vs H Q E h
 obtain ⟨c, d, g, rfl, q⟩ := h
 exact ⟨gH (by decide) (by decide), gH (by decide) (by decide), gH (by decide) (by decide), by decide, gH (by decide) (by decide), by decide, q _ (by omega) (by omega)⟩
theorem DS (K : W.Frag) (A : Adr) : Ln (qE K A) 5 := by rintro vs H Q E ⟨_, _, _, _, _, rfl, _⟩; rfl
theorem HP (T : Txt K mg A) : Rd (qE K A) (T_9 K A) ["_law_bits_here", "_law_low", "_law_high", "_law_depth", "_law_begin_here", "_law_wide"] := by
 intro vs H Q E h
 obtain ⟨b, lo, hi, d, g, rfl, e, d0, d1, g0, g1, q⟩ := h
 have b60 := e.b60
 have := kF (d := d) (by omega)
 refine ⟨⟨by omega, by omega, by decide⟩, jo g0 (by omega), ?_⟩
 show Sel (decide (g * (1 * 2 ^ (b - d).toNat) ≤ hi)) _ _
 rw [Int.one_mul]
 unfold bf at q
 refine Sel.mk (fun h1 => ⟨jo (by omega) (by omega), ?_⟩) (fun h1 => ?_)
 · rw [h1, Bool.true_and] at q
   show Q (.bl (decide (lo < (g + 1) * 2 ^ (b - d).toNat))) H
   have e : decide (lo ≤ (g + 1) * 2 ^ (b - d).toNat - 1) = decide (lo < (g + 1) * 2 ^ (b - d).toNat) := decide_eq_decide.mpr (by omega)
   rw [← e]; exact q
 · rw [h1, Bool.false_and] at q
   exact q
theorem AJ {x g m f b : Int} (g0 : 0 ≤ g) (m0 : 0 ≤ m) (hf : f ≤ b) (g1 : g < 2 ^ (b - f).toNat) (h : x / 2 ^ m.toNat = g) : 0 ≤ x ∧ x < 2 ^ (b - f + m).toNat := by
 have W := ck m.toNat
 have e : (b - f + m).toNat = (b - f).toNat + m.toNat := by omega
 rw [e, Int.pow_add]
 refine ⟨?_, ?_⟩
 · refine Int.not_lt.mp fun hx => ?_
   have : x / 2 ^ m.toNat < 0 := Int.ediv_neg_of_neg_of_pos hx W
   omega
 · have h1 : x < (x / 2 ^ m.toNat + 1) * 2 ^ m.toNat := Int.lt_ediv_add_one_mul_self x W
   rw [h] at h1
   have h2 : (g + 1) * 2 ^ m.toNat ≤ 2 ^ (b - f).toNat * 2 ^ m.toNat := Int.mul_le_mul_of_nonneg_right (by omega) (Int.le_of_lt W)
   omega
theorem iw {g r W : Int} (hW : 0 < W) (r0 : 0 ≤ r) (r1 : r < W) : (g * W + r) / W = g := by
 rw [Int.add_comm, Int.add_mul_ediv_right _ _ (by omega), Int.ediv_eq_zero_of_lt r0 r1, Int.zero_add]
theorem Ek (K : W.Frag) (A : Adr) : Ln (qi K A) 6 := by rintro vs H Q E ⟨_, _, _, _, _, _, _, rfl, _⟩; rfl
theorem GN (T : Txt K mg A) : Rd (qi K A) (T_1 K A) ["_law_number_here", "_law_begin_here", "_law_more", "_law_low", "_law_high", "_law_free", "_law_own"] := by
 intro vs H Q E h
 obtain ⟨b, n, g, m, lo, hi, f, rfl, e, n0, n1, g0, m0, mf, fb, g1, q⟩ := h
 have b60 := e.b60
 have hle := e.le
 have gg : g < 2 ^ 60 := Int.lt_of_lt_of_le g1 (kF (by omega))
 have W := ck m.toNat
 have fin : ∀ x : Int, x / 2 ^ m.toNat = g → Q (.int x) H := fun x hx => let ⟨a, c⟩ := AJ g0 m0 fb g1 hx; q x a c hx
 refine ⟨by decide, Sel.dec (fun _ => ?_) (fun _ => ?_)⟩
 · refine ⟨⟨m0, by omega, by omega⟩, gH (by decide) (by decide), ⟨m0, by omega, by decide⟩, by show (0 : Int) < 1 * 2 ^ m.toNat; rw [Int.one_mul]; exact W, fin _ ?_⟩
   rw [Int.one_mul]
   exact iw W (Int.emod_nonneg _ (by omega)) (Int.emod_lt_of_pos _ W)
 · refine ⟨by show (0 : Int) < hi - lo + 1; omega, by show (0 : Int) ≤ f - m; omega, m0, ?_⟩
   refine Sel.ndec (fun h1 => ⟨⟨m0, by omega, by omega⟩, fin _ ?_⟩) (fun h1 => fin _ h1)
   have := iw (g := g) (r := 0) W (by decide) W
   rw [Int.add_zero] at this; exact this
end Rs
namespace Rs
open PySem PySem.Spec PyProof.Rows L2
variable {K : W.Frag} {mg : Str → Option Value} {A : Adr}
theorem rg {b lo hi d g : Int} {p : au} (h : aM b lo hi d g p) (hm : bf b lo hi d g = false) : forks p = 0 := by
 cases p with
 | fork e x l r => have := h.1; rw [hm] at this; cases this
 | _ => rfl
theorem vP {b lo e x : Int} (h1 : bf b lo lo e (2 * x) = true) (h2 : bf b lo lo e (2 * x + 1) = true) : False := by
 unfold bf at h1 h2
 rw [Bool.and_eq_true] at h1 h2
 have a := of_decide_eq_true h1.2
 have c := of_decide_eq_true h2.1
 generalize (2 * x + 1) * 2 ^ (b - e).toNat = P at a c
 omega
theorem zA {y : Int} (h : 1 ≤ y) : (2 : Nat) ^ y.toNat = 2 * 2 ^ (y - 1).toNat := by
 have : y.toNat = (y - 1).toNat + 1 := by omega
 rw [this, Nat.pow_succ]; omega
theorem vS {b lo hi d e x y : Int} {l r : au} (y1 : 1 ≤ y) (hl : aM b lo hi e (2 * x) l) (hr : aM b lo hi e (2 * x + 1) r) (fl : forks l ≤ 2 ^ (y - 1).toNat - 1) (fr : forks r ≤ 2 ^ (y - 1).toNat - 1) (gl : lo = hi → (forks l : Int) ≤ b - e) (gr : lo = hi → (forks r : Int) ≤ b - e) (hd : d < e) :
    forks l + forks r + 1 ≤ 2 ^ y.toNat - 1 ∧ (lo = hi → ((forks l + forks r + 1 : Nat) : Int) ≤ b - d) := by
  have e2 := zA y1
  have p1 : 1 ≤ 2 ^ (y - 1).toNat := Nat.one_le_two_pow
  refine ⟨by omega, fun h => ?_⟩
  have gl := gl h
  have gr := gr h
  subst h
  cases h1 : bf b lo lo e (2 * x) with
  | false => have := rg hl h1; omega
  | true =>
    cases h2 : bf b lo lo e (2 * x + 1) with
    | false => have := rg hr h2; omega
    | true => exact (vP h1 h2).elim
theorem BP (K : W.Frag) (A : Adr) (n : Nat) : Ln (fL K A n) 7 := by rintro vs H Q E ⟨_, _, _, _, _, _, _, rfl, _⟩; rfl
theorem yF (K : W.Frag) (A : Adr) : ∀ vs H Q E, ¬ fL K A 0 vs H Q E := by
 rintro vs H Q E ⟨_, _, _, _, _, _, _, _, _, _, _, _, _, _, _, h, _⟩
 omega
theorem Dv (T : Txt K mg A) (n : Nat) : Rd (fL K A (n + 1)) (HV K A n) ["_law_cell", "_law_bits_here", "_law_low", "_law_high", "_law_depth", "_law_begin_here", "_law_deep", "_law_number_here", "_law_free", "_law_key_here", "_law_more", "_law_own", "_law_left", "_law_right"] := by
  intro vs H Q E h
  obtain ⟨c, b, lo, hi, d, g, y, rfl, e, d0, d1, g0, g1, y0, y1, hn, q⟩ := h
  have b60 := e.b60
  have e1 := e.b1
  have lo0 := e.lo0
  have le := e.le
  have hi1 := e.hi1
  have gg : g < 2 ^ 60 := Int.lt_of_lt_of_le g1 (kF (by omega))
  have W := ck (b - d).toNat
  have WW : (2 : Int) ^ b.toNat = 2 ^ d.toNat * 2 ^ (b - d).toNat := jZ d0 d1
  refine ⟨c, d, g, rfl, fun N n0 n1 => ?_⟩
  refine ⟨b, lo, hi, d, g, rfl, e, d0, d1, g0, g1, ?_⟩
  cases hm : bf b lo hi d g with
  | false =>
    refine Sel.yes rfl ⟨N, rfl, fun m hst => ⟨by show 2 ≤ sizeLine; decide, fun t hT => ?_⟩⟩
    exact q (.ref t) (.cut m) _ (ay.upd hT) ⟨.tup am (.cons (.str _) (.cons (kc _ m) .nil)), ⟨hm, hst⟩, d0, d1, g0, g1⟩ (Nat.zero_le _) (fun _ => by show (0 : Int) ≤ _; omega) (by show (0 : Int) ≤ _; omega)
  | true =>
    refine Sel.no rfl ?_
    have leaf : ∀ (k : Int) (H2 : Hp), ay H H2 → 0 ≤ k → k < 2 ^ b.toNat → aw b k d = g → ∀ (a8 : Option V), (aA (bH (aa (tC (.str "leaf")) (aa (ab 9) (aa (ai (jG K A) (fun _ => E0) (aa (tOp (bJ) (ab 7) (tC (.int 3))) (af))) (af)))))) { nx := fun _ H' => Q .non H', rt := Q } [some (.int c), some (.int b), some (.int lo), some (.int hi), some (.int d), some (.int g), some (.int y), some (.int N), a8, some (.int k), none, none, none, none] H2 := fun k H2 s2 k0 k1 hs a8 => by
      refine ⟨⟨by decide, by decide⟩, N / 3, rfl, fun z H3 s3 hz ha => ⟨by show 3 ≤ sizeLine; decide, fun t hT => ?_⟩⟩
      exact q (.ref t) (.leaf k z) _ ((s2.trans s3).trans (ay.upd hT)) ⟨.tup am (.cons (.str _) (.cons (.int _) (.cons (.str _) .nil))), ⟨hm, k0, k1, hz, ha, hs⟩, d0, d1, g0, g1⟩ (Nat.zero_le _) (fun _ => by show (0 : Int) ≤ _; omega) (by show (0 : Int) ≤ _; omega)
    have fork : 1 ≤ y → d < b → qz K A n { nx := fun _ H' => Q .non H', rt := Q } [some (.int c), some (.int b), some (.int lo), some (.int hi), some (.int d), some (.int g), some (.int y), some (.int N), some (.int (b - d)), none, none, none, none, none] H := fun y1' db => by
      refine ⟨⟨by decide, by decide⟩, by show (0 : Int) < b - d; omega, ⟨by decide, by decide⟩, by show (0 : Int) < (if 3 < b - d then 3 else b - d); split <;> omega, by show 4 ≤ sizeLine; decide, fun p hp => ⟨by decide, ?_⟩⟩
      have S := ay.upd (o := .lst [V.int 0, .int (N / 7 % (b - d)), .int 0, .int (N / 7 % (if 3 < b - d then 3 else b - d))]) hp
      have go : ∀ (m : Int), 0 ≤ m → m < b - d → uq K A n { nx := fun _ H' => Q .non H', rt := Q } [some (.int c), some (.int b), some (.int lo), some (.int hi), some (.int d), some (.int g), some (.int y), some (.int N), some (.int (b - d)), none, some (.int m), none, none, none] (upd H p (.lst [V.int 0, .int (N / 7 % (b - d)), .int 0, .int (N / 7 % (if 3 < b - d then 3 else b - d))])) := fun m m0 mf => by
        have eb : b - (b - d) = d := by omega
        refine ⟨b, N, g, m, lo, hi, b - d, rfl, e, n0, n1, g0, m0, mf, by omega, by rw [eb]; exact g1, fun x x0 x1 hx => ?_⟩
        rw [eb] at x1
        obtain ⟨fn1, fn2, fn3⟩ := cJ (e := d + m) (x := x) (by omega) x0 x1
        refine ⟨jo (by decide) (by decide), c, b, lo, hi, d + m + 1, 2 * x, y - 1, rfl, e, by omega, by omega, fn1, fn2, by omega, by omega, by omega, fun vl pl H3 s3 wl fl1 fl2 tl => ?_⟩
        refine ⟨jo (by decide) (by decide), c, b, lo, hi, d + m + 1, 2 * x + 1, y - 1, rfl, e, by omega, by omega, by omega, fn3, by omega, by omega, by omega, fun vr pr H4 s4 wr fr1 fr2 tr => ?_⟩
        refine ⟨by show 5 ≤ sizeLine; decide, fun t hT => ?_⟩
        have S5 := ay.upd (o := .tup [V.str "fork", .int (d + m), .int x, vl, vr]) hT
        obtain ⟨F1, F2⟩ := vS (d := d) y1' wl.ok wr.ok fl1 fr1 fl2 fr2 (by omega)
        have em : d + m - d = m := by omega
        refine q (.ref t) (.fork (d + m) x pl pr) _ (((S.trans s3).trans s4).trans S5) ⟨.tup am (.cons (.str _) (.cons (.int _) (.cons (.int _) (.cons ((wl.w.mono s4).mono S5) (.cons (wr.w.mono S5) .nil))))), ⟨hm, by omega, by omega, x0, x1, by rw [em]; exact hx, wl.ok, wr.ok⟩, d0, d1, g0, g1⟩ F1 F2 ?_
        show ((max (aU pl) (aU pr) + 1 : Nat) : Int) ≤ b - d
        omega
      have hc : N % 4 = 0 ∨ N % 4 = 1 ∨ N % 4 = 2 ∨ N % 4 = 3 := by omega
      have r1 : 0 ≤ N / 7 % (b - d) ∧ N / 7 % (b - d) < b - d := ⟨Int.emod_nonneg _ (by omega), Int.emod_lt_of_pos _ (by omega)⟩
      have r2 : 0 ≤ N / 7 % (if 3 < b - d then 3 else b - d) ∧ N / 7 % (if 3 < b - d then 3 else b - d) < b - d := by
        split
        · exact ⟨by omega, by omega⟩
        · exact r1
      rcases hc with hk | hk | hk | hk
      · exact ixL (j := 0) am hk rfl (go 0 (by decide) (by omega))
      · exact ixL (j := 1) am hk rfl (go _ r1.1 r1.2)
      · exact ixL (j := 2) am hk rfl (go 0 (by decide) (by omega))
      · exact ixL (j := 3) am hk rfl (go _ r2.1 r2.2)
    have ci : Ac K A n { nx := fun _ H' => Q .non H', rt := Q } [some (.int c), some (.int b), some (.int lo), some (.int hi), some (.int d), some (.int g), some (.int y), some (.int N), none, none, none, none, none, none] H := by
      have body : (ao (aB (tOp (aS K) (tOp (bG) (ab 5) (tOp (dI) (tC (.int 1)) (ab 8))) (tOp (ba) (tOp (bG) (tOp (bJ) (ab 7) (tC (.int 7))) (tC (.int 982451653))) (tOp (dI) (tC (.int 1)) (ab 8)))) (ar 9)) (ao (aT (gE (aG (tOp (be K) (tOp (ba) (ab 7) (tC (.int 3))) (tC (.int 0)))) (aG (tOp (be K) (tOp (gS) (ab 2) (ab 8)) (ab 5)))) (aB (ab 2) (ar 9)) (aI)) (aA (bH (aa (tC (.str "leaf")) (aa (ab 9) (aa (ai (jG K A) (fun _ => E0) (aa (tOp (bJ) (ab 7) (tC (.int 3))) (af))) (af)))))))) { nx := qz K A n { nx := fun _ H' => Q .non H', rt := Q }, rt := Q } [some (.int c), some (.int b), some (.int lo), some (.int hi), some (.int d), some (.int g), some (.int y), some (.int N), some (.int (b - d)), none, none, none, none, none] H := by
        refine ⟨⟨by omega, by omega, by decide⟩, jo g0 (by omega), ⟨by decide, by decide⟩, gH (by decide) (by decide), ⟨by omega, by omega, by decide⟩, by show (0 : Int) < 1 * 2 ^ (b - d).toNat; rw [Int.one_mul]; exact W, ?_⟩
        have r0 : 0 ≤ N / 7 * 982451653 % (1 * 2 ^ (b - d).toNat) := Int.emod_nonneg _ (by rw [Int.one_mul]; omega)
        have r1 : N / 7 * 982451653 % (1 * 2 ^ (b - d).toNat) < 2 ^ (b - d).toNat := by
          have := Int.emod_lt_of_pos (N / 7 * 982451653) (b := 1 * 2 ^ (b - d).toNat) (by rw [Int.one_mul]; exact W)
          rw [Int.one_mul] at this ⊢; exact this
        have k0 : 0 ≤ g * (1 * 2 ^ (b - d).toNat) + N / 7 * 982451653 % (1 * 2 ^ (b - d).toNat) := by
          have := Int.mul_nonneg g0 (Int.le_of_lt W)
          rw [Int.one_mul]
          rw [Int.one_mul] at r0
          omega
        have k1 : g * (1 * 2 ^ (b - d).toNat) + N / 7 * 982451653 % (1 * 2 ^ (b - d).toNat) < 2 ^ b.toNat := by
          have h2 : (g + 1) * 2 ^ (b - d).toNat ≤ 2 ^ d.toNat * 2 ^ (b - d).toNat := Int.mul_le_mul_of_nonneg_right (by omega) (Int.le_of_lt W)
          rw [Int.add_mul, Int.one_mul] at h2
          rw [WW, Int.one_mul]
          rw [Int.one_mul] at r1
          omega
        have ks : aw b (g * (1 * 2 ^ (b - d).toNat) + N / 7 * 982451653 % (1 * 2 ^ (b - d).toNat)) d = g := by
          unfold aw
          rw [Int.one_mul] at r0 r1 ⊢
          exact iw W r0 r1
        refine ⟨by decide, Sel.dec (fun _ => ⟨by show (0 : Int) ≤ b - d; omega, Sel.dec (fun hl => ?_) (fun _ => ?_)⟩) (fun _ => Sel.f ?_)⟩
        · exact leaf lo H (.refl H) lo0 (by omega) hl _
        · exact leaf _ H (.refl H) k0 k1 ks _
        · exact leaf _ H (.refl H) k0 k1 ks _
      refine Sel.dec (fun _ => Sel.t body) (fun hy => Sel.dec (fun _ => Sel.t body) (fun hf => ?_))
      have hf : ¬ b - d = 0 := hf
      have fk := fork (by omega) (by omega)
      exact ⟨by decide, Sel.dec (fun _ => Sel.dec (fun _ => body) (fun _ => fk)) (fun _ => Sel.f fk)⟩
    refine Sel.dec (fun hd => ⟨by decide, Sel.dec (fun _ => ⟨by show 1 ≤ sizeLine; decide, fun t hT => ?_⟩) (fun _ => ci)⟩) (fun _ => Sel.f ci)
    exact q (.ref t) .bare _ (ay.upd hT) ⟨.tup am (.cons (.str _) .nil), ⟨hm, hd⟩, d0, d1, g0, g1⟩ (Nat.zero_le _) (fun _ => by show (0 : Int) ≤ _; omega) (by show (0 : Int) ≤ _; omega)
end Rs
namespace Rs
open PySem PySem.Spec PyProof.Rows L2
theorem vT {α : Type} {ks : List α} {a : α} : ∀ (j : Nat), ks[j]? = some a → ∃ j0, j0 ≤ j ∧ ks[j0]? = some a ∧ ∀ j', j' < j0 → ks[j']? ≠ some a := by
  intro j
  induction j using Nat.strongRecOn with
  | ind j ih =>
    intro h
    by_cases e : ∃ j', j' < j ∧ ks[j']? = some a
    · obtain ⟨j', h1, h2⟩ := e
      obtain ⟨j0, h3, h4, h5⟩ := ih j' h1 h2
      exact ⟨j0, by omega, h4, h5⟩
    · exact ⟨j, Nat.le_refl _, h, fun j' h1 h2 => e ⟨j', h1, h2⟩⟩
theorem ik {k : List Key} (h : okT k = true) : k.all um = true := by
 rw [List.all_eq_true]
 intro x hx
 have := yU h hx
 cases x with
 | inl i => rfl
 | inr z => exact tJ (Bool.and_eq_true_iff.mp this).1
theorem DY {H : Hp} {ps : List Addr} {ts : List (List Key)} (h : PK H ps ts) : ∀ {i : Nat} {p : Addr}, ps[i]? = some p → ∃ t, ts[i]? = some t ∧ H p = some (.tup (t.map kV)) ∧ okT t = true := by
  induction h with
  | nil => intro i t e; cases e
  | cons r _ ih =>
    intro i t e
    cases i with
    | zero => cases e; exact ⟨_, rfl, r⟩
    | succ i => exact ih e
variable {K : W.Frag} {mg : Str → Option Value} {A : Adr}
theorem AA (K : W.Frag) (A : Adr) : Ln (kB K A) 2 := by rintro vs H Q E ⟨f, dd, L, ps, ks, g, n, rfl, _⟩; rfl
theorem Ga (T : Txt K mg A) : Rd (kB K A) (Hq K A) ["stamper", "terms", "firsts", "term", "ahead"] := by
  intro vs H Q E h
  obtain ⟨f, dd, L, ps, ks, g, n, rfl, s, hL, pk, hk9, hn, q⟩ := h
  have sdd := s.dict
  have pl := fH pk
  refine .inl fun d hd => ?_
  have S0 := ay.upd (o := .dK []) hd
  refine ⟨L, rfl, .inl ⟨⟨_, SqL.of (S0 _ _ hL)⟩, ?_⟩⟩
  have noc : ∀ (i : Nat) (H' : Hp) (g' : List Key → Option Key) (kvs : List (Key × V)), (∀ j a, j < i → ks[j]? = some a → ∃ v p, eff dd g' a = some v ∧ cg kvs v = some (.ref p) ∧ H' p = some (.tup (a.map kV))) → ∀ (h : List Key → Key), fV (eff dd g') h → ∀ (j k : Nat) a b, j < k → k < i → ks[j]? = some a → ks[k]? = some b → h a = h b → a = b := by
    intro i H' g' kvs I1 h hh j k a b h1 h2 h3 h4 h5
    obtain ⟨v, p, e1, e2, e3⟩ := I1 j a (by omega) h3
    obtain ⟨v', p', e1', e2', e3'⟩ := I1 k b h2 h4
    have : v = v' := by rw [hh _ _ e1, hh _ _ e1'] at h5; exact h5
    subst this
    rw [e2] at e2'; cases e2'
    rw [e3] at e3'
    injection e3' with e; injection e with e
    exact jh e
  refine jy (xs := ps.map V.ref) (fun i σ H' => ∃ x3 x4 g' kvs, σ = [some (.ref f), some (.ref L), some (.ref d), x3, x4] ∧ cE dd.a.b H H' ∧ Stq A H' f dd g' (n + i) ∧ cC g g' ∧ H' d = some (.dK kvs) ∧ kvs.length ≤ i ∧
      (∀ j a, j < i → ks[j]? = some a → ∃ v p, eff dd g' a = some v ∧ cg kvs v = some (.ref p) ∧ H' p = some (.tup (a.map kV))) ∧
      ∀ v x, cg kvs v = some x → ∃ j a p, j < i ∧ ks[j]? = some a ∧ x = .ref p ∧ H' p = some (.tup (a.map kV)) ∧ okT a = true ∧ eff dd g' a = some v)
    ⟨none, none, g, [], rfl, cE.same S0, s.same (Nat.le_refl _) S0, fun _ _ e => e, am, Nat.le_refl _, fun j a hj => by omega, fun v x e => by cases e⟩ ?_ ?_ ?_
  · rintro i σ H' _ ⟨x3, x4, g', kvs, rfl, kp, _⟩; exact SqL.of (kp.obj sdd hL (fun _ z => nomatch z))
  · rintro i x σ H' hx ⟨x3, x4, g', kvs, rfl, kp, s', sub, hd', hl, I1, I2⟩
    obtain ⟨p, hp, rfl⟩ := kE hx
    obtain ⟨k, hk, hpk, ok⟩ := DY pk hp
    have hi : i < ks.length := (List.getElem?_eq_some_iff.mp hk).1
    refine ⟨.inr (.inr (.inl ⟨rfl, .inl ⟨_, hd'⟩⟩)), f, rfl, s'.clo, tc1 rfl (qr s' (by omega) (kp.obj sdd hpk (fun _ z => nomatch z)) ok fun v H3 g3 k3 s3 sub3 gv _ => tc1 rfl ?_)⟩
    have hp3 : H3 p = some (.tup (k.map kV)) := k3.obj s'.dict (kp.obj sdd hpk (fun _ z => nomatch z)) (fun _ z => nomatch z)
    have hd3 := k3.obj s'.dict hd' (fun _ z => nomatch z)
    have J1 : ∀ j a, j < i → ks[j]? = some a → ∃ v p, eff dd g3 a = some v ∧ cg kvs v = some (.ref p) ∧ H3 p = some (.tup (a.map kV)) := fun j a hj e => by
      obtain ⟨v, p, e1, e2, e3⟩ := I1 j a hj e
      exact ⟨v, p, mX sub3 _ _ e1, e2, k3.obj s'.dict e3 (fun _ z => nomatch z)⟩
    have J2 : ∀ v x, cg kvs v = some x → ∃ j a p, j < i ∧ ks[j]? = some a ∧ x = .ref p ∧ H3 p = some (.tup (a.map kV)) ∧ okT a = true ∧ eff dd g3 a = some v := fun v x e => by
      obtain ⟨j, a, p, e1, e2, e3, e4, e5, e6⟩ := I2 v x e
      exact ⟨j, a, p, e1, e2, e3, k3.obj s'.dict e4 (fun _ z => nomatch z), e5, mX sub3 _ _ e6⟩
    have kp3 := kp.trans k3
    have sub' : cC g g3 := fun a b e => sub3 a b (sub a b e)
    have gd := gG.k (k := v) hd3
    cases ev : cg kvs v with
    | some x =>
      rw [ev] at gd
      obtain ⟨j0, a0, p0, hj0, ha0, rfl, hp0, ok0, g0⟩ := J2 v x ev
      refine ⟨d, kV v, .ref p, .ref p0, H3, rfl, rfl, .inl ⟨gd, rfl⟩, ?_⟩
      refine ⟨_, _, gF hp0, gF hp3, cU (ik ok0), cU (ik ok), Ds _, Sel.mk (fun t => ?_) (fun t => ?_)⟩
      · have ne := uH t
        refine ⟨bo (n := 2) (by decide), fun r hr => ?_⟩
        have S := ay.upd (o := .tup [V.ref p0, V.ref p]) hr
        refine q _ _ g3 (some (a0, k)) (kp3.trans (cE.same S)) (s3.same (by omega) S) sub' ⟨r, p0, p, rfl, am, S _ _ hp0, S _ _ hp3, ok0, ok⟩ (fun h hh => ?_)
        obtain ⟨j1, hj1, hb1, hmin⟩ := vT j0 ha0
        refine ⟨j1, i, by omega, hb1, hk, ne, by rw [hh _ _ g0, hh _ _ gv], noc i H3 g3 kvs J1 h hh, fun j' a hj' ha he => ?_⟩
        obtain ⟨v1, p1, e1, e2, e3⟩ := J1 j' a (by omega) ha
        have : v1 = v := by rw [hh _ _ e1, hh _ _ gv] at he; exact he
        subst this
        rw [ev] at e2; cases e2
        rw [hp0] at e3
        injection e3 with e; injection e with e
        have := jh e
        subst this
        exact (hmin j' hj' ha).elim
      · have e := CO t
        subst e
        refine ⟨_, _, g3, kvs, rfl, kp3, s3, sub', hd3, by omega, fun j a hj ha => ?_, fun w x e => ?_⟩
        · by_cases e : j = i
          · subst e; rw [hk] at ha; cases ha
            exact ⟨v, p0, gv, ev, hp0⟩
          · exact J1 j a (by omega) ha
        · obtain ⟨j, a, r, e1, e2⟩ := J2 w x e
          exact ⟨j, a, r, by omega, e2⟩
    | none =>
      rw [ev] at gd
      refine ⟨d, kV v, .ref p, .ref p, upd H3 d (.dK (dH kvs v (.ref p))), rfl, rfl, .inr ⟨gd, sh.k hd3 (Nat.lt_of_le_of_lt hl (bo (n := i + 1) (by omega))), rfl⟩, ?_⟩
      have dn : ∀ b o, H3 b = some o → (∀ kvs, o ≠ .dK kvs) → upd H3 d (.dK (dH kvs v (.ref p))) b = some o := fun b o e nd => by rw [aK (fun z => by subst z; rw [hd3] at e; cases e; exact nd _ rfl)]; exact e
      have hp4 := dn _ _ hp3 (fun _ z => nomatch z)
      refine ⟨_, _, gF hp4, gF hp4, cU (ik ok), cU (ik ok), Ds _, Sel.mk (fun t => (uH t rfl).elim) (fun t => ?_)⟩
      refine ⟨_, _, g3, dH kvs v (.ref p), rfl, ?_, s3.keep (Nat.le_refl _) (fun b o e _ nd _ => dn b o e nd), sub', am, Nat.le_trans (iT _ _ _) (by omega), fun j a hj ha => ?_, fun w x e => ?_⟩
      · intro b o nb e
        rw [aK (bj e hd)]
        exact kp3 _ _ nb e
      · by_cases e : j = i
        · subst e; rw [hk] at ha; cases ha
          exact ⟨v, p, gv, by rw [lG, if_pos rfl], hp4⟩
        · obtain ⟨w, r, e1, e2, e3⟩ := J1 j a (by omega) ha
          exact ⟨w, r, e1, by rw [lG, if_neg (fun z => by subst z; rw [ev] at e2; cases e2)]; exact e2, dn _ _ e3 (fun _ z => nomatch z)⟩
      · rw [lG] at e
        by_cases ew : w = v
        · subst ew
          rw [if_pos rfl] at e; cases e
          exact ⟨i, k, p, by omega, hk, rfl, hp4, ok, gv⟩
        · rw [if_neg ew] at e
          obtain ⟨j, a, r, e1, e2, e3, e4, e5⟩ := J2 w x e
          exact ⟨j, a, r, by omega, e2, e3, dn _ _ e4 (fun _ z => nomatch z), e5⟩
  · rintro σ H' ⟨x3, x4, g', kvs, rfl, kp, s', sub, hd', hl, I1, I2⟩
    have el : (ps.map V.ref).length = ks.length := by rw [List.length_map, pl]
    rw [el] at s' I1
    refine q _ _ g' none kp s' sub rfl fun h hh => ?_
    exact fun j k a b h1 h2 h3 h4 => noc ks.length H' g' kvs I1 h hh j k a b h1 (List.getElem?_eq_some_iff.mp h3).1 h2 h3 h4
end Rs
namespace Rs
open PySem PySem.Spec PyProof.Rows L2
def iu : List Key → List Nat
 | [] => []
 | .inl i :: r => 0 :: (if 0 ≤ i then 0 else 1) :: i.natAbs :: iu r
 | .inr z :: r => 1 :: z.cps.toList.length :: (z.cps.toList ++ iu r)
theorem li : ∀ {k l : List Key}, iu k = iu l → k = l
  | [], [], _ => rfl
  | [], .inl _ :: _, h => by cases h
  | [], .inr _ :: _, h => by cases h
  | .inl _ :: _, [], h => by cases h
  | .inr _ :: _, [], h => by cases h
  | .inl i :: r, .inl j :: s, h => by
    unfold iu at h
    injection h with _ h
    injection h with h1 h
    injection h with h2 h
    have : i = j := by
      by_cases hi : 0 ≤ i <;> by_cases hj : 0 ≤ j
      · omega
      · rw [if_pos hi, if_neg hj] at h1; cases h1
      · rw [if_neg hi, if_pos hj] at h1; cases h1
      · omega
    rw [this, li h]
  | .inl i :: r, .inr z :: s, h => by unfold iu at h; injection h with h _; cases h
  | .inr z :: r, .inl i :: s, h => by unfold iu at h; injection h with h _; cases h
  | .inr z :: r, .inr y :: s, h => by
    unfold iu at h
    injection h with _ h
    injection h with h1 h
    obtain ⟨h2, h3⟩ := List.append_inj h h1
    have : z = y := by cases z; cases y; congr 1; exact Array.toList_inj.mp h2
    rw [this, li h3]
def hsF (kvs : List (List Key × Key)) (k : List Key) : Key := (aX kvs k).getD (.inr ⟨(iu k).toArray⟩)
theorem eC (kvs : List (List Key × Key)) : fV (aX kvs) (hsF kvs) := fun k v e => by unfold hsF; rw [e]; rfl
theorem nz {j : Int} {kvs : List (List Key × Key)} (s : gf j kvs) {k l : List Key} (h : hsF kvs k = hsF kvs l) : k = l := by
  have num : ∀ {k : List Key} {v : Key}, aX kvs k = some v → ∃ i, v = .inl i := fun h => by
    obtain ⟨i, hi⟩ := kU h
    exact ⟨_, s _ _ hi⟩
  unfold hsF at h
  cases e : aX kvs k with
  | some v =>
    obtain ⟨i, rfl⟩ := num e
    cases e2 : aX kvs l with
    | some w =>
      rw [e, e2] at h
      have h : (Sum.inl i : Key) = w := h
      subst h
      exact vF s e e2
    | none =>
      rw [e, e2] at h
      have h : (Sum.inl i : Key) = Sum.inr _ := h
      cases h
  | none =>
    cases e2 : aX kvs l with
    | some w =>
      obtain ⟨i, rfl⟩ := num e2
      rw [e, e2] at h
      have h : (Sum.inr _ : Key) = Sum.inl i := h
      cases h
    | none =>
      rw [e, e2] at h
      have h : (Sum.inr (⟨(iu k).toArray⟩ : Str) : Key) = Sum.inr ⟨(iu l).toArray⟩ := h
      injection h with h
      injection h with h
      exact li (by simpa using h)
def hpF (h : List Key → Key) (k1 k2 : List Key) (k : List Key) : Key := h (if k = k2 then k1 else k)
theorem mW {kvs : List (List Key × Key)} {d : Kd} {k1 k2 : List Key} (ep : d.pl = some (k1, k2)) : fV (eff d (aX kvs)) (hpF (hsF kvs) k1 k2) := fun k v e => by
 unfold eff at e
 rw [ep] at e
 exact eC kvs _ _ e
def lg : List Key → Int
 | [.inr w, .inl d, _, _, _] => if w = "fork" then d else 100
 | _ => 100
theorem rD (d : Int) (x y z : Key) : lg [.inr "fork", .inl d, x, y, z] = d := by
 show (if ("fork" : Str) = "fork" then d else 100) = d
 rw [if_pos rfl]
theorem ES (x : Key) : lg [x] = 100 := by cases x <;> rfl
end Rs
namespace Rs
open PySem PySem.Spec PyProof.Rows L2
theorem qm (x : Key) : cO (bc x) = bN x := by cases x <;> rfl
theorem ju : ∀ e : List Key, toPys (e.map bc) = e.map bN
 | [] => rfl
 | x :: r => by show cO (bc x) :: toPys (r.map bc) = _; rw [qm, ju r]; rfl
theorem ln (x y : List Key) : (PyData.tuple (x.map bN)).eqv (.tuple (y.map bN)) = decide (x = y) := fE x y
theorem iR : ∀ st : List (Int × Key), toPys (st.map stD) = st.map fun s => .tuple (([.inl s.1, s.2] : List Key).map bN)
  | [] => rfl
  | s :: r => by
    show PyData.tuple [.int s.1, cO (bc s.2)] :: toPys (r.map stD) = _
    rw [qm, iR r]; rfl
theorem nZ : ∀ st su : List (Int × Key), PyData.eqvAll (st.map fun s => .tuple (([.inl s.1, s.2] : List Key).map bN)) (su.map fun s => .tuple (([.inl s.1, s.2] : List Key).map bN)) = decide (st = su)
  | [], [] => rfl
  | [], _ :: _ => rfl
  | _ :: _, [] => rfl
  | s :: r, t :: q => by
    show ((PyData.tuple (([.inl s.1, s.2] : List Key).map bN)).eqv (.tuple (([.inl t.1, t.2] : List Key).map bN)) && PyData.eqvAll (r.map _) (q.map _)) = _
    rw [ln, nZ r q]
    by_cases h1 : s = t
    · subst h1
      by_cases h2 : r = q
      · subst h2; simp
      · rw [decide_eq_false h2, Bool.and_false, decide_eq_false fun z => h2 (List.cons.inj z).2]
    · have : ¬ ([.inl s.1, s.2] : List Key) = [.inl t.1, t.2] := fun z => h1 (by
        injection z with z1 z2
        injection z1 with z1
        injection z2 with z2 _
        exact Prod.ext z1 z2)
      rw [decide_eq_false this, Bool.false_and, decide_eq_false fun z => h1 (List.cons.inj z).1]
theorem wI (st su : List (Int × Key)) (e o : List Key) : (cO (.tup [.tup (st.map stD), .tup (e.map bc)])).eqv (cO (.tup [.tup (su.map stD), .tup (o.map bc)])) = decide (st = su ∧ e = o) := by
 show (PyData.eqvAll (toPys (st.map stD)) (toPys (su.map stD)) && (PyData.eqvAll (toPys (e.map bc)) (toPys (o.map bc)) && true)) = _
 rw [iR, iR, nZ, ju, ju, fE, Bool.and_true]
 by_cases h1 : st = su <;> by_cases h2 : e = o <;> simp [h1, h2]
theorem qP (ts : List (List Key)) (z : List Key) : ((ts.map fun t => PyData.tuple (t.map bN)).any fun x => x.eqv (.tuple (z.map bN))) = true ↔ z ∈ ts := by
 rw [List.any_eq_true]
 constructor
 · rintro ⟨x, hx, h⟩
   obtain ⟨t, ht, rfl⟩ := List.mem_map.mp hx
   rw [ln, decide_eq_true_eq] at h
   rw [← h]; exact ht
 · intro h
   exact ⟨_, List.mem_map_of_mem h, by rw [ln]; exact decide_eq_true rfl⟩
theorem qK {K : W.Frag} {H : Hp} {ps : List Addr} {ks : List (List Key)} (h : PK H ps ks) : DatVs K H (ps.map V.ref) (ks.map fun k => .tuple (k.map bN)) := by
 induction h with
 | nil => exact .nil
 | cons r t ih => exact .cons (gF r.1) ih
theorem ql {H : Hp} {ps : List Addr} {ks : List (List Key)} (h : PK H ps ks) : PyData.canLayAll0 (ks.map fun k => .tuple (k.map bN)) = true := by
  induction h with
  | nil => rfl
  | @cons p k ps ks r t ih =>
    show (PyData.canLayAll0 (k.map bN) && PyData.canLayAll0 (ks.map fun k => .tuple (k.map bN))) = true
    rw [cU (ik r.2), ih]; rfl
theorem cv.keepP {P P' : Addr} {l c : Nat} {t : cT} {H H' : Hp} (h : cv P l c t H) (ne : P ≠ P') (hP : ∃ ps, H P' = some (.tbl ps)) (k : cD P' H H') : cv P l c t H' := by
 obtain ⟨ps, h1, h2⟩ := h
 obtain ⟨ps', hP⟩ := hP
 exact ⟨ps, k _ _ h1 ne, h2.imp id fun ⟨a, e, ha⟩ => ⟨a, e, k _ _ ha fun z => by subst z; rw [hP] at ha; cases ha⟩⟩
theorem cv.tbl {P : Addr} {l c : Nat} {t : cT} {H : Hp} (h : cv P l c t H) : ∃ ps, H P = some (.tbl ps) := let ⟨ps, h1, _⟩ := h; ⟨ps, h1⟩
section
variable {b k l : Int} {fi st su : List (Int × Key)} {e o : List Key} {kvs kvs' : List (List Key × Key)} {pre1 pre2 : List (List Key)} {k1 k2 : List Key} {j : Int}
end
end Rs
namespace Rs
open PySem PySem.Spec PyProof.Rows L2
theorem di {b lo hi : Int} : ∀ {p : au} {d g : Int}, aM b lo hi d g p → d ≤ b → (aU p : Int) ≤ b - d := by
  intro p
  induction p with
  | fork e x l r hl hr =>
    intro d g ok hd
    obtain ⟨_, h1, he, _, _, _, okl, okr⟩ := ok
    have := hl okl (by omega)
    have := hr okr (by omega)
    show ((max (aU l) (aU r) + 1 : Nat) : Int) ≤ b - d
    omega
  | _ => intro d g ok hd; show ((0 : Nat) : Int) ≤ b - d; omega
theorem jt {h : List Key → Key} {b lo hi : Int} (b60 : b ≤ 60) : ∀ {p : au} {d g : Int}, aM b lo hi d g p → d ≤ b → ∀ t ∈ aJ h p, d ≤ lg t := by
  intro p
  induction p with
  | fork e x l r hl hr =>
    intro d g ok hd t ht
    obtain ⟨_, h1, he, _, _, _, okl, okr⟩ := ok
    rcases List.mem_append.mp ht with ht | ht
    · rcases List.mem_append.mp ht with ht | ht
      · have := hl okl (by omega) t ht; omega
      · have := hr okr (by omega) t ht; omega
    · rw [List.mem_singleton.mp ht, rD]; exact h1
  | cut m => intro d g ok hd t ht; cases ht
  | bare => intro d g ok hd t ht; rw [List.mem_singleton.mp ht, ES]; omega
  | leaf k z => intro d g ok hd t ht; rw [List.mem_singleton.mp ht]; show d ≤ 100; omega
theorem pZ {h : List Key → Key} {b lo hi : Int} (b60 : b ≤ 60) {p : au} {d g : Int} (ok : aM b lo hi d g p) {t : List Key} (ht : t ∈ aJ h p) : t = aO h p ∨ lg (aO h p) < lg t := by
  cases p with
  | fork e x l r =>
    obtain ⟨_, h1, he, _, _, _, okl, okr⟩ := ok
    have e5 : lg (aO h (.fork e x l r)) = e := rD _ _ _ _
    rcases List.mem_append.mp ht with ht | ht
    · right
      rcases List.mem_append.mp ht with ht | ht
      · have := jt b60 okl (by omega) t ht; omega
      · have := jt b60 okr (by omega) t ht; omega
    · exact .inl (List.mem_singleton.mp ht)
  | cut m => cases ht
  | bare => exact .inl (List.mem_singleton.mp ht)
  | leaf k z => exact .inl (List.mem_singleton.mp ht)
theorem iX (h : List Key → Key) {p : au} (hp : bI p = false) : aO h p ∈ aJ h p := by
 obtain ⟨pre, e⟩ := cb h hp
 rw [e]; exact List.mem_append_right _ List.mem_cons_self
theorem kw {b lo hi d g : Int} {p : au} (ok : aM b lo hi d g p) : bI p = !bf b lo hi d g := by
 cases p with
 | cut m => rw [ok.1]; rfl
 | bare => rw [ok.1]; rfl
 | leaf k z => rw [ok.1]; rfl
 | fork e x l r => rw [ok.1]; rfl
theorem yV {h : List Key → Key} (inj : ∀ x y, h x = h y → x = y) {b lo hi : Int} : ∀ {p q : au} {d g : Int}, aM b lo hi d g p → aM b lo hi d g q → (bI p = false → aO h p = aO h q → p = q) ∧ (aR h p = aR h q → p = q) := by
  intro p
  have mk : ∀ {p q : au} {d g : Int}, aM b lo hi d g p → aM b lo hi d g q → (bI p = false → aO h p = aO h q → p = q) → (aR h p = aR h q → p = q) := fun {p q d g} okp okq own hm => by
    have e : bI p = bI q := by rw [kw okp, kw okq]
    cases hp : bI p with
    | false =>
      rw [dw h hp, dw h (by rw [← e]; exact hp)] at hm
      exact own hp (inj _ _ hm)
    | true =>
      rw [hp] at e
      cases p with
      | cut m =>
        cases q with
        | cut m' => have hm : m = m' := hm; rw [hm]
        | _ => cases e
      | _ => cases hp
  induction p with
  | cut m => intro q d g okp okq; exact ⟨fun z => (by cases z), mk okp okq fun z => (by cases z)⟩
  | bare =>
    intro q d g okp okq
    have own : bI .bare = false → aO h .bare = aO h q → au.bare = q := fun _ e => by
      cases q with
      | bare => rfl
      | cut m => cases e
      | leaf k z => cases e
      | fork d b l r => cases e
    exact ⟨own, mk okp okq own⟩
  | leaf k z =>
    intro q d g okp okq
    have own : bI (.leaf k z) = false → aO h (.leaf k z) = aO h q → au.leaf k z = q := fun _ e => by
      cases q with
      | leaf k' z' => injection e with _ e; injection e with e1 e; injection e1 with e1; injection e with e2 _; injection e2 with e2; rw [e1, e2]
      | bare => cases e
      | cut m => cases e
      | fork d b l r => cases e
    exact ⟨own, mk okp okq own⟩
  | fork e x l r hl hr =>
    intro q d g okp okq
    have own : bI (.fork e x l r) = false → aO h (.fork e x l r) = aO h q → au.fork e x l r = q := fun _ eo => by
      cases q with
      | fork e' x' l' r' =>
        injection eo with _ eo
        injection eo with e1 eo
        injection e1 with e1
        injection eo with e2 eo
        injection e2 with e2
        injection eo with e3 eo
        injection eo with e4 _
        subst e1 e2
        obtain ⟨_, _, _, _, _, _, okl, okr⟩ := okp
        obtain ⟨_, _, _, _, _, _, okl', okr'⟩ := okq
        rw [(hl okl okl').2 e3, (hr okr okr').2 e4]
      | bare => cases eo
      | cut m => cases eo
      | leaf k z => cases eo
    exact ⟨own, mk okp okq own⟩
theorem jq {h h' : List Key → Key} : ∀ {p : au}, (∀ t ∈ aJ h p, h' t = h t) → aJ h' p = aJ h p ∧ aO h' p = aO h p ∧ aR h' p = aR h p := by
  intro p
  induction p with
  | cut m => intro _; exact ⟨rfl, rfl, rfl⟩
  | bare => intro k; exact ⟨rfl, rfl, k _ List.mem_cons_self⟩
  | leaf j z => intro k; exact ⟨rfl, rfl, k _ List.mem_cons_self⟩
  | fork e x l r hl hr =>
    intro k
    obtain ⟨l1, _, l2⟩ := hl fun t ht => k t (List.mem_append_left _ (List.mem_append_left _ ht))
    obtain ⟨r1, _, r2⟩ := hr fun t ht => k t (List.mem_append_left _ (List.mem_append_right _ ht))
    have o : aO h' (.fork e x l r) = aO h (.fork e x l r) := by show ([_, _, _, aR h' l, aR h' r] : List Key) = _; rw [l2, r2]; rfl
    refine ⟨?_, o, ?_⟩
    · show aJ h' l ++ aJ h' r ++ [aO h' (.fork e x l r)] = _
      rw [l1, r1, o]; rfl
    · show h' (aO h' (.fork e x l r)) = h (aO h (.fork e x l r))
      rw [o]; exact k _ (iX h (p := .fork e x l r) rfl)
theorem rC {h h' : List Key → Key} {p : au} (hp : bI p = false) (k : ∀ t ∈ aJ h p, t ≠ aO h p → h' t = h t) (hn : ∀ e x l r, p = .fork e x l r → aO h p ∉ aJ h l ∧ aO h p ∉ aJ h r) : aJ h' p = aJ h p ∧ aO h' p = aO h p := by
  cases p with
  | cut m => cases hp
  | bare => exact ⟨rfl, rfl⟩
  | leaf j z => exact ⟨rfl, rfl⟩
  | fork e x l r =>
    obtain ⟨n1, n2⟩ := hn e x l r rfl
    obtain ⟨l1, _, l2⟩ := jq (h := h) (h' := h') (p := l) fun t ht => k t (List.mem_append_left _ (List.mem_append_left _ ht)) fun z => n1 (z ▸ ht)
    obtain ⟨r1, _, r2⟩ := jq (h := h) (h' := h') (p := r) fun t ht => k t (List.mem_append_left _ (List.mem_append_right _ ht)) fun z => n2 (z ▸ ht)
    have o : aO h' (.fork e x l r) = aO h (.fork e x l r) := by show ([_, _, _, aR h' l, aR h' r] : List Key) = _; rw [l2, r2]; rfl
    refine ⟨?_, o⟩
    show aJ h' l ++ aJ h' r ++ [aO h' (.fork e x l r)] = _
    rw [l1, r1, o]; rfl
def InS (b d g : Int) (t : List Key) : Prop := (∃ (k : Int) (z : Str), t = [.inr "leaf", .inl k, .inr z] ∧ aw b k d = g) ∨ (∃ (e x : Int) (m n : Key), t = [.inr "fork", .inl e, .inl x, m, n] ∧ d ≤ e ∧ x / 2 ^ (e - d).toNat = g) ∨ (t = [.inr "bare"] ∧ d = 0)
theorem InS.lift {b d D G : Int} {t : List Key} (h : InS b D G t) (d0 : 0 ≤ d) (hd : d ≤ D) (hb : D ≤ b) : InS b d (G / 2 ^ (D - d).toNat) t := by
 rcases h with ⟨k, z, rfl, e⟩ | ⟨e, x, m, n, rfl, h1, h2⟩ | ⟨rfl, h1⟩
 · exact .inl ⟨k, z, rfl, by rw [← e, gt hd hb]⟩
 · refine .inr (.inl ⟨e, x, m, n, rfl, by omega, ?_⟩)
   rw [← h2, ie (ck _), ← Int.pow_add]
   congr 2
   omega
 · exact .inr (.inr ⟨rfl, by omega⟩)
theorem InS.one {b d g g' : Int} {t : List Key} (d1 : 1 ≤ d) (h : InS b d g t) (h' : InS b d g' t) : g = g' := by
 rcases h with ⟨k, z, rfl, e⟩ | ⟨e, x, m, n, rfl, h1, h2⟩ | ⟨rfl, h1⟩
 · rcases h' with ⟨k', z', e1, e'⟩ | ⟨e', x', m', n', e1, _⟩ | ⟨e1, _⟩
   · injection e1 with _ e1; injection e1 with e1 _; injection e1 with e1; rw [← e, ← e', e1]
   · cases e1
   · cases e1
 · rcases h' with ⟨k', z', e1, e'⟩ | ⟨e', x', m', n', e1, _, h3⟩ | ⟨e1, _⟩
   · cases e1
   · injection e1 with _ e1; injection e1 with e2 e1; injection e2 with e2; injection e1 with e3 _; injection e3 with e3
     rw [← h2, ← h3, e2, e3]
   · cases e1
 · omega
theorem nr {h : List Key → Key} {b lo hi : Int} : ∀ {p : au} {d g : Int}, aM b lo hi d g p → 0 ≤ d → d ≤ b → ∀ t ∈ aJ h p, InS b d g t := by
  intro p
  induction p with
  | cut m => intro d g ok _ _ t ht; cases ht
  | bare => intro d g ok _ _ t ht; rw [List.mem_singleton.mp ht]; exact .inr (.inr ⟨rfl, ok.2⟩)
  | leaf k z => intro d g ok _ _ t ht; rw [List.mem_singleton.mp ht]; exact .inl ⟨k, z, rfl, ok.2.2.2.2.2⟩
  | fork e x l r hl hr =>
    intro d g ok d0 db t ht
    obtain ⟨_, h1, he, _, _, hg, okl, okr⟩ := ok
    have up : ∀ c : Int, (c = 0 ∨ c = 1) → InS b (e + 1) (2 * x + c) t → InS b d g t := fun c hc hi => by
      have := hi.lift d0 (by omega) (by omega)
      have e1 : (2 * x + c) / 2 ^ (e + 1 - d).toNat = g := by
        have : (e + 1 - d).toNat = 1 + (e - d).toNat := by omega
        rw [this, Int.pow_add, ← ie (by decide), ← hg]
        congr 1
        omega
      rw [e1] at this; exact this
    rcases List.mem_append.mp ht with ht | ht
    · rcases List.mem_append.mp ht with ht | ht
      · exact up 0 (.inl rfl) (by rw [Int.add_zero]; exact hl okl (by omega) (by omega) t ht)
      · exact up 1 (.inr rfl) (hr okr (by omega) (by omega) t ht)
    · rw [List.mem_singleton.mp ht]
      exact .inr (.inl ⟨e, x, _, _, rfl, h1, hg⟩)
end Rs
namespace Rs
open PySem PySem.Spec PyProof.Rows L2
structure mI (b lo hi D G d g : Int) (q : au) : Prop where
 ok : aM b lo hi d g q
 le : D ≤ d
 db : d ≤ b
 g0 : 0 ≤ g
 g1 : g < 2 ^ d.toNat
 up : g / 2 ^ (d - D).toNat = G
theorem Way.ok {b lo hi D G d g : Int} {p q : au} {w : List Int} (h : Way p D G w q d g) (o : aM b lo hi D G p) (D0 : 0 ≤ D) (Db : D ≤ b) (G0 : 0 ≤ G) (G1 : G < 2 ^ D.toNat) : mI b lo hi D G d g q := by
  have step : ∀ {e x D G d g c : Int} {q : au}, (c = 0 ∨ c = 1) → D ≤ e → 0 ≤ D → x / 2 ^ (e - D).toNat = G → mI b lo hi (e + 1) (2 * x + c) d g q → mI b lo hi D G d g q := fun {e x D G d g c q} hc hD D0 hG k => by
    refine ⟨k.ok, by have := k.le; omega, k.db, k.g0, k.g1, ?_⟩
    have hle := k.le
    have e1 : (d - D).toNat = (d - (e + 1)).toNat + (1 + (e - D).toNat) := by omega
    rw [e1, Int.pow_add, ← ie (ck _), k.up, Int.pow_add, ← ie (by decide), ← hG]
    congr 1
    omega
  induction h with
  | nil p d g => exact ⟨o, by omega, Db, G0, G1, by rw [Int.sub_self]; show g / 2 ^ 0 = g; simp⟩
  | @left e x D G d g l r q w h ih =>
    obtain ⟨_, h1, he, x0, x1, hG, okl, okr⟩ := o
    obtain ⟨f1, f2, f3⟩ := cJ (e := e) (by omega) x0 x1
    exact step (c := 0) (.inl rfl) h1 D0 hG (by rw [Int.add_zero]; exact ih okl (by omega) (by omega) f1 f2)
  | @right e x D G d g l r q w h ih =>
    obtain ⟨_, h1, he, x0, x1, hG, okl, okr⟩ := o
    obtain ⟨f1, f2, f3⟩ := cJ (e := e) (by omega) x0 x1
    exact step (c := 1) (.inr rfl) h1 D0 hG (ih okr (by omega) (by omega) (by omega) f3)
theorem gn (p q : au) : bn p [] q = q := by cases p <;> rfl
theorem gh (e x : Int) (l r q : au) (w : List Int) : bn (.fork e x l r) (3 :: w) q = .fork e x (bn l w q) r := by
 show (if (3 : Int) = 3 then _ else _) = _
 rw [if_pos rfl]
theorem gk (e x : Int) (l r q : au) (w : List Int) : bn (.fork e x l r) (4 :: w) q = .fork e x l (bn r w q) := by
 show (if (4 : Int) = 3 then _ else _) = _
 rw [if_neg (by decide)]
theorem Way.part {b lo hi D G d g : Int} {p q q' : au} {w : List Int} (h : Way p D G w q d g) (o : aM b lo hi D G p) (o' : aM b lo hi d g q') : aM b lo hi D G (bn p w q') := by
  induction h with
  | nil p d g => rw [gn]; exact o'
  | left h ih =>
    obtain ⟨h0, h1, he, x0, x1, hG, okl, okr⟩ := o
    rw [gh]
    exact ⟨h0, h1, he, x0, x1, hG, ih okl o', okr⟩
  | right h ih =>
    obtain ⟨h0, h1, he, x0, x1, hG, okl, okr⟩ := o
    rw [gk]
    exact ⟨h0, h1, he, x0, x1, hG, okl, ih okr o'⟩
theorem Way.forks {D G d g : Int} {p q q' : au} {w : List Int} (h : Way p D G w q d g) : forks (bn p w q') ≤ forks p + forks q' := by
 induction h with
 | nil p d g => rw [gn]; omega
 | @left e x D G d g l r q w h ih => rw [gh]; show Rs.forks (bn l w q') + Rs.forks r + 1 ≤ Rs.forks l + Rs.forks r + 1 + _; omega
 | @right e x D G d g l r q w h ih => rw [gk]; show Rs.forks l + Rs.forks (bn r w q') + 1 ≤ Rs.forks l + Rs.forks r + 1 + _; omega
theorem Way.len {D G d g : Int} {p q : au} {w : List Int} (h : Way p D G w q d g) : w.length ≤ aU p := by
 induction h with
 | nil p d g => exact Nat.zero_le _
 | @left e x D G d g l r q w h ih => show w.length + 1 ≤ max (aU l) (aU r) + 1; omega
 | @right e x D G d g l r q w h ih => show w.length + 1 ≤ max (aU l) (aU r) + 1; omega
theorem Way.mark {h : List Key → Key} {D G d g : Int} {p q q1 q2 : au} {w : List Int} (k : Way p D G w q d g) (e : aR h q1 = aR h q2) : aR h (bn p w q1) = aR h (bn p w q2) := by
 induction k with
 | nil p d g => rw [gn, gn]; exact e
 | left k ih => rw [gh, gh]; show h [_, _, _, _, _] = h [_, _, _, _, _]; rw [ih]
 | right k ih => rw [gk, gk]; show h [_, _, _, _, _] = h [_, _, _, _, _]; rw [ih]
theorem Way.notin {h : List Key → Key} {b lo hi D G d g : Int} {p q q' : au} {w : List Int} {t : List Key} (k : Way p D G w q d g) (o : aM b lo hi D G p) (D0 : 0 ≤ D) (Db : D ≤ b) (G0 : 0 ≤ G) (G1 : G < 2 ^ D.toNat) (ht : InS b d g t) (n : t ∉ aJ h q') : t ∉ aJ h (bn p w q') := by
  have far : ∀ {e x d g c : Int} {q : au}, 0 ≤ e → mI b lo hi (e + 1) (2 * x + c) d g q → InS b d g t → InS b (e + 1) (2 * x + c) t ∧ ∀ m n, t ≠ [.inr "fork", .inl e, .inl x, m, n] := fun {e x d g c q} e0 k hi => by
    have := hi.lift (d := e + 1) (by omega) k.le k.db
    rw [k.up] at this
    refine ⟨this, fun m n z => ?_⟩
    rcases this with ⟨_, _, e1, _⟩ | ⟨e', x', m', n', e1, h1, _⟩ | ⟨e1, _⟩
    · rw [z] at e1; cases e1
    · rw [z] at e1
      injection e1 with _ e1; injection e1 with e1 _; injection e1 with e1
      omega
    · rw [z] at e1; cases e1
  induction k with
  | nil p d g => rw [gn]; exact n
  | @left e x D G d g l r q w k ih =>
    obtain ⟨_, h1, he, x0, x1, hG, okl, okr⟩ := o
    obtain ⟨f1, f2, f3⟩ := cJ (e := e) (by omega) x0 x1
    have wk := k.ok okl (by omega) (by omega) f1 f2
    obtain ⟨s, nf⟩ := far (c := 0) (x := x) (e := e) (by omega) (by rw [Int.add_zero]; exact wk) ht
    rw [gh]
    intro hm
    rcases List.mem_append.mp hm with hm | hm
    · rcases List.mem_append.mp hm with hm | hm
      · exact ih okl (by omega) (by omega) f1 f2 ht hm
      · have := s.one (by omega) (nr okr (by omega) (by omega) t hm); omega
    · exact nf _ _ (List.mem_singleton.mp hm)
  | @right e x D G d g l r q w k ih =>
    obtain ⟨_, h1, he, x0, x1, hG, okl, okr⟩ := o
    obtain ⟨f1, f2, f3⟩ := cJ (e := e) (by omega) x0 x1
    have wk := k.ok okr (by omega) (by omega) (by omega) f3
    obtain ⟨s, nf⟩ := far (c := 1) (x := x) (e := e) (by omega) wk ht
    rw [gk]
    intro hm
    rcases List.mem_append.mp hm with hm | hm
    · rcases List.mem_append.mp hm with hm | hm
      · have := s.one (by omega) (nr okl (by omega) (by omega) t hm); omega
      · exact ih okr (by omega) (by omega) (by omega) f3 ht hm
    · exact nf _ _ (List.mem_singleton.mp hm)
theorem sK {hs : List Key → Key} {k1 k2 : List Key} : hpF hs k1 k2 k2 = hs k1 := by unfold hpF; rw [if_pos rfl]
theorem kM {hs : List Key → Key} {k1 k2 t : List Key} (h : t ≠ k2) : hpF hs k1 k2 t = hs t := by unfold hpF; rw [if_neg h]
structure lM (b lo hi d g : Int) (p q r : au) (w : List Int) (hs : List Key → Key) : Prop where
 b60 : b ≤ 60
 b1 : 1 ≤ b
 way : ∃ q0, Way p 0 0 w q0 d g
 okp : aM b lo hi 0 0 p
 okq : aM b lo hi d g q
 okr : aM b lo hi d g r
 cq : bI q = false
 cr : bI r = false
 inj : ∀ x y, hs x = hs y → x = y
 nin : q = r ∨ aO hs r ∉ aJ hs q
section
variable {b lo hi d g : Int} {p q r : au} {w : List Int} {hs : List Key → Key}
theorem lM.same (k : lM b lo hi d g p q r w hs) (e : q = r) (t : List Key) : hpF hs (aO hs q) (aO hs r) t = hs t := by
 subst e
 unfold hpF
 split
 · rename_i z; rw [z]
 · rfl
theorem lM.terms (k : lM b lo hi d g p q r w hs) : (aJ (hpF hs (aO hs q) (aO hs r)) q = aJ hs q ∧ aO (hpF hs (aO hs q) (aO hs r)) q = aO hs q ∧ aR (hpF hs (aO hs q) (aO hs r)) q = hs (aO hs q)) ∧ aJ (hpF hs (aO hs q) (aO hs r)) r = aJ hs r ∧ aO (hpF hs (aO hs q) (aO hs r)) r = aO hs r ∧ aR (hpF hs (aO hs q) (aO hs r)) r = hs (aO hs q) := by
 have kq : ∀ t ∈ aJ hs q, hpF hs (aO hs q) (aO hs r) t = hs t := fun t ht => by
  rcases k.nin with e | n
  · exact k.same e t
  · exact kM fun z => n (z ▸ ht)
 obtain ⟨a1, a2, a3⟩ := jq kq
 have no : ∀ e x l r', r = .fork e x l r' → aO hs r ∉ aJ hs l ∧ aO hs r ∉ aJ hs r' := fun e x l r' er => by
  have ok := k.okr
  subst er
  obtain ⟨_, h1, he, _, _, _, okl, okr⟩ := ok
  have e5 : lg (aO hs (.fork e x l r')) = e := rD _ _ _ _
  refine ⟨fun z => ?_, fun z => ?_⟩
  · have := jt k.b60 okl (by omega) _ z; omega
  · have := jt k.b60 okr (by omega) _ z; omega
 obtain ⟨c1, c2⟩ := rC (h' := hpF hs (aO hs q) (aO hs r)) k.cr (fun t ht n => kM n) no
 refine ⟨⟨a1, a2, by rw [a3, dw hs k.cq]⟩, c1, c2, ?_⟩
 rw [dw _ k.cr, c2, sK]
theorem lM.marks (k : lM b lo hi d g p q r w hs) : aR (hpF hs (aO hs q) (aO hs r)) (bn p w q) = aR (hpF hs (aO hs q) (aO hs r)) (bn p w r) := by
 obtain ⟨q0, wy⟩ := k.way
 exact wy.mark (by rw [k.terms.1.2.2, k.terms.2.2.2])
end
end Rs
namespace Rs
open PySem PySem.Spec PyProof.Rows L2
variable {K : W.Frag} {mg : Str → Option Value} {A : Adr}
theorem dM.keep {H H' : Hp} {p : au} {d g : Int} {w : List Int} {r : Addr} (h : dM H p d g w r) (S : ∀ b xs, H b = some (.tup xs) → H' b = some (.tup xs)) : dM H' p d g w r := by
 obtain ⟨d', g', u, q, P, h1, h2, h3⟩ := h
 exact ⟨d', g', u, q, P, S _ _ h1, S _ _ h2, h3⟩
theorem dM.left {H : Hp} {e x d g : Int} {l r : au} {w : List Int} {a : Addr} (h : dM H l (e + 1) (2 * x) (w ++ [3]) a) : dM H (.fork e x l r) d g w a := by
 obtain ⟨d', g', u, q, P, h1, h2, h3⟩ := h
 refine ⟨d', g', 3 :: u, q, P, h1, ?_, .left h3⟩
 rw [h2, List.append_assoc]; rfl
theorem dM.right {H : Hp} {e x d g : Int} {l r : au} {w : List Int} {a : Addr} (h : dM H r (e + 1) (2 * x + 1) (w ++ [4]) a) : dM H (.fork e x l r) d g w a := by
 obtain ⟨d', g', u, q, P, h1, h2, h3⟩ := h
 refine ⟨d', g', 4 :: u, q, P, h1, ?_, .right h3⟩
 rw [h2, List.append_assoc]; rfl
theorem Bs (K : W.Frag) (A : Adr) (n : Nat) : Ln (iP K A n) 4 := by rintro vs H Q E ⟨_, _, _, _, _, _, rfl, _⟩; rfl
theorem yq (K : W.Frag) (A : Adr) : ∀ vs H Q E, iP K A 0 vs H Q E → False := by rintro vs H Q E ⟨_, _, _, _, _, _, _, _, h, _⟩; omega
theorem FL (T : Txt K mg A) (n : Nat) : Rd (iP K A (n + 1)) (Hs K A n) ["_law_part_here", "_law_depth", "_law_begin_here", "_law_path", "_law_found"] := by
  intro vs H Q E h
  obtain ⟨v, p, d, g, P, w, rfl, wd, htl, hP, hw, hf, q⟩ := h
  refine ⟨by show 3 ≤ sizeLine; decide, fun r hr => ⟨by show 1 ≤ sizeLine; decide, fun M hM => ?_⟩⟩
  have S1 := ay.upd (o := .tup [V.int d, V.int g, V.ref P]) hr
  have S2 := S1.trans (ay.upd (o := .lst [V.ref r]) hM)
  have hMn := dR S1 hM
  have hr2 : upd (upd H r (.tup [V.int d, V.int g, V.ref P])) M (.lst [V.ref r]) r = some (.tup [V.int d, V.int g, V.ref P]) := ay.upd (o := .lst [V.ref r]) hM _ _ am
  have hM2 : upd (upd H r (.tup [V.int d, V.int g, V.ref P])) M (.lst [V.ref r]) M = some (.lst [V.ref r]) := am
  generalize upd (upd H r (.tup [V.int d, V.int g, V.ref P])) M (.lst [V.ref r]) = H2 at S2 hr2 hM2 ⊢
  have wd2 := wd.mono S2
  have hP2 := S2 _ _ hP
  have self : dM H2 p d g w r := ⟨d, g, [], p, P, hr2, by rw [List.append_nil]; exact hP2, .nil _ _ _⟩
  have one : kQ p = false → Q (.ref M) H2 := fun hk => q M r [] H2 S2 hMn hM2 (by cases p <;> first | rfl | cases hk) hr2 fun r' hr' => by rw [List.mem_singleton.mp hr']; exact self
  obtain ⟨_, ⟨f1, f2, f3, f4⟩, _⟩ := fJ
  cases p with
  | cut m =>
    obtain ⟨a, rfl, ha⟩ := fF wd2
    exact ixT (j := 0) ha rfl rfl (Sel.no f1 (one rfl))
  | bare =>
    obtain ⟨a, rfl, ha⟩ := fu wd2
    exact ixT (j := 0) ha rfl rfl (Sel.no f2 (one rfl))
  | leaf k z =>
    obtain ⟨a, rfl, ha⟩ := eZ wd2
    exact ixT (j := 0) ha rfl rfl (Sel.no f3 (one rfl))
  | fork e x pl pr =>
    obtain ⟨a, vl, vr, rfl, ha, wl, wr⟩ := cY wd2
    have htl' : max (aU pl) (aU pr) + 1 < n + 1 := htl
    have hw' : w.length + (max (aU pl) (aU pr) + 1) ≤ 100 := hw
    have hf' : forks pl + forks pr + 1 ≤ 70 := hf
    refine ixT (j := 0) ha rfl rfl (Sel.yes f4 ?_)
    refine ixT (j := 3) ha rfl rfl (ixT (j := 1) ha rfl rfl (ixT (j := 2) ha rfl rfl ⟨IntMulOk.of_left (by decide), ?_⟩))
    refine ⟨by show 1 ≤ sizeLine; decide, fun t3 h3 => .inr ⟨P, t3, _, _, rfl, rfl, ay.upd h3 _ _ hP2, am, bo (by rw [List.length_map]; show w.length + 1 ≤ _; omega), fun P3 H3 S3 hP3 => ?_⟩⟩
    have S3 := (ay.upd (o := .tup [V.int 3]) h3).trans S3
    have hP3 : H3 P3 = some (.tup ((w ++ [3]).map V.int)) := by rw [hP3, List.map_append]; rfl
    refine ⟨vl, pl, e + 1, 2 * x, P3, w ++ [3], rfl, wl.mono S3, by omega, hP3, by rw [List.length_append]; show w.length + 1 + _ ≤ 100; omega, by omega, fun M1 r1 rs1 H4 S4 hM1n hM1 len1 hr1 all1 => ?_⟩
    have S24 := S3.trans S4
    refine .inl ⟨M, M1, _, _, rfl, rfl, S24 _ _ hM2, hM1, bo (by simp only [List.length_map, List.length_cons, List.length_nil]; omega), fun M5 h5 => ?_⟩
    have S5 := ay.upd (o := .lst ([V.ref r] ++ (r1 :: rs1).map V.ref)) h5
    have S25 := S24.trans S5
    have hM5 : upd H4 M5 (.lst ([V.ref r] ++ (r1 :: rs1).map V.ref)) M5 = some (.lst ((r :: r1 :: rs1).map V.ref)) := am
    have all1' : ∀ r' ∈ r1 :: rs1, dM (upd H4 M5 (.lst ([V.ref r] ++ (r1 :: rs1).map V.ref))) pl (e + 1) (2 * x) (w ++ [3]) r' := fun r' h' => (all1 r' h').keep fun _ _ z => S5 _ _ z
    generalize upd H4 M5 (.lst ([V.ref r] ++ (r1 :: rs1).map V.ref)) = H5 at S5 S25 hM5 all1' ⊢
    have ha5 := S25 _ _ ha
    refine ixT (j := 4) ha5 rfl rfl (ixT (j := 1) ha5 rfl rfl (ixT (j := 2) ha5 rfl rfl ⟨IntMulOk.of_left (by decide), ?_⟩))
    refine ⟨by show 1 ≤ sizeLine; decide, fun t6 h6 => .inr ⟨P, t6, _, _, rfl, rfl, ay.upd h6 _ _ (S25 _ _ hP2), am, bo (by rw [List.length_map]; show w.length + 1 ≤ _; omega), fun P6 H6 S6 hP6 => ?_⟩⟩
    have S6 := (ay.upd (o := .tup [V.int 4]) h6).trans S6
    have hP6 : H6 P6 = some (.tup ((w ++ [4]).map V.int)) := by rw [hP6, List.map_append]; rfl
    refine ⟨vr, pr, e + 1, 2 * x + 1, P6, w ++ [4], rfl, wr.mono (S25.trans S6), by omega, hP6, by rw [List.length_append]; show w.length + 1 + _ ≤ 100; omega, by omega, fun M7 r7 rs7 H7 S7 hM7n hM7 len7 hr7 all7 => ?_⟩
    have S57 := S6.trans S7
    refine .inl ⟨M5, M7, _, _, rfl, rfl, S57 _ _ hM5, hM7, bo (by simp only [List.length_map, List.length_cons, List.length_nil]; omega), fun M8 h8 => ?_⟩
    have S8 := ay.upd (o := .lst ((r :: r1 :: rs1).map V.ref ++ (r7 :: rs7).map V.ref)) h8
    have S28 := S25.trans (S57.trans S8)
    refine q M8 r (r1 :: rs1 ++ r7 :: rs7) _ (S2.trans S28) (dR (S2.trans (S25.trans S57)) h8) ?_ ?_ (S28 _ _ hr2) fun r' h' => ?_
    · rw [am, ← List.map_append]; rfl
    · show _ = 2 * (forks pl + forks pr + 1)
      simp only [List.length_append, List.length_cons]
      omega
    · rcases List.mem_cons.mp h' with z | z
      · rw [z]; exact self.keep fun _ _ y => S28 _ _ y
      · rcases List.mem_append.mp z with z | z
        · exact ((all1' r' z).keep fun _ _ y => (S57.trans S8) _ _ y).left
        · exact ((all7 r' z).keep fun _ _ y => S8 _ _ y).right
end Rs
namespace Rs
open PySem PySem.Spec PyProof.Rows L2
variable {K : W.Frag} {mg : Str → Option Value} {A : Adr}
theorem Df (K : W.Frag) (A : Adr) : Ln (lN K A) 2 := by rintro vs H Q E ⟨_, _, _, _, _, _, _, _, _, rfl, _⟩; rfl
theorem Go (T : Txt K mg A) : Rd (lN K A) (GR K A) ["_law_part_here", "_law_path", "_law_at_here"] := by
  intro vs H Q E h
  obtain ⟨v, p, q, D, G, d, g, P, w, rfl, wd, hP, wy, hq⟩ := h
  refine ⟨P, rfl, .inr ⟨⟨_, SqT.of hP⟩, ?_⟩⟩
  refine vg (fv.tuple (xs := w.map V.int) .non) (fun i σ H' => H' = H ∧ ∃ u pi D' G' x2, σ = [some u, some (.ref P), x2] ∧ aP H u (aV pi) ∧ Way pi D' G' (w.drop i) q d g) ⟨rfl, v, p, D, G, none, rfl, wd, wy⟩ ?_ ?_ ?_
  · rintro i σ _ _ ⟨rfl, _⟩; exact SqT.of hP
  · rintro i σ _ hi ⟨rfl, u, pi, D', G', x2, rfl, wu, wyi⟩
    have hi : i < w.length := by simpa using hi
    have hd : w.drop i = w[i] :: w.drop (i + 1) := List.drop_eq_getElem_cons hi
    have gi : (w.map V.int).getD i .non = .int w[i] := by rw [List.getD_eq_getElem?_getD, List.getElem?_map, List.getElem?_eq_getElem hi]; rfl
    rw [gi]
    rw [hd] at wyi
    generalize w[i] = c at wyi ⊢
    cases wyi with
    | left k =>
      obtain ⟨a, vl, vr, rfl, ha, wl, wr⟩ := cY wu
      exact ixT (j := 3) ha rfl rfl ⟨rfl, vl, _, _, _, _, rfl, wl, k⟩
    | right k =>
      obtain ⟨a, vl, vr, rfl, ha, wl, wr⟩ := cY wu
      exact ixT (j := 4) ha rfl rfl ⟨rfl, vr, _, _, _, _, rfl, wr, k⟩
  · rintro σ _ ⟨rfl, u, pi, D', G', x2, rfl, wu, wyi⟩
    rw [List.length_map, List.drop_length] at wyi
    cases wyi
    exact hq u wu
theorem Ap (K : W.Frag) (A : Adr) (n : Nat) : Ln (gY K A n) 3 := by rintro vs H Q E ⟨_, _, _, _, _, _, _, _, _, _, _, rfl, _⟩; rfl
theorem yO (K : W.Frag) (A : Adr) : ∀ vs H Q E, gY K A 0 vs H Q E → False := by rintro vs H Q E ⟨_, _, _, _, _, _, _, _, _, _, _, _, _, _, _, _, h, _⟩; omega
theorem re (w : List Int) : w.map V.int = (w.map Sum.inl : List Key).map kV := by rw [List.map_map]; rfl
theorem nK (xs : List V) (j : Nat) (hj : j ≤ xs.length) : fA xs none (some (j : Int)) = xs.take j := by
 unfold fA
 rw [HT.mT, HT.pV, List.drop_zero, Nat.sub_zero, Nat.min_eq_left hj]
theorem jr (xs : List V) (j : Nat) (hj : j ≤ xs.length) : fA xs (some (j : Int)) none = xs.drop j := by
 unfold fA
 rw [HT.mT, HT.pV, Nat.min_eq_left hj, List.take_of_length_le (by rw [List.length_drop]; omega)]
theorem Eo (T : Txt K mg A) (n : Nat) : Rd (gY K A (n + 1)) (Hh K A n) ["_law_part_here", "_law_path", "_law_new", "_law_at_here"] := by
  intro vs H Q E h
  obtain ⟨v, u, p, q, q', D, G, d, g, P, w, rfl, wd, hP, wy, wu, hn, hl, hq⟩ := h
  refine ⟨by show 0 ≤ sizeLine; decide, fun t0 h0 => ?_⟩
  have S0 := ay.upd (o := .tup []) h0
  have hP0 := S0 _ _ hP
  rw [re] at hP0
  refine oa (l := []) hP0 am ?_
  have ht0 : upd H t0 (.tup []) t0 = some (.tup ([] : List V)) := am
  generalize upd H t0 (.tup []) = H0 at S0 hP0 ht0 ⊢
  rw [← re] at hP0
  have wd0 := wd.mono S0
  have wu0 := wu.mono S0
  cases wy with
  | nil =>
    exact Sel.yes rfl (hq u H0 S0 (by rw [gn]; exact wu0))
  | @left e x _ _ _ _ l r _ w k =>
    refine Sel.no rfl (ixT (j := 0) hP0 rfl rfl ?_)
    obtain ⟨a, vl, vr, rfl, ha, wl, wr⟩ := cY wd0
    have hn' : w.length + 1 < n + 1 := hn
    have hl' : w.length + 1 ≤ 100 := hl
    refine ⟨3, rfl, .inl (.inr ⟨a, _, rfl, ha, fun p1 H1 S1 hp1 => ?_⟩)⟩
    refine ixT (j := 3) (S1 _ _ ha) rfl rfl ⟨1, rfl, .inl (.inr ⟨P, _, rfl, S1 _ _ hP0, fun p2 H2 S2 hp2 => ?_⟩)⟩
    have hp2 : H2 p2 = some (.tup (w.map V.int)) := by rw [hp2]; exact congrArg (fun z => some (HO.tup z)) (jr _ 1 (by simp))
    have S12 := S1.trans S2
    refine ⟨vl, u, l, q, q', _, _, d, g, p2, w, rfl, wl.mono S12, hp2, k, wu0.mono S12, by omega, by omega, fun y H3 S3 wy3 => ?_⟩
    have S13 := S12.trans S3
    refine ⟨by show 1 ≤ sizeLine; decide, fun t4 h4 => ?_⟩
    have S4 := ay.upd (o := .tup [y]) h4
    have hp14 : upd H3 t4 (.tup [y]) p1 = some (.tup [.str "fork", .int e, .int x]) := (S4 _ _ (S3 _ _ (S2 _ _ hp1))).trans (congrArg (fun z => some (HO.tup z)) (nK _ 3 (by simp)))
    refine .inr ⟨p1, t4, _, _, rfl, rfl, hp14, am, bo (n := 4) (by decide), fun p5 H5 S5 hp5 => ?_⟩
    have S15 := (S13.trans S4).trans S5
    refine ⟨3 + 1, rfl, .inl (.inr ⟨a, _, rfl, S15 _ _ ha, fun p6 H6 S6 hp6 => ?_⟩)⟩
    have hp6 : H6 p6 = some (.tup [vr]) := hp6.trans (congrArg (fun z => some (HO.tup z)) (jr _ 4 (by simp)))
    refine .inr ⟨p5, p6, _, _, rfl, rfl, S6 _ _ hp5, hp6, bo (n := 5) (by decide), fun p7 H7 S7 hp7 => ?_⟩
    have S17 := (S15.trans S6).trans S7
    refine hq (.ref p7) H7 (S0.trans S17) ?_
    rw [gh]
    exact .tup hp7 (.cons (.str _) (.cons (.int _) (.cons (.int _) (.cons (wy3.mono (((S4.trans S5).trans S6).trans S7)) (.cons (wr.mono S17) .nil)))))
  | @right e x _ _ _ _ l r _ w k =>
    refine Sel.no rfl (ixT (j := 0) hP0 rfl rfl ?_)
    obtain ⟨a, vl, vr, rfl, ha, wl, wr⟩ := cY wd0
    have hn' : w.length + 1 < n + 1 := hn
    have hl' : w.length + 1 ≤ 100 := hl
    refine ⟨4, rfl, .inl (.inr ⟨a, _, rfl, ha, fun p1 H1 S1 hp1 => ?_⟩)⟩
    refine ixT (j := 4) (S1 _ _ ha) rfl rfl ⟨1, rfl, .inl (.inr ⟨P, _, rfl, S1 _ _ hP0, fun p2 H2 S2 hp2 => ?_⟩)⟩
    have hp2 : H2 p2 = some (.tup (w.map V.int)) := by rw [hp2]; exact congrArg (fun z => some (HO.tup z)) (jr _ 1 (by simp))
    have S12 := S1.trans S2
    refine ⟨vr, u, r, q, q', _, _, d, g, p2, w, rfl, wr.mono S12, hp2, k, wu0.mono S12, by omega, by omega, fun y H3 S3 wy3 => ?_⟩
    have S13 := S12.trans S3
    refine ⟨by show 1 ≤ sizeLine; decide, fun t4 h4 => ?_⟩
    have S4 := ay.upd (o := .tup [y]) h4
    have hp14 : upd H3 t4 (.tup [y]) p1 = some (.tup [.str "fork", .int e, .int x, vl]) := (S4 _ _ (S3 _ _ (S2 _ _ hp1))).trans (congrArg (fun z => some (HO.tup z)) (nK _ 4 (by simp)))
    refine .inr ⟨p1, t4, _, _, rfl, rfl, hp14, am, bo (n := 5) (by decide), fun p5 H5 S5 hp5 => ?_⟩
    have S15 := (S13.trans S4).trans S5
    refine ⟨4 + 1, rfl, .inl (.inr ⟨a, _, rfl, S15 _ _ ha, fun p6 H6 S6 hp6 => ?_⟩)⟩
    have hp6 : H6 p6 = some (.tup []) := hp6.trans (congrArg (fun z => some (HO.tup z)) (jr _ 5 (by simp)))
    refine .inr ⟨p5, p6, _, _, rfl, rfl, S6 _ _ hp5, hp6, bo (n := 5) (by decide), fun p7 H7 S7 hp7 => ?_⟩
    have S17 := (S15.trans S6).trans S7
    refine hq (.ref p7) H7 (S0.trans S17) ?_
    rw [gk]
    exact .tup hp7 (.cons (.str _) (.cons (.int _) (.cons (.int _) (.cons (wl.mono S17) (.cons (wy3.mono (((S4.trans S5).trans S6).trans S7)) .nil)))))
theorem uO {H : Hp} {ps : List Addr} {ts : List (Int × Str)} (h : PR H ps ts) : PT H ps (ts.map pL) := by
 induction h with
 | nil => exact .nil
 | cons r t ih => exact .cons ⟨r, by show 2 ≤ 8; decide⟩ ih
end Rs
namespace Rs
open PySem PySem.Spec PyProof.Rows L2
theorem bx.rfl' {H : Hp} : bx H H := fun _ _ e _ _ => e
theorem bx.trans {H H1 H2 : Hp} (a : bx H H1) (b : bx H1 H2) : bx H H2 := fun x o e n m => b x o (a x o e n m) n m
theorem bx.of {H H' : Hp} (k : aE H H') : bx H H' := fun x o e _ m => k x o e m
theorem bx.ofP {H H' : Hp} {P : Addr} (hP : ∃ ps, H P = some (.tbl ps)) (k : cD P H H') : bx H H' := fun x o e n _ => k x o e fun z => by
 obtain ⟨ps, hP⟩ := hP
 subst z; rw [hP] at e; cases e; exact n _ rfl
theorem bx.tup {H H' : Hp} (k : bx H H') : ∀ b xs, H b = some (.tup xs) → H' b = some (.tup xs) := fun b xs e => k b _ e (fun _ z => nomatch z) (fun _ z => nomatch z)
theorem bx.lst {H H' : Hp} (k : bx H H') : ∀ b xs, H b = some (.lst xs) → H' b = some (.lst xs) := fun b xs e => k b _ e (fun _ z => nomatch z) (fun _ z => nomatch z)
theorem cv.keepT {P : Addr} {l c : Nat} {t : cT} {H H' : Hp} (h : cv P l c t H) (k : aE H H') : cv P l c t H' := by
 obtain ⟨ps, h1, h2⟩ := h
 exact ⟨ps, k _ _ h1 (fun _ z => nomatch z), h2.imp id fun ⟨a, e, ha⟩ => ⟨a, e, k _ _ ha (fun _ z => nomatch z)⟩⟩
end Rs
namespace Rs
open PySem PySem.Spec PyProof.Rows L2
theorem gu (h : List Key → Key) (b k : Int) : ∀ (r : List (Int × Key)) (e : List Key) (s : Int × Key), eK h b k e (r ++ [s]) = cN b k s.1 s.2 (h (eK h b k e r))
 | [], e, s => rfl
 | t :: r, e, s => gu h b k r (cN b k t.1 t.2 (h e)) s
theorem fT {b lo hi d k : Int} (l : lo ≤ k) (u : k ≤ hi) : bf b lo hi d (aw b k d) = true := by
 unfold bf aw
 have W := ck (b - d).toNat
 have h1 : k / 2 ^ (b - d).toNat * 2 ^ (b - d).toNat ≤ k := Int.ediv_mul_le k (by omega)
 have h2 : k < (k / 2 ^ (b - d).toNat + 1) * 2 ^ (b - d).toNat := Int.lt_ediv_add_one_mul_self k W
 rw [decide_eq_true (by omega), decide_eq_true (by omega)]; rfl
theorem gI {b lo hi d k : Int} {p : au} (h : aM b lo hi d (aw b k d) p) (l : lo ≤ k) (u : k ≤ hi) : bI p = false := by
 cases p with
 | cut m => have := h.1; rw [fT l u] at this; cases this
 | _ => rfl
theorem cS {b k e : Int} (he : e < b) : aw b k (e + 1) = 2 * aw b k e + k / 2 ^ (b - e - 1).toNat % 2 := by
 unfold aw
 have W := ck (b - e - 1).toNat
 have e1 : b - (e + 1) = b - e - 1 := by omega
 have e2 : (b - e).toNat = (b - e - 1).toNat + 1 := by omega
 rw [e1, e2, Int.pow_succ, ← ie W]
 omega
theorem pK (h : List Key → Key) {b lo hi k : Int} (l : lo ≤ k) (u : k ≤ hi) : ∀ {p : au} {d : Int}, aM b lo hi d (aw b k d) p → eK h b k (cu h b k p) (bp h b k p).reverse = aO h p := by
  intro p
  induction p with
  | fork e x pl pr hl hr =>
    intro d ok
    obtain ⟨_, _, he, _, _, _, okl, okr⟩ := ok
    unfold cu bp bC
    by_cases hx : aw b k e = x
    · rw [if_pos hx]
      have sn := cS (b := b) (k := k) (e := e) he
      by_cases ht : k / 2 ^ (b - e - 1).toNat % 2 = 0
      · rw [if_pos ht]
        have ok' : aM b lo hi (e + 1) (aw b k (e + 1)) pl := by rw [sn, hx, ht, Int.add_zero]; exact okl
        have ih := hl ok'
        show eK h b k (cu h b k pl) ((e, aR h pr) :: bp h b k pl).reverse = _
        rw [List.reverse_cons, gu, ih, ← dw h (gI ok' l u)]
        unfold cN
        rw [if_pos ht, hx]; rfl
      · rw [if_neg ht]
        have h1 : k / 2 ^ (b - e - 1).toNat % 2 = 1 := by omega
        have ok' : aM b lo hi (e + 1) (aw b k (e + 1)) pr := by rw [sn, hx, h1]; exact okr
        have ih := hr ok'
        show eK h b k (cu h b k pr) ((e, aR h pl) :: bp h b k pr).reverse = _
        rw [List.reverse_cons, gu, ih, ← dw h (gI ok' l u)]
        unfold cN
        rw [if_neg ht, hx]; rfl
    · rw [if_neg hx]; rfl
  | _ => intro d ok; rfl
theorem lW {b lo hi : Int} : ∀ {p : au} {d g : Int}, aM b lo hi d g p → ∀ x ∈ aC p, aw b x.1 d = g := by
  intro p
  induction p with
  | leaf k z => intro d g ok x hx; rw [List.mem_singleton.mp hx]; exact ok.2.2.2.2.2
  | fork e x pl pr hl hr =>
    intro d g ok y hy
    obtain ⟨_, hd, he, _, _, hg, okl, okr⟩ := ok
    have two : ∀ c : Int, (c = 0 ∨ c = 1) → aw b y.1 (e + 1) = 2 * x + c → aw b y.1 d = g := fun c hc hs => by
      have s1 := gt (b := b) (k := y.1) (e := e + 1) (l := e) (by omega) (by omega)
      have e1 : (e + 1 - e).toNat = 1 := by omega
      rw [e1, hs] at s1
      have s2 : aw b y.1 e = x := by rw [← s1]; omega
      rw [← gt (b := b) (k := y.1) (e := e) (l := d) hd (by omega), s2, hg]
    rcases List.mem_append.mp hy with hy | hy
    · exact two 0 (.inl rfl) (by rw [hl okl y hy, Int.add_zero])
    · exact two 1 (.inr rfl) (hr okr y hy)
  | cut m => intro d g ok x hx; cases hx
  | bare => intro d g ok x hx; cases hx
def AF (k : Int) (a : V) : au → V
 | .leaf j z => if j = k then .str z else a
 | _ => a
end Rs
namespace Rs
open PySem PySem.Spec PyProof.Rows L2
theorem nC {H : Hp} {v : V} {st : List (Int × Key)} {e : List Key} (w : jb H v st e) : ∃ (a s t : Addr) (xs : List V), v = .ref a ∧ H a = some (.tup [.ref s, .ref t]) ∧ H s = some (.tup xs) ∧ DatWs H xs (st.map stD) ∧ H t = some (.tup (e.map kV)) := by
  unfold jb at w
  cases w with
  | @tup a xs _ ea r =>
    cases r with
    | cons z0 r =>
      cases r with
      | cons z1 r =>
        cases r
        obtain ⟨t, rfl, ht⟩ := ma z1
        cases z0 with
        | @tup s ys _ es rs => exact ⟨a, s, t, ys, rfl, ea, es, rs, ht⟩
variable {K : W.Frag} {mg : Str → Option Value} {A : Adr}
end Rs
namespace Rs
open PySem PySem.Spec PyProof.Rows L2
abbrev PS (H : Hp) : List Addr → List (Int × Key) → Prop := Paired (fun (q : Addr) (m : Int × Key) => H q = some (.tup [.int m.1, kV m.2]))
theorem rj {H : Hp} {qs : List Addr} {ms : List (Int × Key)} {q : Addr} {m : Int × Key} (h : PS H qs ms) (e : H q = some (.tup [.int m.1, kV m.2])) : PS H (qs ++ [q]) (ms ++ [m]) := by
 induction h with
 | nil => exact .cons e .nil
 | cons r t ih => exact .cons r ih
theorem kG {H H' : Hp} {qs : List Addr} {ms : List (Int × Key)} (k : ∀ b xs, H b = some (.tup xs) → H' b = some (.tup xs)) (h : PS H qs ms) : PS H' qs ms := L2.Paired.imp' (fun p x e => k _ _ e) h
theorem ui {H : Hp} {qs : List Addr} {ms : List (Int × Key)} (h : PS H qs ms) : qs.length = ms.length := Paired.length h
theorem uB {H : Hp} {qs : List Addr} {ms : List (Int × Key)} (h : PS H qs ms) : DatWs H (qs.map V.ref) (ms.map stD) := by
 induction h with
 | nil => exact .nil
 | cons r t ih => exact .cons (.tup r (.cons (.int _) (.cons (kc H _) .nil))) ih
structure cM (b lo hi k : Int) (p : au) (pre : List (Int × au)) (cur : au) (d : Int) : Prop where
 way : bC b k p = (pre ++ (bC b k cur).1, (bC b k cur).2)
 ok : aM b lo hi d (aw b k d) cur
 d0 : 0 ≤ d
 d1 : d ≤ b
 f : forks cur + pre.length ≤ forks p
 t : aU cur ≤ aU p
theorem cM.zero {b lo hi k : Int} {p : au} (b1 : 0 ≤ b) (k0 : 0 ≤ k) (k1 : k < 2 ^ b.toNat) (ok : aM b lo hi 0 0 p) : cM b lo hi k p [] p 0 := by
 have e : aw b k 0 = 0 := by unfold aw; rw [Int.sub_zero]; exact Int.ediv_eq_zero_of_lt k0 k1
 exact ⟨rfl, by rw [e]; exact ok, by decide, b1, by simp, Nat.le_refl _⟩
theorem cM.left {b lo hi k d e x : Int} {p l r : au} {pre : List (Int × au)} (w : cM b lo hi k p pre (.fork e x l r) d) (hx : aw b k e = x) (ht : k / 2 ^ (b - e - 1).toNat % 2 = 0) : cM b lo hi k p (pre ++ [(e, r)]) l (e + 1) := by
 obtain ⟨_, hd, he, _, _, _, okl, _⟩ := w.ok
 have d0 := w.d0
 have s0 : aw b k (e + 1) = 2 * x := by rw [cS he, hx, ht, Int.add_zero]
 have ew : bC b k (.fork e x l r) = ((e, r) :: (bC b k l).1, (bC b k l).2) := by conv => lhs; unfold bC; rw [if_pos hx, if_pos ht]
 have ff : forks l + forks r + 1 + pre.length ≤ forks p := w.f
 have tt : max (aU l) (aU r) + 1 ≤ aU p := w.t
 refine ⟨by rw [w.way, ew, List.append_assoc]; rfl, by rw [s0]; exact okl, by omega, by omega, ?_, by omega⟩
 rw [List.length_append]
 show forks l + (pre.length + 1) ≤ forks p
 omega
theorem cM.right {b lo hi k d e x : Int} {p l r : au} {pre : List (Int × au)} (w : cM b lo hi k p pre (.fork e x l r) d) (hx : aw b k e = x) (ht : ¬ k / 2 ^ (b - e - 1).toNat % 2 = 0) : cM b lo hi k p (pre ++ [(e, l)]) r (e + 1) := by
 obtain ⟨_, hd, he, _, _, _, _, okr⟩ := w.ok
 have d0 := w.d0
 have h1 : k / 2 ^ (b - e - 1).toNat % 2 = 1 := by omega
 have s0 : aw b k (e + 1) = 2 * x + 1 := by rw [cS he, hx, h1]
 have ew : bC b k (.fork e x l r) = ((e, l) :: (bC b k r).1, (bC b k r).2) := by conv => lhs; unfold bC; rw [if_pos hx, if_neg ht]
 have ff : forks l + forks r + 1 + pre.length ≤ forks p := w.f
 have tt : max (aU l) (aU r) + 1 ≤ aU p := w.t
 refine ⟨by rw [w.way, ew, List.append_assoc]; rfl, by rw [s0]; exact okr, by omega, by omega, ?_, by omega⟩
 rw [List.length_append]
 show forks r + (pre.length + 1) ≤ forks p
 omega
theorem cM.stop {b lo hi k d : Int} {p cur : au} {pre : List (Int × au)} (w : cM b lo hi k p pre cur d) (hs : ∀ e x l r, cur = .fork e x l r → ¬ aw b k e = x) : bC b k p = (pre, cur) := by
 have : bC b k cur = ([], cur) := by
  cases cur with
  | fork e x l r => conv => lhs; unfold bC; rw [if_neg (hs e x l r rfl)]
  | _ => rfl
 rw [w.way, this, List.append_nil]
theorem zV {k : Int} {j : Nat} (k0 : 0 ≤ k) : Builtin.bitAnd (k / 2 ^ j) 1 = k / 2 ^ j % 2 := by
 have h0 : 0 ≤ k / 2 ^ j := Int.ediv_nonneg k0 (Int.le_of_lt (ck _))
 obtain ⟨y, hy⟩ := Int.eq_ofNat_of_zero_le h0
 rw [hy, mD]
 omega
end Rs
namespace Rs
open PySem PySem.Spec PyProof.Rows L2
theorem lA (H : Hp) : ∀ e : List Key, DatWs H (e.map kV) (e.map bc)
 | [] => .nil
 | x :: r => .cons (kc H x) (lA H r)
variable {K : W.Frag} {mg : Str → Option Value} {A : Adr}
theorem Co (K : W.Frag) (A : Adr) : Ln (oJ K A) 4 := by rintro vs H Q E ⟨_, _, _, _, _, _, rfl, _⟩; rfl
theorem FU (T : Txt K mg A) : Rd (oJ K A) (Ir K A) ["_law_stamper", "_law_bits_here", "_law_part_here", "_law_key_here", "_law_steps"] := by
  intro vs H Q E h
  obtain ⟨f, b, lo, hi, k, v, rfl, p, g, n, w, l, u, sp, hn, q⟩ := h
  have hm := dF p
  have hf := w.f
  have ht := w.t
  have en := w.e
  have b1 := en.b1
  have lo0 := en.lo0
  have hi1 := en.hi1
  have k0 : 0 ≤ k := by omega
  obtain ⟨_, ⟨f1, f2, f3, f4⟩, _⟩ := fJ
  refine ⟨by show 0 ≤ sizeLine; decide, fun L hL => ?_⟩
  have S0 := ay.upd (o := .lst []) hL
  have fin : ∀ (cur : au) (vc : V) (pre : List (Int × au)) (d : Int) (g1 : SG) (qs : List Addr) (ms : List (Int × Key)) (c : Nat) (H2 : Hp), bC b k p = (pre, cur) → aM b lo hi d (aw b k d) cur → 0 ≤ d → d ≤ b → forks cur ≤ 70 → aU cur ≤ 60 → aP H2 vc (aV cur) → H2 L = some (.lst (qs.map V.ref)) → PS H2 qs ms → (∀ h, Ext g1 h → ms = pre.map fun s => (s.1, aR h s.2)) → aE H H2 → Stp A H2 f g1 (n + c) → Sub g g1 → c + bK cur ≤ bK p →
      uN K A { nx := fun _ H' => Q .non H', rt := Q } [some (.ref f), some (.int b), some vc, some (.int k), some (.ref L)] H2 := by
    intro cur vc pre d g1 qs ms c H2 hway hok d0 d1 hfc htc wc hL2 ps hms kt sp2 sub hc
    refine ⟨L, _, rfl, .inl ⟨SqL.of hL2, fun T1 hT1 => ?_⟩⟩
    have S1 := ay.upd (o := .tup (qs.map V.ref)) hT1
    have nc := gI hok l u
    refine ⟨f, vc, cur, g1, n + c, rfl, ⟨wc.mono S1, ⟨b, lo, hi, d, _, en, d0, d1, hok⟩, hfc⟩, by omega, sp2.same (Nat.le_refl _) S1, by omega, fun t L1 x ps1 ts g2 H3 kt3 sp3 sub3 nl3 ht3 hL3 pk3 e3 ox sx => ?_⟩
    refine ixT (j := 1) ht3 rfl rfl ?_
    obtain ⟨pr, e⟩ := cb (dJ g2) nc
    have ets := (e3 _ (bv g2)).1
    rw [e] at ets
    subst ets
    obtain ⟨qs3, pc, rfl, hpc, okc⟩ := fh pk3
    refine cx hL3 ⟨by show 2 ≤ sizeLine; decide, fun t5 h5 => ?_⟩
    have S5 := ay.upd (o := .tup [V.ref T1, V.ref pc]) h5
    have kT : ∀ c xs, H2 c = some (.tup xs) → (upd H3 t5 (.tup [V.ref T1, V.ref pc])) c = some (.tup xs) := fun c xs e => S5 _ _ (kt3.tup _ _ (S1 _ _ e))
    have hT5 := S5 _ _ (kt3.tup _ _ (am (H := H2) (a := T1) (o := .tup (qs.map V.ref))))
    refine q (.ref t5) ms (aO (dJ g2) cur) g2 _ ((kt.trans (aE.same S1)).trans (kt3.trans (aE.same S5))) (sp3.same (by omega) S5) (sub.trans sub3) (.tup am (.cons (.tup hT5 (uB (kG kT ps))) (.cons (.tup (S5 _ _ hpc) (lA _ _)) .nil))) fun h he => ⟨?_, ?_⟩
    · unfold bp; rw [hway]; exact hms h (he.of sub3)
    · unfold cu; rw [hway]
      obtain ⟨pr', e'⟩ := cb h nc
      have e2 := ((e3 h he).1).trans e'
      exact List.cons.inj (List.append_inj' e2 rfl).2 |>.1
  refine ⟨fun m σ H2 => ∃ (cur : au) (vc : V) (pre : List (Int × au)) (d : Int) (g1 : SG) (qs : List Addr) (ms : List (Int × Key)) (c : Nat), m = aU cur ∧ σ = [some (.ref f), some (.int b), some vc, some (.int k), some (.ref L)] ∧ cM b lo hi k p pre cur d ∧ aP H2 vc (aV cur) ∧ H2 L = some (.lst (qs.map V.ref)) ∧ PS H2 qs ms ∧ (∀ h, Ext g1 h → ms = pre.map fun s => (s.1, aR h s.2)) ∧ aE H H2 ∧ Stp A H2 f g1 (n + c) ∧ Sub g g1 ∧ c + bK cur ≤ bK p,
    ⟨aU p, p, v, [], 0, g, [], [], 0, rfl, rfl, cM.zero (by omega) k0 (by omega) w.w.ok, w.w.w.mono S0, am, .nil, fun _ _ => rfl, aE.same S0, sp.same (Nat.le_refl _) S0, Sub.rfl', by omega⟩, ?_⟩
  rintro m σ H2 ⟨cur, vc, pre, d, g1, qs, ms, c, rfl, rfl, ow, wc, hL2, ps, hms, kt, sp2, sub, hc⟩
  have owf := ow.f
  have owt := ow.t
  have stop : (∀ e x l r, cur = .fork e x l r → ¬ aw b k e = x) → uN K A { nx := fun _ H' => Q .non H', rt := Q } [some (.ref f), some (.int b), some vc, some (.int k), some (.ref L)] H2 := fun hs => fin cur vc pre d g1 qs ms c H2 (ow.stop hs) ow.ok ow.d0 ow.d1 (by omega) (by omega) wc hL2 ps hms kt sp2 sub hc
  cases hcur : cur with
  | cut c1 =>
    subst hcur
    obtain ⟨a, rfl, ha⟩ := fF wc
    refine ixT (j := 0) ha rfl rfl (Sel.no f1 ?_)
    show (if false = true then _ else _)
    rw [if_neg (by decide)]; exact stop (fun _ _ _ _ z => nomatch z)
  | bare =>
    subst hcur
    obtain ⟨a, rfl, ha⟩ := fu wc
    refine ixT (j := 0) ha rfl rfl (Sel.no f2 ?_)
    show (if false = true then _ else _)
    rw [if_neg (by decide)]; exact stop (fun _ _ _ _ z => nomatch z)
  | leaf k1 z1 =>
    subst hcur
    obtain ⟨a, rfl, ha⟩ := eZ wc
    refine ixT (j := 0) ha rfl rfl (Sel.no f3 ?_)
    show (if false = true then _ else _)
    rw [if_neg (by decide)]; exact stop (fun _ _ _ _ z => nomatch z)
  | fork e x pl pr =>
    subst hcur
    obtain ⟨a, vl, vr, rfl, ha, wl, wr⟩ := cY wc
    obtain ⟨_, hd, he, _, _, _, okl, okr⟩ := ow.ok
    have d0 := ow.d0
    have owf' : forks pl + forks pr + 1 + pre.length ≤ forks p := owf
    have owt' : max (aU pl) (aU pr) + 1 ≤ aU p := owt
    have hc' : c + (bK pl + bK pr + 1) ≤ bK p := hc
    have psl := ui ps
    have pl1 : ms.length = pre.length := by rw [hms _ (bv g1), List.length_map]
    refine ixT (j := 0) ha rfl rfl (Sel.yes f4 (ixT (j := 1) ha rfl rfl ⟨by show (0 : Int) ≤ b - e; omega, ixT (j := 2) ha rfl rfl ?_⟩))
    show (if decide (aw b k e = x) = true then _ else _)
    by_cases hx : aw b k e = x
    · rw [if_pos (decide_eq_true hx)]
      refine ⟨fun σ' H' => ∃ (cur : au) (vc : V) (pre : List (Int × au)) (d : Int) (g1 : SG) (qs : List Addr) (ms : List (Int × Key)) (c : Nat), aU cur < max (aU pl) (aU pr) + 1 ∧ σ' = [some (.ref f), some (.int b), some vc, some (.int k), some (.ref L)] ∧ cM b lo hi k p pre cur d ∧ aP H' vc (aV cur) ∧ H' L = some (.lst (qs.map V.ref)) ∧ PS H' qs ms ∧ (∀ h, Ext g1 h → ms = pre.map fun s => (s.1, aR h s.2)) ∧ aE H H' ∧ Stp A H' f g1 (n + c) ∧ Sub g g1 ∧ c + bK cur ≤ bK p,
        fun σ' H' ⟨cur, vc, pre, d, g1, qs, ms, c, a0, a1, a2⟩ => ⟨aU cur, a0, cur, vc, pre, d, g1, qs, ms, c, rfl, a1, a2⟩, ?_⟩
      refine ixT (j := 1) ha rfl rfl ⟨by show (0 : Int) ≤ b - e - 1; omega, ?_⟩
      show Sel (decide (Builtin.bitAnd (k / 2 ^ (b - e - 1).toNat) 1 = 0)) _ _
      rw [zV k0]
      have turn : ∀ (va vn : V) (pa pn : au) (i j : Nat) (ga : Int), (∃ xs, xs[i]? = some va ∧ xs[j]? = some vn ∧ H2 a = some (.tup xs) ∧ xs[1]? = some (.int e)) → aP H2 va (aV pa) → aP H2 vn (aV pn) → aM b lo hi (e + 1) ga pa → forks pa ≤ 70 → aU pa ≤ 60 → aU pn < max (aU pl) (aU pr) + 1 → cM b lo hi k p (pre ++ [(e, pa)]) pn (e + 1) → c + bK pa + bK pn ≤ bK p →
          (ao (cH (tBM K "list" cZ (ab 4) (aa (bH (aa (tOp (aq K) (ab 2) (tC (.int 1))) (aa (tOp (aq K) (ai (dh K A 70) (fun _ => E0) (aa (ab 0) (aa (tOp (aq K) (ab 2) (tC (.int i))) (af)))) (tC (.int 0))) (af)))) (af)))) (aB (tOp (aq K) (ab 2) (tC (.int j))) (ar 2))) { nx := fun σ' H' => ∃ (cur : au) (vc : V) (pre : List (Int × au)) (d : Int) (g1 : SG) (qs : List Addr) (ms : List (Int × Key)) (c : Nat), aU cur < max (aU pl) (aU pr) + 1 ∧ σ' = [some (.ref f), some (.int b), some vc, some (.int k), some (.ref L)] ∧ cM b lo hi k p pre cur d ∧ aP H' vc (aV cur) ∧ H' L = some (.lst (qs.map V.ref)) ∧ PS H' qs ms ∧ (∀ h, Ext g1 h → ms = pre.map fun s => (s.1, aR h s.2)) ∧ aE H H' ∧ Stp A H' f g1 (n + c) ∧ Sub g g1 ∧ c + bK cur ≤ bK p, rt := Q } [some (.ref f), some (.int b), some (.ref a), some (.int k), some (.ref L)] H2 := by
        rintro va vn pa pn i j ga ⟨xs, gi, gj, hxs, g1'⟩ wa wn oka fa ta tn own cc
        refine ⟨.inl ⟨rfl, _, SqL.of hL2⟩, ixT (j := 1) hxs rfl g1' (ixT (j := i) hxs rfl gi ?_)⟩
        refine ⟨f, va, pa, g1, n + c, rfl, ⟨wa, ⟨b, lo, hi, e + 1, ga, en, by omega, by omega, oka⟩, fa⟩, by omega, sp2, by omega, fun t L1 y ps1 ts g2 H3 kt3 sp3 sub3 nl3 ht3 hL3 pk3 e3 oy sy => ?_⟩
        refine ixT (j := 0) ht3 rfl rfl ⟨by show 2 ≤ sizeLine; decide, fun t2 h2 => ?_⟩
        have S3 := ay.upd (o := .tup [V.int e, kV y]) h2
        have hL4 := S3 _ _ (kt3 _ _ hL2 (fun _ z => nomatch z))
        refine ⟨L, _, _, rfl, rfl, hL4, by rw [List.length_map]; exact Nat.lt_of_le_of_lt (m := 1000) (by omega) (by decide), ?_⟩
        have kp : ∀ (c : Addr) (xs : List V), (upd H3 t2 (.tup [V.int e, kV y])) c = some (.tup xs) → (upd (upd H3 t2 (.tup [V.int e, kV y])) L (.lst (qs.map V.ref ++ [V.ref t2]))) c = some (.tup xs) := fun c xs e => by
          rw [aK (fun z => by subst z; rw [hL4] at e; cases e)]; exact e
        have kp2 : ∀ (c : Addr) (xs : List V), H2 c = some (.tup xs) → (upd (upd H3 t2 (.tup [V.int e, kV y])) L (.lst (qs.map V.ref ++ [V.ref t2]))) c = some (.tup xs) := fun c xs e => kp c xs (S3 _ _ (kt3.tup _ _ e))
        refine ixT (j := j) (kp2 _ _ hxs) rfl gj ?_
        have ml : qs.map V.ref ++ [V.ref t2] = (qs ++ [t2]).map V.ref := by simp
        refine ⟨pn, vn, pre ++ [(e, pa)], e + 1, g2, qs ++ [t2], ms ++ [(e, y)], c + bK pa, tn, rfl, own, wn.keepT kp2 (bq pn), by rw [am, ml], rj (kG kp2 ps) (kp _ _ am), fun h he => ?_, fun z o ez nd => ?_, ?_, sub.trans sub3, cc⟩
        · rw [List.map_append, ← hms h (he.of sub3), (e3 h he).2]; rfl
        · have hz : z ≠ L := fun q => by subst q; rw [hL] at ez; cases ez
          rw [aK hz]; exact S3 _ _ (kt3 _ _ (kt _ _ ez nd) nd)
        · refine (sp3.same (by omega) S3).keep (Nat.le_refl _) fun z o ez nl _ => ?_
          rw [aK (fun q => by subst q; rw [hL4] at ez; cases ez; exact nl _ rfl)]; exact ez
      refine Sel.dec (fun hb => ?_) (fun hb => ?_)
      · exact turn vr vl pr pl 4 3 _ ⟨_, rfl, rfl, ha, rfl⟩ wr wl okr (by omega) (by omega) (by omega) (ow.left hx hb) (by omega)
      · exact turn vl vr pl pr 3 4 _ ⟨_, rfl, rfl, ha, rfl⟩ wl wr okl (by omega) (by omega) (by omega) (ow.right hx hb) (by omega)
    · rw [if_neg (by rw [decide_eq_false hx]; decide)]
      refine stop fun e' x' l' r' z => ?_
      cases z
      exact hx
end Rs
namespace Rs
open PySem PySem.Spec PyProof.Rows L2
variable {K : W.Frag} {mg : Str → Option Value} {A : Adr}
theorem CU (K : W.Frag) (A : Adr) : Ln (oU K A) 6 := by rintro vs H Q E ⟨_, _, _, _, _, _, rfl, _⟩; rfl
theorem Et (T : Txt K mg A) : Rd (oU K A) (GX K A) ["stamper", "bits", "low", "high", "paper", "key", "steps", "part", "turn", "aside"] := by
  intro vs H Q E h
  obtain ⟨f, b, lo, hi, k, v, rfl, p, g, n, w, l, u, sp, hn, q⟩ := h
  have hf := w.f
  have ht := w.t
  have en := w.e
  have b1 := en.b1
  have lo0 := en.lo0
  have hi1 := en.hi1
  have k0 : 0 ≤ k := by omega
  have kk : gQ b (.int k) = true := decide_eq_true ⟨k0, by omega⟩
  obtain ⟨_, ⟨f1, f2, f3, f4⟩, _⟩ := fJ
  refine ⟨b, .int k, .int k, rfl, by omega, en.b60, .int k, Sel.no (by rw [kk]; rfl) ⟨b, lo, hi, rfl, en, ?_⟩⟩
  refine Sel.yes (decide_eq_true l) (Sel.no (by rw [decide_eq_true u]; rfl) ?_)
  refine ⟨b, lo, hi, 0, 0, v, p, rfl, en, w.w, ht, by omega, fun H1 s1 => ⟨by show 0 ≤ sizeLine; decide, fun L hL => ?_⟩⟩
  have S0 := s1.trans (ay.upd (o := .lst []) hL)
  have hLn := dR s1 hL
  have fin : ∀ (cur : au) (vc : V) (pre : List (Int × au)) (d : Int) (g1 : SG) (qs : List Addr) (ms : List (Int × Key)) (c : Nat) (x8 x9 : Option V) (H2 : Hp), bC b k p = (pre, cur) → aM b lo hi d (aw b k d) cur → 0 ≤ d → d ≤ b → forks cur ≤ 70 → aU cur ≤ 60 → aP H2 vc (aV cur) → H2 L = some (.lst (qs.map V.ref)) → PS H2 qs ms → (∀ h, Ext g1 h → ms = pre.map fun s => (s.1, aR h s.2)) → aE H H2 → Stp A H2 f g1 (n + c) → Sub g g1 → c + 2 * forks cur ≤ 2 * forks p →
      tD K A { nx := fun _ H' => Q .non H', rt := Q } [some (.ref f), some (.int b), some (.int lo), some (.int hi), some v, some (.int k), some (.ref L), some vc, x8, x9] H2 := by
    intro cur vc pre d g1 qs ms c x8 x9 H2 hway hok d0 d1 hfc htc wc hL2 ps hms kt sp2 sub hc
    refine ⟨L, _, rfl, .inl ⟨SqL.of hL2, fun T1 hT1 => ?_⟩⟩
    have S1 := ay.upd (o := .tup (qs.map V.ref)) hT1
    have nc := gI hok l u
    refine ⟨f, vc, cur, g1, n + c, rfl, ⟨wc.mono S1, ⟨b, lo, hi, d, _, en, d0, d1, hok⟩, hfc⟩, by omega, sp2.same (Nat.le_refl _) S1, by omega, fun L1 ps1 ts g2 H3 kt3 sp3 sub3 nl3 hL3 pk3 e3 lo3 => ?_⟩
    obtain ⟨pr, e⟩ := cb (dJ g2) nc
    have ets := e3 _ (bv g2)
    rw [e] at ets
    subst ets
    obtain ⟨qs3, pc, rfl, hpc, okc⟩ := fh pk3
    refine cx hL3 ⟨by show 2 ≤ sizeLine; decide, fun t5 h5 => ?_⟩
    have S5 := ay.upd (o := .tup [V.ref T1, V.ref pc]) h5
    have kT : ∀ c xs, H2 c = some (.tup xs) → (upd H3 t5 (.tup [V.ref T1, V.ref pc])) c = some (.tup xs) := fun c xs e => S5 _ _ (kt3.tup _ _ (S1 _ _ e))
    have hT5 := S5 _ _ (kt3.tup _ _ (am (H := H2) (a := T1) (o := .tup (qs.map V.ref))))
    refine q (.ref t5) ms (aO (dJ g2) cur) g2 _ ((kt.trans (aE.same S1)).trans (kt3.trans (aE.same S5))) (sp3.same (by omega) S5) (sub.trans sub3) (.tup am (.cons (.tup hT5 (uB (kG kT ps))) (.cons (.tup (S5 _ _ hpc) (lA _ _)) .nil))) fun h he => ⟨?_, ?_⟩
    · unfold bp; rw [hway]; exact hms h (he.of sub3)
    · unfold cu; rw [hway]
      obtain ⟨pr', e'⟩ := cb h nc
      have e2 := (e3 h he).trans e'
      exact List.cons.inj (List.append_inj' e2 rfl).2 |>.1
  refine ⟨fun m σ H2 => ∃ (cur : au) (vc : V) (pre : List (Int × au)) (d : Int) (g1 : SG) (qs : List Addr) (ms : List (Int × Key)) (c : Nat) (x8 x9 : Option V), m = aU cur ∧ σ = [some (.ref f), some (.int b), some (.int lo), some (.int hi), some v, some (.int k), some (.ref L), some vc, x8, x9] ∧ cM b lo hi k p pre cur d ∧ aP H2 vc (aV cur) ∧ H2 L = some (.lst (qs.map V.ref)) ∧ PS H2 qs ms ∧ (∀ h, Ext g1 h → ms = pre.map fun s => (s.1, aR h s.2)) ∧ aE H H2 ∧ Stp A H2 f g1 (n + c) ∧ Sub g g1 ∧ c + 2 * forks cur ≤ 2 * forks p,
    ⟨aU p, p, v, [], 0, g, [], [], 0, none, none, rfl, rfl, cM.zero (by omega) k0 (by omega) w.w.ok, w.w.w.mono S0, am, .nil, fun _ _ => rfl, aE.same S0, sp.same (Nat.le_refl _) S0, Sub.rfl', by omega⟩, ?_⟩
  rintro m σ H2 ⟨cur, vc, pre, d, g1, qs, ms, c, x8, x9, rfl, rfl, ow, wc, hL2, ps, hms, kt, sp2, sub, hc⟩
  have owf := ow.f
  have owt := ow.t
  have stop : (∀ e x l r, cur = .fork e x l r → ¬ aw b k e = x) → tD K A { nx := fun _ H' => Q .non H', rt := Q } [some (.ref f), some (.int b), some (.int lo), some (.int hi), some v, some (.int k), some (.ref L), some vc, x8, x9] H2 := fun hs => fin cur vc pre d g1 qs ms c x8 x9 H2 (ow.stop hs) ow.ok ow.d0 ow.d1 (by omega) (by omega) wc hL2 ps hms kt sp2 sub hc
  cases hcur : cur with
  | cut c1 =>
    subst hcur
    obtain ⟨a, rfl, ha⟩ := fF wc
    refine ixT (j := 0) ha rfl rfl (Sel.no f1 ?_)
    show (if false = true then _ else _)
    rw [if_neg (by decide)]; exact stop (fun _ _ _ _ z => nomatch z)
  | bare =>
    subst hcur
    obtain ⟨a, rfl, ha⟩ := fu wc
    refine ixT (j := 0) ha rfl rfl (Sel.no f2 ?_)
    show (if false = true then _ else _)
    rw [if_neg (by decide)]; exact stop (fun _ _ _ _ z => nomatch z)
  | leaf k1 z1 =>
    subst hcur
    obtain ⟨a, rfl, ha⟩ := eZ wc
    refine ixT (j := 0) ha rfl rfl (Sel.no f3 ?_)
    show (if false = true then _ else _)
    rw [if_neg (by decide)]; exact stop (fun _ _ _ _ z => nomatch z)
  | fork e x pl pr =>
    subst hcur
    obtain ⟨a, vl, vr, rfl, ha, wl, wr⟩ := cY wc
    obtain ⟨_, hd, he, _, _, _, okl, okr⟩ := ow.ok
    have d0 := ow.d0
    have owf' : forks pl + forks pr + 1 + pre.length ≤ forks p := owf
    have owt' : max (aU pl) (aU pr) + 1 ≤ aU p := owt
    have hc' : c + 2 * (forks pl + forks pr + 1) ≤ 2 * forks p := hc
    have psl := ui ps
    have pl1 : ms.length = pre.length := by rw [hms _ (bv g1), List.length_map]
    refine ixT (j := 0) ha rfl rfl (Sel.yes f4 (ixT (j := 1) ha rfl rfl ⟨b, k, e, rfl, by omega, ixT (j := 2) ha rfl rfl ?_⟩))
    show (if decide (aw b k e = x) = true then _ else _)
    by_cases hx : aw b k e = x
    · rw [if_pos (decide_eq_true hx)]
      refine ⟨fun σ' H' => ∃ (cur : au) (vc : V) (pre : List (Int × au)) (d : Int) (g1 : SG) (qs : List Addr) (ms : List (Int × Key)) (c : Nat) (x8 x9 : Option V), aU cur < max (aU pl) (aU pr) + 1 ∧ σ' = [some (.ref f), some (.int b), some (.int lo), some (.int hi), some v, some (.int k), some (.ref L), some vc, x8, x9] ∧ cM b lo hi k p pre cur d ∧ aP H' vc (aV cur) ∧ H' L = some (.lst (qs.map V.ref)) ∧ PS H' qs ms ∧ (∀ h, Ext g1 h → ms = pre.map fun s => (s.1, aR h s.2)) ∧ aE H H' ∧ Stp A H' f g1 (n + c) ∧ Sub g g1 ∧ c + 2 * forks cur ≤ 2 * forks p,
        fun σ' H' ⟨cur, vc, pre, d, g1, qs, ms, c, x8, x9, a0, a1, a2⟩ => ⟨aU cur, a0, cur, vc, pre, d, g1, qs, ms, c, x8, x9, rfl, a1, a2⟩, ?_⟩
      refine ixT (j := 1) ha rfl rfl ⟨b, k, e, rfl, he, k0, ?_⟩
      have turn : ∀ (tn : Int) (va vn : V) (pa pn : au) (i j : Nat) (ga : Int), (4 - tn = (i : Int)) → (3 + tn = (j : Int)) → (∃ xs, xs[i]? = some va ∧ xs[j]? = some vn ∧ H2 a = some (.tup xs) ∧ xs[1]? = some (.int e)) → aP H2 va (aV pa) → aP H2 vn (aV pn) → aM b lo hi (e + 1) ga pa → forks pa ≤ 70 → aU pa ≤ 60 → aU pn < max (aU pl) (aU pr) + 1 → cM b lo hi k p (pre ++ [(e, pa)]) pn (e + 1) → c + 2 * forks pa + 1 + 2 * forks pn ≤ 2 * forks p →
          (ao (aB (tOp (aq K) (ab 7) (tOp (cB) (tC (.int 4)) (ab 8))) (ar 9)) (ao (cH (tBM K "list" cZ (ab 6) (aa (bH (aa (tOp (aq K) (ab 7) (tC (.int 1))) (aa (ai (jx K A) (fun _ => E0) (aa (ab 0) (aa (ab 9) (aa (ai (gz K A 70) (fun _ => E0) (aa (ab 0) (aa (ab 9) (af)))) (af))))) (af)))) (af)))) (aB (tOp (aq K) (ab 7) (tOp (aS K) (tC (.int 3)) (ab 8))) (ar 7)))) { nx := fun σ' H' => ∃ (cur : au) (vc : V) (pre : List (Int × au)) (d : Int) (g1 : SG) (qs : List Addr) (ms : List (Int × Key)) (c : Nat) (x8 x9 : Option V), aU cur < max (aU pl) (aU pr) + 1 ∧ σ' = [some (.ref f), some (.int b), some (.int lo), some (.int hi), some v, some (.int k), some (.ref L), some vc, x8, x9] ∧ cM b lo hi k p pre cur d ∧ aP H' vc (aV cur) ∧ H' L = some (.lst (qs.map V.ref)) ∧ PS H' qs ms ∧ (∀ h, Ext g1 h → ms = pre.map fun s => (s.1, aR h s.2)) ∧ aE H H' ∧ Stp A H' f g1 (n + c) ∧ Sub g g1 ∧ c + 2 * forks cur ≤ 2 * forks p, rt := Q } [some (.ref f), some (.int b), some (.int lo), some (.int hi), some v, some (.int k), some (.ref L), some (.ref a), some (.int tn), x9] H2 := by
        rintro tn va vn pa pn i j ga hi4 hj3 ⟨xs, gi, gj, hxs, g1'⟩ wa wn oka fa ta tlt own cc
        refine ixT (j := i) hxs hi4 gi ⟨.inl ⟨rfl, _, SqL.of hL2⟩, ixT (j := 1) hxs rfl g1' ?_⟩
        have PA : dB H2 va pa := ⟨wa, ⟨b, lo, hi, e + 1, ga, en, by omega, by omega, oka⟩, fa⟩
        refine ⟨f, va, pa, g1, n + c, rfl, PA, by omega, sp2, by omega, fun L1 ps1 ts g2 H3 kt3 sp3 sub3 nl3 hL3 pk3 e3 lo3 => ?_⟩
        refine ⟨f, L1, va, pa, ps1, ts, g2, n + c + 2 * forks pa, rfl, PA.keep kt3.tup, sp3, by omega, hL3, pk3, e3, lo3, fun y g4 H4 kt4 sp4 sub4 ey oy sy => ?_⟩
        have kt34 := kt3.trans kt4
        refine ⟨by show 2 ≤ sizeLine; decide, fun t2 h2 => ?_⟩
        have S3 := ay.upd (o := .tup [V.int e, kV y]) h2
        have hL4 := S3 _ _ (kt34 _ _ hL2 (fun _ z => nomatch z))
        refine ⟨L, _, _, rfl, rfl, hL4, by rw [List.length_map]; exact Nat.lt_of_le_of_lt (m := 1000) (by omega) (by decide), ?_⟩
        have kp : ∀ (c : Addr) (xs : List V), (upd H4 t2 (.tup [V.int e, kV y])) c = some (.tup xs) → (upd (upd H4 t2 (.tup [V.int e, kV y])) L (.lst (qs.map V.ref ++ [V.ref t2]))) c = some (.tup xs) := fun c xs e => by
          rw [aK (fun z => by subst z; rw [hL4] at e; cases e)]; exact e
        have kp2 : ∀ (c : Addr) (xs : List V), H2 c = some (.tup xs) → (upd (upd H4 t2 (.tup [V.int e, kV y])) L (.lst (qs.map V.ref ++ [V.ref t2]))) c = some (.tup xs) := fun c xs e => kp c xs (S3 _ _ (kt34.tup _ _ e))
        refine ixT (j := j) (kp2 _ _ hxs) hj3 gj ?_
        have ml : qs.map V.ref ++ [V.ref t2] = (qs ++ [t2]).map V.ref := by simp
        refine ⟨pn, vn, pre ++ [(e, pa)], e + 1, g4, qs ++ [t2], ms ++ [(e, y)], c + 2 * forks pa + 1, _, _, tlt, rfl, own, wn.keepT kp2 (bq pn), by rw [am, ml], rj (kG kp2 ps) (kp _ _ am), fun h he => ?_, fun z o ez nd => ?_, ?_, (sub.trans sub3).trans sub4, cc⟩
        · rw [List.map_append, ← hms h ((he.of sub4).of sub3), ey h he]; rfl
        · have hz : z ≠ L := fun q => by subst q; rw [hLn] at ez; cases ez
          rw [aK hz]; exact S3 _ _ (kt34 _ _ (kt _ _ ez nd) nd)
        · refine (sp4.same (by omega) S3).keep (Nat.le_refl _) fun z o ez nl _ => ?_
          rw [aK (fun q => by subst q; rw [hL4] at ez; cases ez; exact nl _ rfl)]; exact ez
      by_cases hb : k / 2 ^ (b - e - 1).toNat % 2 = 0
      · exact turn _ vr vl pr pl 4 3 _ (by omega) (by omega) ⟨_, rfl, rfl, ha, rfl⟩ wr wl okr (by omega) (by omega) (by omega) (ow.left hx hb) (by omega)
      · exact turn _ vl vr pl pr 3 4 _ (by omega) (by omega) ⟨_, rfl, rfl, ha, rfl⟩ wl wr okl (by omega) (by omega) (by omega) (ow.right hx hb) (by omega)
    · rw [if_neg (by rw [decide_eq_false hx]; decide)]
      refine stop fun e' x' l' r' z => ?_
      cases z
      exact hx
end Rs
namespace Rs
open PySem PySem.Spec PyProof.Rows L2
def mG (h : List Key → Key) : Prop := ∀ k, okT k = true → lu k (h k)
theorem je {h : List Key → Key} (hh : mG h) {b lo hi : Int} (b60 : b ≤ 60) : ∀ {p : au} {d g : Int}, aM b lo hi d g p → 0 ≤ d → szP p ≤ 100000 → (bI p = false → okT (aO h p) = true ∧ szT (aO h p) + 62 ≤ szP p) ∧ okP (aR h p) = true ∧ szK (aR h p) ≤ szP p := by
  intro p
  have own : ∀ {q : au}, bI q = false → szP q ≤ 100000 → okT (aO h q) = true → szT (aO h q) + 62 ≤ szP q → (bI q = false → okT (aO h q) = true ∧ szT (aO h q) + 62 ≤ szP q) ∧ okP (aR h q) = true ∧ szK (aR h q) ≤ szP q := fun {q} hc hz ok hs => by
    have s := iV (hh _ ok) (by omega)
    refine ⟨fun _ => ⟨ok, hs⟩, ?_⟩
    rw [dw h hc]
    exact ⟨s.1, by have := s.2; omega⟩
  induction p with
  | cut m =>
    intro d g ok _ _
    exact ⟨fun z => (by cases z), ko ok.2.1 ok.2.2.1, ok.2.2.2⟩
  | bare =>
    intro d g ok _ hz
    exact own rfl hz fU.1 (by show szT [.inr "bare"] + 62 ≤ 128; rw [fU.2]; decide)
  | leaf k z =>
    intro d g ok _ hz
    have q := ls (k := k) (z := z) ok.2.1 (by have := ok.2.2.1; have := p10 b60; omega) ok.2.2.2.1 ok.2.2.2.2.1
    exact own rfl hz q.1 (by show _ ≤ 312; have := q.2; show szT [.inr "leaf", .inl k, .inr z] + 62 ≤ 312; omega)
  | fork e x l r hl hr =>
    intro d g ok d0 hz
    obtain ⟨_, hd, he, x0, x1, _, okl, okr⟩ := ok
    have hz : 252 + szP l + szP r ≤ 100000 := hz
    obtain ⟨_, l1, l2⟩ := hl okl (by omega) (by omega)
    obtain ⟨_, r1, r2⟩ := hr okr (by omega) (by omega)
    have e60 := p10 (b := e) (by omega)
    have p60 : (60 : Int) < 10 ^ 60 := by decide +kernel
    refine own rfl hz (sm jc.1 (lm (by omega) (by omega)) (lm x0 (by omega)) l1 r1 rfl) ?_
    show ([szK (.inr "fork"), 62, 62, szK (aR h l), szK (aR h r)] : List Nat).sum + 62 ≤ 252 + szP l + szP r
    rw [iU.1]; simp; omega
theorem si (d : Int) (x : Dat) : ∀ xs : List Dat, dQ d (x :: xs) = dQ (eu x + 1) xs
 | [] => rfl
 | y :: r => by unfold dQ; rw [List.getLast?_cons_cons, List.getLast?_cons]
theorem qh : bY "leaf" (.str "leaf") = true ∧ bY "fork" (.str "fork") = true := by decide +kernel
theorem vH {h : List Key → Key} (hh : mG h) {b lo hi k : Int} (b60 : b ≤ 60) (l : lo ≤ k) (u : k ≤ hi) : ∀ {p : au} {d : Int}, aM b lo hi d (aw b k d) p → 0 ≤ d → szP p ≤ 100000 →
    bu b d ((bp h b k p).map stD) = true ∧ (∀ s ∈ bp h b k p, okP s.2 = true) ∧ okT (cu h b k p) = true ∧ szT (cu h b k p) + szS (bp h b k p) + 62 ≤ szP p ∧ eN b k (dQ d ((bp h b k p).map stD)) (.tup ((cu h b k p).map bc)) = true := by
  intro p
  induction p with
  | cut m => intro d ok; have := gI ok l u; cases this
  | bare =>
    intro d ok d0 hz
    have o := (je hh b60 ok d0 hz).1 rfl
    refine ⟨rfl, fun _ z => (by cases z), o.1, by have := o.2; show szT (aO h .bare) + 0 + 62 ≤ _; omega, ?_⟩
    show (if jd (.tup [.str "bare"]) then decide (d = 0) else _) = true
    rw [if_pos (by decide +kernel), decide_eq_true ok.2]
  | leaf j z =>
    intro d ok d0 hz
    have o := (je hh b60 ok d0 hz).1 rfl
    refine ⟨rfl, fun _ z => (by cases z), o.1, by have := o.2; show szT (aO h (.leaf j z)) + 0 + 62 ≤ _; omega, ?_⟩
    show ((bY "leaf" (.str "leaf") && decide (0 ≤ j ∧ j < 2 ^ b.toNat) && decide (z.length ≤ 60) && decide (aw b j d = aw b k d)) || _) = true
    rw [qh.1, decide_eq_true ⟨ok.2.1, ok.2.2.1⟩, decide_eq_true ok.2.2.2.1, decide_eq_true ok.2.2.2.2.2]; rfl
  | fork e x pl pr hl hr =>
    intro d ok d0 hz
    have m := je hh b60 ok d0 hz
    obtain ⟨_, hd, he, x0, x1, hg, okl, okr⟩ := ok
    have hz : 252 + szP pl + szP pr ≤ 100000 := hz
    have ml := (je hh b60 okl (by omega) (by omega)).2
    have mr := (je hh b60 okr (by omega) (by omega)).2
    have sn := cS (b := b) (k := k) (e := e) he
    have one : ∀ (q o : au), aM b lo hi (e + 1) (aw b k (e + 1)) q → okP (aR h o) = true → szK (aR h o) + szP q ≤ szP pl + szP pr → szP q ≤ 100000 → (bu b (e + 1) ((bp h b k q).map stD) = true ∧ (∀ s ∈ bp h b k q, okP s.2 = true) ∧ okT (cu h b k q) = true ∧ szT (cu h b k q) + szS (bp h b k q) + 62 ≤ szP q ∧ eN b k (dQ (e + 1) ((bp h b k q).map stD)) (.tup ((cu h b k q).map bc)) = true) →
        bu b d (((e, aR h o) :: bp h b k q).map stD) = true ∧ (∀ s ∈ ((e, aR h o) :: bp h b k q), okP s.2 = true) ∧ okT (cu h b k q) = true ∧ szT (cu h b k q) + szS ((e, aR h o) :: bp h b k q) + 62 ≤ 252 + szP pl + szP pr ∧ eN b k (dQ d (((e, aR h o) :: bp h b k q).map stD)) (.tup ((cu h b k q).map bc)) = true := by
      rintro q o okq oo so hq ⟨i1, i2, i3, i4, i5⟩
      refine ⟨?_, ?_, i3, ?_, ?_⟩
      · show (decide (d ≤ e ∧ e < b) && bX (bc (aR h o)) && bu b (e + 1) ((bp h b k q).map stD)) = true
        rw [decide_eq_true ⟨hd, he⟩, (gK oo).2, i1]; rfl
      · intro s hs
        rcases List.mem_cons.mp hs with z | z
        · rw [z]; exact oo
        · exact i2 s z
      · show _ + (szK (aR h o) + 252 + szS (bp h b k q)) + 62 ≤ _
        omega
      · rw [List.map_cons, si]; exact i5
    unfold cu bp bC
    by_cases hx : aw b k e = x
    · rw [if_pos hx]
      by_cases ht : k / 2 ^ (b - e - 1).toNat % 2 = 0
      · rw [if_pos ht]
        have ok' : aM b lo hi (e + 1) (aw b k (e + 1)) pl := by rw [sn, hx, ht, Int.add_zero]; exact okl
        exact one pl pr ok' mr.1 (by omega) (by omega) (hl ok' (by omega) (by omega))
      · rw [if_neg ht]
        have h1 : k / 2 ^ (b - e - 1).toNat % 2 = 1 := by omega
        have ok' : aM b lo hi (e + 1) (aw b k (e + 1)) pr := by rw [sn, hx, h1]; exact okr
        exact one pr pl ok' ml.1 (by omega) (by omega) (hr ok' (by omega) (by omega))
    · rw [if_neg hx]
      have o := m.1 rfl
      refine ⟨rfl, fun _ z => (by cases z), o.1, by have := o.2; show szT (aO h (.fork e x pl pr)) + 0 + 62 ≤ _; omega, ?_⟩
      show (false || ((bY "fork" (.str "fork") && decide (d ≤ e ∧ e < b) && decide (0 ≤ x ∧ x < 2 ^ e.toNat) && decide (x / 2 ^ (e - d).toNat = aw b k d)) && (!decide (x = aw b k e) && bX (bc (aR h pl)) && bX (bc (aR h pr))))) = true
      rw [qh.2, decide_eq_true ⟨hd, he⟩, decide_eq_true ⟨x0, x1⟩, decide_eq_true hg, decide_eq_false (fun z => hx z.symm), (gK ml.1).2, (gK mr.1).2]; rfl
theorem vZ (h : List Key → Key) (k : Int) (p : au) : kA k (aO h p) = AF k .non p := by
 cases p with
 | leaf j z => show (if ("leaf" : Str) = "leaf" ∧ j = k then V.str z else .non) = if j = k then .str z else .non; simp
 | _ => rfl
end Rs
namespace Rs
open PySem PySem.Spec PyProof.Rows L2
theorem sT {b d g : Int} (d0 : 0 ≤ d) (db : d ≤ b) (g0 : 0 ≤ g) (g1 : g < 2 ^ d.toNat) : bf b 0 (2 ^ b.toNat - 1) d g = true := by
 have W := ck (b - d).toNat
 have hp := jZ d0 db
 have h1 : (g + 1) * 2 ^ (b - d).toNat ≤ 2 ^ d.toNat * 2 ^ (b - d).toNat := Int.mul_le_mul_of_nonneg_right (by omega) (by omega)
 have h2 : (g + 1) * 2 ^ (b - d).toNat = g * 2 ^ (b - d).toNat + 2 ^ (b - d).toNat := by rw [Int.add_mul, Int.one_mul]
 have h3 : 0 ≤ g * 2 ^ (b - d).toNat := Int.mul_nonneg g0 (by omega)
 unfold bf
 rw [decide_eq_true (by omega), decide_eq_true (by omega)]; rfl
theorem jg {b d g : Int} {p : au} (ok : aM b 0 (2 ^ b.toNat - 1) d g p) (d0 : 0 ≤ d) (db : d ≤ b) (g0 : 0 ≤ g) (g1 : g < 2 ^ d.toNat) : bI p = false := by
 rw [kw ok, sT d0 db g0 g1]; rfl
theorem gw {h : List Key → Key} {b lo hi d g : Int} {p : au} (m : bf b lo hi d g = false) : cF h b lo hi d g p = .cut (aR h p) := by
 cases p <;> (unfold cF; rw [if_neg (by rw [m]; decide)])
theorem eP {h : List Key → Key} {b lo hi d g : Int} {p : au} (m : bf b lo hi d g = true) (hp : kQ p = false) : cF h b lo hi d g p = p := by
 cases p with
 | fork e x l r => cases hp
 | _ => unfold cF; rw [if_pos m]
theorem dq {h : List Key → Key} {b lo hi d g e x : Int} {l r : au} (m : bf b lo hi d g = true) : cF h b lo hi d g (.fork e x l r) = .fork e x (cF h b lo hi (e + 1) (2 * x) l) (cF h b lo hi (e + 1) (2 * x + 1) r) := by
 conv => lhs; unfold cF
 rw [if_pos m]
theorem gB (h : List Key → Key) (b lo hi : Int) : ∀ (p : au) (d g : Int), aR h (cF h b lo hi d g p) = aR h p := by
  intro p
  induction p with
  | fork e x l r hl hr =>
    intro d g
    cases m : bf b lo hi d g with
    | false => rw [gw m]; rfl
    | true => rw [dq m]; show h [_, _, _, _, _] = h [_, _, _, _, _]; rw [hl, hr]
  | _ =>
    intro d g
    cases m : bf b lo hi d g with
    | false => rw [gw m]; rfl
    | true => rw [eP m rfl]
theorem mM (h : List Key → Key) {b lo hi d g : Int} {p : au} (m : bf b lo hi d g = true) : aO h (cF h b lo hi d g p) = aO h p := by
 cases p with
 | fork e x l r => rw [dq m]; show ([_, _, _, _, _] : List Key) = [_, _, _, _, _]; rw [gB, gB]
 | _ => rw [eP m rfl]
theorem zI {h : List Key → Key} {b lo hi d g : Int} {p : au} (m : bf b lo hi d g = true) : bI (cF h b lo hi d g p) = bI p := by
 cases p with
 | fork e x l r => rw [dq m]; rfl
 | _ => rw [eP m rfl]
theorem nW (h : List Key → Key) (b lo hi : Int) : ∀ (p : au) (d g : Int), forks (cF h b lo hi d g p) ≤ forks p := by
  intro p
  induction p with
  | fork e x l r hl hr =>
    intro d g
    cases m : bf b lo hi d g with
    | false => rw [gw m]; exact Nat.zero_le _
    | true =>
      rw [dq m]
      have := hl (e + 1) (2 * x)
      have := hr (e + 1) (2 * x + 1)
      show forks _ + forks _ + 1 ≤ forks l + forks r + 1
      omega
  | _ =>
    intro d g
    cases m : bf b lo hi d g with
    | false => rw [gw m]; exact Nat.zero_le _
    | true => rw [eP m rfl]; exact Nat.le_refl _
theorem vh {h : List Key → Key} {b lo hi : Int} {t : List Key} : ∀ {p : au} {d g : Int}, t ∈ aJ h (cF h b lo hi d g p) → t ∈ aJ h p := by
  intro p
  induction p with
  | fork e x l r hl hr =>
    intro d g ht
    cases m : bf b lo hi d g with
    | false => rw [gw m] at ht; cases ht
    | true =>
      have o := mM h (p := .fork e x l r) m
      rw [dq m] at ht o
      rcases List.mem_append.mp ht with ht | ht
      · rcases List.mem_append.mp ht with ht | ht
        · exact List.mem_append_left _ (List.mem_append_left _ (hl ht))
        · exact List.mem_append_left _ (List.mem_append_right _ (hr ht))
      · rw [List.mem_singleton.mp ht]
        have : aO h (.fork e x l r) ∈ aJ h (.fork e x l r) := iX h rfl
        rw [← o] at this; exact this
  | _ =>
    intro d g ht
    cases m : bf b lo hi d g with
    | false => rw [gw m] at ht; cases ht
    | true => rw [eP m rfl] at ht; exact ht
theorem vL {h : List Key → Key} {b lo hi L U : Int} : ∀ {p : au} {d g : Int}, aM b L U d g p → (aC (cF h b lo hi d g p)).filter (inI lo hi) = (aC p).filter (inI lo hi) := by
  intro p
  have off : ∀ {p : au} {d g : Int}, aM b L U d g p → bf b lo hi d g = false → (aC p).filter (inI lo hi) = [] := fun {p d g} ok m => by
    rw [List.filter_eq_nil_iff]
    intro x hx hin
    have s := lW ok x hx
    have hin : (decide (lo ≤ x.1) && decide (x.1 ≤ hi)) = true := hin
    rw [Bool.and_eq_true, decide_eq_true_eq, decide_eq_true_eq] at hin
    have := fT (b := b) (d := d) hin.1 hin.2
    rw [s, m] at this; cases this
  induction p with
  | fork e x l r hl hr =>
    intro d g ok
    cases m : bf b lo hi d g with
    | false => rw [gw m, off ok m]; rfl
    | true =>
      obtain ⟨_, _, _, _, _, _, okl, okr⟩ := ok
      rw [dq m]
      show (aC _ ++ aC _).filter _ = (aC l ++ aC r).filter _
      rw [List.filter_append, List.filter_append, hl okl, hr okr]
  | _ =>
    intro d g ok
    cases m : bf b lo hi d g with
    | false => rw [gw m, off ok m]; rfl
    | true => rw [eP m rfl]
theorem zU {h : List Key → Key} {b lo hi k L U : Int} (l0 : lo ≤ k) (u0 : k ≤ hi) : ∀ {p : au} {d : Int}, aM b L U d (aw b k d) p → bp h b k (cF h b lo hi d (aw b k d) p) = bp h b k p ∧ cu h b k (cF h b lo hi d (aw b k d) p) = cu h b k p := by
  intro p
  induction p with
  | fork e x l r hl hr =>
    intro d ok
    have m := fT (b := b) (d := d) l0 u0
    have o := mM h (p := .fork e x l r) m
    obtain ⟨_, _, he, _, _, _, okl, okr⟩ := ok
    rw [dq m] at o ⊢
    by_cases hx : aw b k e = x
    · have sn := cS (b := b) (k := k) (e := e) he
      by_cases ht : k / 2 ^ (b - e - 1).toNat % 2 = 0
      · have s0 : aw b k (e + 1) = 2 * x := by rw [sn, hx, ht, Int.add_zero]
        have ih := hl (d := e + 1) (by rw [s0]; exact okl)
        rw [s0] at ih
        have w1 : ∀ A B : au, bC b k (.fork e x A B) = ((e, B) :: (bC b k A).1, (bC b k A).2) := fun A B => by conv => lhs; unfold bC; rw [if_pos hx, if_pos ht]
        unfold bp cu at ih ⊢
        rw [w1, w1]
        refine ⟨?_, ih.2⟩
        show (e, aR h _) :: _ = (e, aR h _) :: _
        rw [gB]
        exact congrArg _ ih.1
      · have h1 : k / 2 ^ (b - e - 1).toNat % 2 = 1 := by omega
        have s0 : aw b k (e + 1) = 2 * x + 1 := by rw [sn, hx, h1]
        have ih := hr (d := e + 1) (by rw [s0]; exact okr)
        rw [s0] at ih
        have w1 : ∀ A B : au, bC b k (.fork e x A B) = ((e, A) :: (bC b k B).1, (bC b k B).2) := fun A B => by conv => lhs; unfold bC; rw [if_pos hx, if_neg ht]
        unfold bp cu at ih ⊢
        rw [w1, w1]
        refine ⟨?_, ih.2⟩
        show (e, aR h _) :: _ = (e, aR h _) :: _
        rw [gB]
        exact congrArg _ ih.1
    · have w1 : ∀ A B : au, bC b k (.fork e x A B) = ([], .fork e x A B) := fun A B => by conv => lhs; unfold bC; rw [if_neg hx]
      unfold bp cu
      rw [w1, w1]
      exact ⟨rfl, o⟩
  | _ =>
    intro d ok
    rw [eP (fT (b := b) (d := d) l0 u0) rfl]
    exact ⟨rfl, rfl⟩
theorem jC (h : List Key → Key) (b k : Int) : ∀ (R : List (Int × Key)) (e : List Key) (s : Int × Key), cQ h b k e (R ++ [s]) = cQ h b k e R ++ [cN b k s.1 s.2 (h (eK h b k e R))]
 | [], e, s => rfl
 | t :: R, e, s => by show e :: cQ h b k _ (R ++ [s]) = e :: (cQ h b k _ R ++ _); rw [jC h b k R]; rfl
theorem jF (h : List Key → Key) {b lo hi k e x : Int} {l r : au} {d : Int} (l0 : lo ≤ k) (u0 : k ≤ hi) (ok : aM b lo hi d (aw b k d) (.fork e x l r)) : (aw b k (e + 1) = 2 * x → dU h b k (.fork e x l r) = dU h b k l ++ [aO h (.fork e x l r)]) ∧ (aw b k (e + 1) = 2 * x + 1 → dU h b k (.fork e x l r) = dU h b k r ++ [aO h (.fork e x l r)]) ∧ (aw b k e ≠ x → dU h b k (.fork e x l r) = [aO h (.fork e x l r)]) := by
 have wl := pK h l0 u0 ok
 obtain ⟨_, _, he, _, _, _, okl, okr⟩ := ok
 have sn := cS (b := b) (k := k) (e := e) he
 have bit : k / 2 ^ (b - e - 1).toNat % 2 = 0 ∨ k / 2 ^ (b - e - 1).toNat % 2 = 1 := by omega
 refine ⟨fun s0 => ?_, fun s0 => ?_, fun hx => ?_⟩
 · have hx : aw b k e = x := by omega
   have ht : k / 2 ^ (b - e - 1).toNat % 2 = 0 := by omega
   have w1 : bC b k (.fork e x l r) = ((e, r) :: (bC b k l).1, (bC b k l).2) := by conv => lhs; unfold bC; rw [if_pos hx, if_pos ht]
   have es : bp h b k (.fork e x l r) = (e, aR h r) :: bp h b k l := by unfold bp; rw [w1]; rfl
   have ee : cu h b k (.fork e x l r) = cu h b k l := by unfold cu; rw [w1]
   unfold dU
   rw [es, ee, List.reverse_cons, gu] at wl
   rw [es, ee, List.reverse_cons, jC, wl]
 · have hx : aw b k e = x := by omega
   have ht : ¬ k / 2 ^ (b - e - 1).toNat % 2 = 0 := by omega
   have w1 : bC b k (.fork e x l r) = ((e, l) :: (bC b k r).1, (bC b k r).2) := by conv => lhs; unfold bC; rw [if_pos hx, if_neg ht]
   have es : bp h b k (.fork e x l r) = (e, aR h l) :: bp h b k r := by unfold bp; rw [w1]; rfl
   have ee : cu h b k (.fork e x l r) = cu h b k r := by unfold cu; rw [w1]
   unfold dU
   rw [es, ee, List.reverse_cons, gu] at wl
   rw [es, ee, List.reverse_cons, jC, wl]
 · have w1 : bC b k (.fork e x l r) = ([], .fork e x l r) := by conv => lhs; unfold bC; rw [if_neg hx]
   unfold dU bp cu
   rw [w1]; rfl
theorem tV {h : List Key → Key} {b lo hi k : Int} (l0 : lo ≤ k) (u0 : k ≤ hi) {t : List Key} : ∀ {p : au} {d : Int}, aM b lo hi d (aw b k d) p → t ∈ dU h b k p → t ∈ aJ h p := by
  intro p
  induction p with
  | fork e x l r hl hr =>
    intro d ok ht
    obtain ⟨c1, c2, c3⟩ := jF h l0 u0 ok
    have own := iX h (p := .fork e x l r) rfl
    obtain ⟨_, _, he, _, _, _, okl, okr⟩ := ok
    have sn := cS (b := b) (k := k) (e := e) he
    by_cases hx : aw b k e = x
    · have bit : k / 2 ^ (b - e - 1).toNat % 2 = 0 ∨ k / 2 ^ (b - e - 1).toNat % 2 = 1 := by omega
      rcases bit with z | z
      · have s0 : aw b k (e + 1) = 2 * x := by omega
        rw [c1 s0] at ht
        rcases List.mem_append.mp ht with ht | ht
        · exact List.mem_append_left _ (List.mem_append_left _ (hl (d := e + 1) (by rw [s0]; exact okl) ht))
        · rw [List.mem_singleton.mp ht]; exact own
      · have s0 : aw b k (e + 1) = 2 * x + 1 := by omega
        rw [c2 s0] at ht
        rcases List.mem_append.mp ht with ht | ht
        · exact List.mem_append_left _ (List.mem_append_right _ (hr (d := e + 1) (by rw [s0]; exact okr) ht))
        · rw [List.mem_singleton.mp ht]; exact own
    · rw [c3 hx] at ht
      rw [List.mem_singleton.mp ht]; exact own
  | cut m => intro d ok; have := gI ok l0 u0; cases this
  | bare => intro d ok ht; exact ht
  | leaf j z => intro d ok ht; exact ht
theorem zT {h : List Key → Key} {b lo hi k d : Int} {p : au} (l0 : lo ≤ k) (u0 : k ≤ hi) (ok : aM b lo hi d (aw b k d) p) : aO h p ∈ dU h b k p := by
  cases p with
  | fork e x l r =>
    obtain ⟨c1, c2, c3⟩ := jF h l0 u0 ok
    obtain ⟨_, _, he, _, _, _, okl, okr⟩ := ok
    have sn := cS (b := b) (k := k) (e := e) he
    by_cases hx : aw b k e = x
    · have bit : k / 2 ^ (b - e - 1).toNat % 2 = 0 ∨ k / 2 ^ (b - e - 1).toNat % 2 = 1 := by omega
      rcases bit with z | z
      · rw [c1 (by omega)]; exact List.mem_append_right _ List.mem_cons_self
      · rw [c2 (by omega)]; exact List.mem_append_right _ List.mem_cons_self
    · rw [c3 hx]; exact List.mem_cons_self
  | cut m => have := gI ok l0 u0; cases this
  | bare => exact List.mem_cons_self
  | leaf j z => exact List.mem_cons_self
end Rs
namespace Rs
open PySem PySem.Spec PyProof.Rows L2
theorem ib {b lo hi D G d g k : Int} {q : au} (w : mI b lo hi D G d g q) (D0 : 0 ≤ D) (hk : aw b k d = g) : aw b k D = G := by
 rw [← w.up, ← hk, gt w.le w.db]
theorem qA {h : List Key → Key} {b lo hi L U D G d g k : Int} {p q q' : au} {w : List Int} (wy : Way p D G w q d g) (o : aM b L U D G p) (D0 : 0 ≤ D) (Db : D ≤ b) (G0 : 0 ≤ G) (G1 : G < 2 ^ D.toNat) (l0 : lo ≤ k) (u0 : k ≤ hi) (hk : aw b k d = g) (hc : bI q' = false) : aO h q' ∈ aJ h (cF h b lo hi D G (bn p w q')) := by
  induction wy with
  | nil p d g =>
    rw [gn]
    have m : bf b lo hi d g = true := by rw [← hk]; exact fT l0 u0
    rw [← mM h m]
    exact iX h (by rw [zI m]; exact hc)
  | @left e x D G d g l r q w wy ih =>
    have sp := ib (Way.ok (.left wy) o D0 Db G0 G1) D0 hk
    obtain ⟨_, h1, he, x0, x1, hG, okl, okr⟩ := o
    obtain ⟨f1, f2, f3⟩ := cJ (e := e) (by omega) x0 x1
    rw [gh, dq (by rw [← sp]; exact fT l0 u0)]
    exact List.mem_append_left _ (List.mem_append_left _ (ih okl (by omega) (by omega) f1 f2 hk))
  | @right e x D G d g l r q w wy ih =>
    have sp := ib (Way.ok (.right wy) o D0 Db G0 G1) D0 hk
    obtain ⟨_, h1, he, x0, x1, hG, okl, okr⟩ := o
    obtain ⟨f1, f2, f3⟩ := cJ (e := e) (by omega) x0 x1
    rw [gk, dq (by rw [← sp]; exact fT l0 u0)]
    exact List.mem_append_left _ (List.mem_append_right _ (ih okr (by omega) (by omega) (by omega) f3 hk))
theorem qk {h : List Key → Key} {b lo hi D G d g k : Int} {p q q' : au} {w : List Int} (wy : Way p D G w q d g) (o : aM b lo hi D G p) (o' : aM b lo hi d g q') (D0 : 0 ≤ D) (Db : D ≤ b) (G0 : 0 ≤ G) (G1 : G < 2 ^ D.toNat) (l0 : lo ≤ k) (u0 : k ≤ hi) (hk : aw b k d = g) : aO h q' ∈ dU h b k (bn p w q') := by
  induction wy with
  | nil p d g => rw [gn]; exact zT l0 u0 (d := d) (by rw [hk]; exact o')
  | @left e x D G d g l r q w wy ih =>
    have sp := ib (Way.ok (.left wy) o D0 Db G0 G1) D0 hk
    have okw := (Way.left (D := D) (G := G) (r := r) wy).part o o'
    obtain ⟨_, h1, he, x0, x1, hG, okl, okr⟩ := o
    obtain ⟨f1, f2, f3⟩ := cJ (e := e) (by omega) x0 x1
    have s1 := ib (wy.ok okl (by omega) (by omega) f1 f2) (by omega) hk
    rw [gh] at okw ⊢
    rw [(jF h l0 u0 (d := D) (by rw [sp]; exact okw)).1 s1]
    exact List.mem_append_left _ (ih okl o' (by omega) (by omega) f1 f2 hk)
  | @right e x D G d g l r q w wy ih =>
    have sp := ib (Way.ok (.right wy) o D0 Db G0 G1) D0 hk
    have okw := (Way.right (D := D) (G := G) (l := l) wy).part o o'
    obtain ⟨_, h1, he, x0, x1, hG, okl, okr⟩ := o
    obtain ⟨f1, f2, f3⟩ := cJ (e := e) (by omega) x0 x1
    have s1 := ib (wy.ok okr (by omega) (by omega) (by omega) f3) (by omega) hk
    rw [gk] at okw ⊢
    rw [(jF h l0 u0 (d := D) (by rw [sp]; exact okw)).2.1 s1]
    exact List.mem_append_left _ (ih okr o' (by omega) (by omega) (by omega) f3 hk)
theorem ft (k : Int) : ∀ xs ys : List (Int × Str), bE k (xs ++ ys) = match bE k xs with | .non => bE k ys | v => v
  | [], ys => rfl
  | x :: r, ys => by
    show (if x.1 = k then V.str x.2 else bE k (r ++ ys)) = match (if x.1 = k then V.str x.2 else bE k r) with | .non => bE k ys | v => v
    by_cases h : x.1 = k
    · rw [if_pos h, if_pos h]
    · rw [if_neg h, if_neg h]; exact ft k r ys
theorem kX {k : Int} : ∀ {xs : List (Int × Str)}, (∀ x ∈ xs, x.1 ≠ k) → bE k xs = .non
  | [], _ => rfl
  | x :: r, h => by
    show (if x.1 = k then V.str x.2 else bE k r) = _
    rw [if_neg (h x List.mem_cons_self)]
    exact kX fun y hy => h y (List.mem_cons_of_mem _ hy)
theorem fG (k : Int) : ∀ xs : List (Int × Str), bE k xs = .non ∨ ∃ z, bE k xs = .str z
  | [] => .inl rfl
  | x :: r => by
    show (if x.1 = k then V.str x.2 else bE k r) = .non ∨ ∃ z, (if x.1 = k then V.str x.2 else bE k r) = .str z
    by_cases h : x.1 = k
    · rw [if_pos h]; exact .inr ⟨_, rfl⟩
    · rw [if_neg h]; exact fG k r
theorem fW {b lo hi d g k : Int} {p : au} (ok : aM b lo hi d g p) (hg : aw b k d ≠ g) : bE k (aC p) = .non := kX fun x hx e => hg (by rw [← e]; exact lW ok x hx)
theorem tE {b lo hi k : Int} : ∀ {p : au} {d : Int}, aM b lo hi d (aw b k d) p → bE k (aC p) = AF k .non (bC b k p).2 := by
  intro p
  induction p with
  | fork e x pl pr hl hr =>
    intro d ok
    obtain ⟨_, hd, he, _, _, _, okl, okr⟩ := ok
    have sn := cS (b := b) (k := k) (e := e) he
    have bit : k / 2 ^ (b - e - 1).toNat % 2 = 0 ∨ k / 2 ^ (b - e - 1).toNat % 2 = 1 := by omega
    show bE k (aC pl ++ aC pr) = _
    rw [ft]
    unfold bC
    by_cases hx : aw b k e = x
    · rw [if_pos hx]
      by_cases ht : k / 2 ^ (b - e - 1).toNat % 2 = 0
      · rw [if_pos ht]
        have s0 : aw b k (e + 1) = 2 * x := by omega
        have ih := hl (d := e + 1) (by rw [s0]; exact okl)
        rw [fW okr (by omega), ← ih]
        show _ = bE k (aC pl)
        rcases fG k (aC pl) with z | ⟨y, z⟩ <;> rw [z]
      · rw [if_neg ht]
        have s0 : aw b k (e + 1) = 2 * x + 1 := by omega
        rw [fW okl (by omega)]
        exact hr (d := e + 1) (by rw [s0]; exact okr)
    · rw [if_neg hx, fW okl (by omega), fW okr (by omega)]; rfl
  | leaf j z => intro d ok; rfl
  | cut m => intro d ok; rfl
  | bare => intro d ok; rfl
theorem sZ {b lo hi D G d g k : Int} {p q q1 q2 : au} {w : List Int} (wy : Way p D G w q d g) (o1 : aM b lo hi d g q1) (o2 : aM b lo hi d g q2) (hk : aw b k d ≠ g) : bE k (aC (bn p w q1)) = bE k (aC (bn p w q2)) := by
  induction wy with
  | nil p d g => rw [gn, gn, fW o1 hk, fW o2 hk]
  | @left e x D G d g l r q w wy ih =>
    rw [gh, gh]
    show bE k (aC _ ++ aC _) = bE k (aC _ ++ aC _)
    rw [ft, ft, ih o1 o2 hk]
  | @right e x D G d g l r q w wy ih =>
    rw [gk, gk]
    show bE k (aC _ ++ aC _) = bE k (aC _ ++ aC _)
    rw [ft, ft, ih o1 o2 hk]
theorem uI {hs : List Key → Key} (inj : ∀ x y, hs x = hs y → x = y) {k1 k2 : List Key} {T1 T2 : List (List Key)} (m1 : k1 ∈ T1) (m2 : k2 ∈ T2) (m3 : k2 ∉ T1) {u : Option (List Key × List Key)} (h : yC (hpF hs k1 k2) (T1 ++ T2) u) : u = some (k1, k2) := by
  have n12 : k1 ≠ k2 := fun z => m3 (z ▸ m1)
  obtain ⟨j0, hj0⟩ := List.getElem?_of_mem m1
  obtain ⟨i0, hi0⟩ := List.getElem?_of_mem m2
  have lj : j0 < T1.length := (List.getElem?_eq_some_iff.mp hj0).1
  have gj : (T1 ++ T2)[j0]? = some k1 := by rw [List.getElem?_append_left lj]; exact hj0
  have gi : (T1 ++ T2)[T1.length + i0]? = some k2 := by rw [List.getElem?_append_right (by omega)]; simpa using hi0
  have e12 : hpF hs k1 k2 k1 = hpF hs k1 k2 k2 := by rw [kM n12, sK]
  cases u with
  | none => exact (n12 (h _ _ _ _ (by omega) gj gi e12)).elim
  | some u =>
    obtain ⟨j, i, ji, hj, hi, h3, h4, h5, _⟩ := h
    obtain ⟨a, c⟩ := u
    have hj : (T1 ++ T2)[j]? = some a := hj
    have hi : (T1 ++ T2)[i]? = some c := hi
    have h3 : a ≠ c := h3
    have h4 : hpF hs k1 k2 a = hpF hs k1 k2 c := h4
    by_cases hc : c = k2
    · subst hc
      rw [sK, kM h3] at h4
      rw [inj _ _ h4]
    · rw [kM hc] at h4
      by_cases ha : a = k2
      · subst ha
        have lj2 : T1.length ≤ j := by
          rcases Nat.lt_or_ge j T1.length with z | z
          · rw [List.getElem?_append_left z] at hj
            exact (m3 (List.mem_of_getElem? hj)).elim
          · exact z
        exact (n12 (h5 j0 j _ _ (by omega) ji gj hj e12)).elim
      · rw [kM ha] at h4
        exact (h3 (inj _ _ h4)).elim
end Rs
namespace Rs
open PySem PySem.Spec PyProof.Rows L2
variable {K : W.Frag} {mg : Str → Option Value} {A : Adr}
theorem fZ {b : Int} (b1 : 1 ≤ b) (b60 : b ≤ 60) : dS b 0 (2 ^ b.toNat - 1) := by
 have := ck b.toNat
 exact ⟨b1, b60, by decide, by omega, by omega⟩
theorem FT (K : W.Frag) (A : Adr) (n : Nat) : Ln (lw K A n) 6 := by rintro vs H Q E ⟨_, _, _, _, _, _, _, _, _, _, _, rfl, _⟩; rfl
theorem Ak (K : W.Frag) (A : Adr) : ∀ vs H Q E, lw K A 0 vs H Q E → False := by rintro vs H Q E ⟨_, _, _, _, _, _, _, _, _, _, _, _, _, _, _, h, _⟩; omega
theorem HS (T : Txt K mg A) (n : Nat) : Rd (lw K A (n + 1)) (T_3 K A n) ["_law_stamper", "_law_bits_here", "_law_ends", "_law_depth", "_law_begin_here", "_law_part_here", "_law_left", "_law_right"] := by
  intro vs H Q E h
  obtain ⟨f, t, b, lo, hi, d, g, v, p, s, m, rfl, ht, en, w, htl, hf, sp, hm, q⟩ := h
  have b1 := en.b1
  have b60 := en.b60
  have tl := di w.ok w.d1
  have d0 := w.d0
  refine ixT (j := 0) ht rfl rfl (ixT (j := 1) ht rfl rfl ⟨b, lo, hi, d, g, rfl, en, w.d0, w.d1, w.g0, w.g1, ?_⟩)
  cases mt : bf b lo hi d g with
  | false =>
    refine Sel.yes rfl ⟨f, v, p, s, m, rfl, ⟨w.w, ⟨b, _, _, d, g, fZ b1 b60, w.d0, w.d1, w.ok⟩, by omega⟩, by omega, sp, by omega, fun t1 L1 x ps ts g1 H1 kt1 sp1 sub1 nl1 ht1 hL1 pk1 e1 ox sx => ?_⟩
    refine ixT (j := 0) ht1 rfl rfl ⟨by show 2 ≤ sizeLine; decide, fun t2 h2 => ?_⟩
    have S := ay.upd (o := .tup [V.str "cut", kV x]) h2
    exact q (.ref t2) (.cut x) g1 _ (kt1.trans (aE.same S)) (sp1.same (Nat.le_refl _) S) sub1 (.tup am (.cons (.str _) (.cons (kc _ x) .nil))) (fun h he => by rw [gw mt, (e1 h he).2]) ⟨mt, (gK ox).2, (gK ox).1, sx⟩
  | true =>
    refine Sel.no rfl ?_
    obtain ⟨_, ⟨f1, f2, f3, f4⟩, _⟩ := fJ
    have same : kQ p = false → aM b lo hi d g p → Q v H := fun hk ok => q v p s H aE.rfl' (sp.same (by omega) (.refl H)) Sub.rfl' w.w (fun h _ => (eP mt hk).symm) ok
    have ok0 := w.ok
    cases p with
    | cut c => have := jg ok0 w.d0 w.d1 w.g0 w.g1; cases this
    | bare =>
      obtain ⟨a, rfl, ha⟩ := fu w.w
      exact ixT (j := 0) ha rfl rfl (Sel.yes (by rw [f2]; rfl) (same rfl ⟨mt, ok0.2⟩))
    | leaf k z =>
      obtain ⟨a, rfl, ha⟩ := eZ w.w
      exact ixT (j := 0) ha rfl rfl (Sel.yes (by rw [f3]; rfl) (same rfl ⟨mt, ok0.2⟩))
    | fork e x l r =>
      obtain ⟨a, vl, vr, rfl, ha, wl, wr⟩ := cY w.w
      obtain ⟨_, h1, he, x0, x1, hg, okl, okr⟩ := ok0
      have htl' : max (aU l) (aU r) + 1 < n + 1 := htl
      have hf' : forks l + forks r + 1 ≤ 60 := hf
      have hm' : m + (bK l + bK r + 1) ≤ 40000 := hm
      refine ixT (j := 0) ha rfl rfl (Sel.no (by rw [f4]; rfl) ?_)
      refine ixT (j := 1) ha rfl rfl (ixT (j := 2) ha rfl rfl ⟨IntMulOk.of_left (by decide), ixT (j := 3) ha rfl rfl ⟨f, t, b, lo, hi, e + 1, 2 * x, vl, l, s, m, rfl, ht, en, w.left wl, by omega, by omega, sp, by omega, fun y1 c1 s1 H1 kt1 sp1 sub1 w1 e1 ok1 => ?_⟩⟩)
      have ha1 := kt1.tup _ _ ha
      have wR : eI H1 (.ref a) b 0 (2 ^ b.toNat - 1) d g (.fork e x l r) := ⟨w.w.keepT kt1.tup (bq _), w.ok, w.d0, w.d1, w.g0, w.g1⟩
      refine ixT (j := 1) ha1 rfl rfl (ixT (j := 2) ha1 rfl rfl ⟨IntMulOk.of_left (by decide), ixT (j := 4) ha1 rfl rfl ⟨f, t, b, lo, hi, e + 1, 2 * x + 1, vr, r, s1, m + bK l, rfl, kt1.tup _ _ ht, en, wR.right (wr.keepT kt1.tup (bq _)), by omega, by omega, sp1, by omega, fun y2 c2 s2 H2 kt2 sp2 sub2 w2 e2 ok2 => ?_⟩⟩)
      have ha2 := kt2.tup _ _ ha1
      refine ixT (j := 1) ha2 rfl rfl (ixT (j := 2) ha2 rfl rfl ⟨by show 5 ≤ sizeLine; decide, fun t5 h5 => ?_⟩)
      have S := ay.upd (o := .tup [V.str "fork", .int e, .int x, y1, y2]) h5
      refine q (.ref t5) (.fork e x c1 c2) s2 _ ((kt1.trans kt2).trans (aE.same S)) (sp2.same (by show _ ≤ m + (bK l + bK r + 1); omega) S) (sub1.trans sub2) (.tup am (.cons (.str _) (.cons (.int _) (.cons (.int _) (.cons ((w1.keepT kt2.tup (bq _)).mono S) (.cons (w2.mono S) .nil)))))) (fun h he => ?_) ⟨mt, h1, he, x0, x1, hg, ok1, ok2⟩
      rw [dq mt, ← e1 h (he.of sub2), ← e2 h he]
theorem AQ (K : W.Frag) (A : Adr) : Ln (iJ K A) 2 := by rintro vs H Q E ⟨_, _, _, rfl, _⟩; rfl
theorem Fj (T : Txt K mg A) : Rd (iJ K A) (Iu K A) ["_law_tree", "_law_key_here", "_law_other", "_law_told"] := by
 intro vs H Q E h
 obtain ⟨v, k, p, rfl, w, ht, hf, q⟩ := h
 refine ⟨v, p, rfl, w, by omega, hf, fun M rs H1 S1 hMn hM pr => ⟨M, rfl, .inl ⟨⟨_, SqL.of hM⟩, ?_⟩⟩⟩
 have hlen : rs.length = (aC p).length := Paired.length pr
 refine jy (xs := rs.map V.ref) (fun i σ H' => H' = H1 ∧ ∃ x2 x3, σ = [some v, some (.int k), x2, x3] ∧ bE k (aC p) = bE k ((aC p).drop i)) ⟨rfl, none, none, rfl, rfl⟩ ?_ ?_ ?_
 · rintro i σ _ _ ⟨rfl, _⟩; exact SqL.of hM
 · rintro i z σ _ hz ⟨rfl, x2, x3, rfl, ef⟩
   have hi' : i < (aC p).length := by have := (List.getElem?_eq_some_iff.mp hz).1; simp at this; omega
   have hr : (aC p)[i]? = some ((aC p)[i]) := List.getElem?_eq_getElem hi'
   rw [List.drop_eq_getElem_cons hi'] at ef
   generalize (aC p)[i] = row at hr ef
   obtain ⟨r, hr2, hrow⟩ := qo pr hr
   rw [List.getElem?_map, hr2] at hz
   cases hz
   refine ⟨r, _, rfl, SqT.of hrow, rfl, .int row.1, [.str row.2], rfl, .str row.2, [], rfl, rfl, ?_⟩
   have ef : bE k (aC p) = if row.1 = k then .str row.2 else bE k ((aC p).drop (i + 1)) := ef
   refine Sel.dec (fun hb => ?_) (fun hb => ?_)
   · rw [if_pos hb] at ef
     have := q _ S1
     rw [ef] at this
     exact this
   · rw [if_neg hb] at ef
     exact ⟨rfl, _, _, rfl, ef⟩
 · rintro σ _ ⟨rfl, x2, x3, rfl, ef⟩
   rw [List.length_map, hlen, List.drop_length] at ef
   have := q _ S1
   rw [ef] at this
   exact this
theorem Ef (K : W.Frag) (A : Adr) : Ln (qd K A) 3 := by rintro vs H Q E ⟨_, _, _, _, _, rfl, _⟩; rfl
theorem Gr (T : Txt K mg A) : Rd (qd K A) (T_5 K A) ["_law_found", "_law_one", "_law_other"] := by
 intro vs H Q E h
 obtain ⟨v, p1, p2, k1, k2, rfl, ret, h1, h2, q⟩ := h
 obtain ⟨pr, pa, pb, rfl, hpr, hpa, hpb, oka, okb⟩ := ret
 have ty : tyN H (.ref pr) = some "tuple" := by unfold tyN; dsimp only; rw [hpr]
 refine ⟨by decide, "tuple", ty, Sel.no rfl (.inl (.inr (.inl ⟨_, SqT.of hpr, Sel.no rfl ?_⟩)))⟩
 refine ixT (j := 0) hpr rfl rfl ⟨pa, p1, k1, rfl, hpa, h1, (qU oka).2, Sel.t ?_⟩
 exact ixT (j := 1) hpr rfl rfl ⟨pb, p2, k2, rfl, hpb, h2, (qU okb).2, q⟩
theorem CJ (K : W.Frag) (A : Adr) : Ln (hZ K A) 3 := by rintro vs H Q E ⟨_, _, _, rfl, _⟩; rfl
theorem DF (T : Txt K mg A) : Rd (hZ K A) (GP K A) ["_law_bits_here", "_law_key_here", "_law_cell", "_law_other"] := by
 intro vs H Q E h
 obtain ⟨b, k, c, rfl, b1, b60, k0, k1, q⟩ := h
 have fin : ∀ (o : Int) (H2 : Hp), ay H H2 → 0 ≤ o → o < 2 ^ b.toNat → uj K A { nx := fun _ H' => Q .non H', rt := Q } [some (.int b), some (.int k), some (.int c), some (.int o)] H2 := fun o H2 S2 o0 o1 => by
  refine ⟨by show 2 ≤ sizeLine; decide, fun p hp => ?_⟩
  refine q p (if o < k then o else k) (if o > k then o else k) _ (S2.trans (ay.upd hp)) am ⟨b1, b60, ?_, ?_, ?_⟩ ?_ ?_ <;> (repeat' split) <;> omega
 refine ⟨by show 1 ≤ sizeLine; decide, fun o ho => ⟨b, c, o, [k], rfl, b1, b60, am, by show 1 ≤ 1; decide, fun x hx => by rw [List.mem_singleton.mp hx]; exact ⟨k0, k1⟩, fun k2 H2 S2 h0 h1 => ?_⟩⟩
 have S := (ay.upd (o := .lst [V.int k]) ho).trans S2
 have P := ck b.toNat
 have step : ∀ o : Int, 0 ≤ o → o < 2 ^ b.toNat → Ag K A { nx := fun _ H' => Q .non H', rt := Q } [some (.int b), some (.int k), some (.int c), some (.int o)] H2 := fun o o0 o1 => by
  refine ⟨by decide, Sel.dec (fun _ => fin 0 H2 S (by decide) P) (fun _ => fin o H2 S o0 o1)⟩
 exact ⟨by decide, Sel.dec (fun _ => step k k0 k1) (fun _ => step k2 h0 h1)⟩
end Rs
namespace Rs
open PySem PySem.Spec PyProof.Rows L2
variable {K : W.Frag} {mg : Str → Option Value} {A : Adr}
theorem Stp.st {H : Hp} {f : Addr} {g : SG} {n : Nat} (s : Stp A H f g n) (hn : n ≤ 50000) : mG (dJ g) := fun k ok => by
  obtain ⟨d, g⟩ := g
  have one : ∀ kvs : List (List Key × Key), dC H d.a kvs n → ∀ k', lu k ((aX kvs k').getD (.inl 0)) := fun kvs h k' => by
    cases e : aX kvs k' with
    | none => exact (show (0 : Int) ≤ 0 ∧ (0 : Int) < 10 ^ 60 from ⟨by decide, by decide +kernel⟩)
    | some v =>
      have := h.hl
      obtain ⟨i, i0, i1, rfl⟩ := lx h.j0 h.j1 h.st (by omega) e
      exact ⟨i0, i1⟩
  cases s with
  | sur kvs h ef ep hg =>
    have hg : g = aX kvs := hg
    have : dJ ⟨d, g⟩ k = (aX kvs k).getD (.inl 0) := by unfold dJ SG.e eff; rw [hg, ep]
    rw [this]; exact one kvs h k
  | pla k1 k2 kvs h ep hg =>
    have hg : g = aX kvs := hg
    have : dJ ⟨d, g⟩ k = (aX kvs (if k = k2 then k1 else k)).getD (.inl 0) := by unfold dJ SG.e eff; rw [hg, ep]
    rw [this]; exact one kvs h.su _
theorem rE {h : List Key → Key} (hh : mG h) {b lo hi k : Int} {p : au} (en : dS b lo hi) (ok : aM b lo hi 0 0 p) (f : forks p ≤ 60) (l : lo ≤ k) (u : k ≤ hi) : gp b k (bp h b k p) (cu h b k p) := by
 have b1 := en.b1
 have lo0 := en.lo0
 have hi1 := en.hi1
 have sz := pY p
 have e : aw b k 0 = 0 := by unfold aw; rw [Int.sub_zero]; exact Int.ediv_eq_zero_of_lt (by omega) (by omega)
 obtain ⟨i1, i2, i3, i4, i5⟩ := vH hh en.b60 l u (p := p) (d := 0) (by rw [e]; exact ok) (by decide) (by omega)
 exact ⟨en.b1, en.b60, by omega, by omega, i1, i2, i3, i5, by omega⟩
theorem jb.keep {H H' : Hp} {v : V} {st : List (Int × Key)} {e : List Key} (h : jb H v st e) (kt : ∀ b xs, H b = some (.tup xs) → H' b = some (.tup xs)) : jb H' v st e := by
 refine aP.keepT h kt ?_
 show (tupDs (st.map stD) && (tupDs (e.map bc) && true)) = true
 rw [kn, lC]; rfl
theorem xh {b k : Int} {st : List (Int × Key)} {e : List Key} (g : gp b k st e) : okD (.tup [.tup (st.map stD), .tup (e.map bc)]) = true ∧ (cO (.tup [.tup (st.map stD), .tup (e.map bc)])).depth ≤ 150 := by
  have s1 : ∀ {st : List (Int × Key)}, (∀ s ∈ st, okP s.2 = true) → okDs (st.map stD) = true := fun {st} h => by
    induction st with
    | nil => rfl
    | cons s r ih =>
      show ((true && (okD (bc s.2) && true)) && okDs (r.map stD)) = true
      rw [(gK (h s List.mem_cons_self)).1, ih fun t ht => h t (List.mem_cons_of_mem _ ht)]; rfl
  have s2 : ∀ st : List (Int × Key), PyData.depthAll (toPys (st.map stD)) ≤ 1 := fun st => by
    induction st with
    | nil => decide
    | cons s r ih =>
      show max (max 0 (max (cO (bc s.2)).depth 0) + 1) (PyData.depthAll (toPys (r.map stD))) ≤ 1
      rw [nh]; omega
  refine ⟨?_, ?_⟩
  · show (okDs (st.map stD) && (okDs (e.map bc) && true)) = true
    rw [s1 g.so, jU (nA g.et)]; rfl
  · have := s2 st
    show max (PyData.depthAll (toPys (st.map stD)) + 1) (max (PyData.depthAll (toPys (e.map bc)) + 1) 0) + 1 ≤ 150
    rw [mY]; omega
theorem BG (K : W.Frag) (A : Adr) : Ln (jB K A) 6 := by rintro vs H Q E ⟨_, _, _, _, _, _, _, _, _, _, _, rfl, _⟩; rfl
theorem FF (T : Txt K mg A) : Rd (jB K A) (Ik K A) ["_law_stamper", "_law_bits_here", "_law_mark_here", "_law_ends", "_law_key_here", "_law_tree", "_law_paper_here", "_law_found", "_law_slip", "_law_terms"] := by
 intro vs H Q E h
 obtain ⟨f, t, b, lo, hi, k, v, p, x, s, n, rfl, ht, en, l0, u0, tw, sp, hn, hx, q⟩ := h
 have b1 := tw.b1
 have b60 := tw.b60
 have hf := tw.f
 have tl := di tw.ok (by omega)
 have mp := dF p
 have fe := fZ b1 b60
 have lo0 := en.lo0
 have hi1 := en.hi1
 have e0 : aw b k 0 = 0 := by unfold aw; rw [Int.sub_zero]; exact Int.ediv_eq_zero_of_lt (by omega) (by omega)
 have okk : aM b 0 (2 ^ b.toNat - 1) 0 (aw b k 0) p := by rw [e0]; exact tw.ok
 have kl : (0 : Int) ≤ k := by omega
 have ku : k ≤ 2 ^ b.toNat - 1 := by omega
 have full : ∀ {H' : Hp}, aP H' v (aV p) → eM H' v b 0 (2 ^ b.toNat - 1) p := fun {H'} w => ⟨fe, ⟨w, tw.ok, by decide, by omega, by decide, by decide⟩, by omega, by omega⟩
 refine ⟨f, t, b, lo, hi, 0, 0, v, p, s, n, rfl, ht, en, (full tw.w).w, by omega, hf, sp, by omega, fun y c s1 H1 kt1 sp1 sub1 wc ec okc => ?_⟩
 have fc : forks c ≤ 60 := by rw [ec _ (bv s1)]; exact Nat.le_trans (nW _ _ _ _ _ _ _) hf
 have tc := di okc (by omega)
 have pap : ∀ {H' : Hp}, aP H' y (aV c) → eM H' y b lo hi c := fun {H'} w => ⟨en, ⟨w, okc, by decide, by omega, by decide, by decide⟩, by omega, by omega⟩
 have ht1 := kt1.tup _ _ ht
 refine ixT (j := 0) ht1 rfl rfl (ixT (j := 1) ht1 rfl rfl ⟨f, b, lo, hi, y, c, s1, n + bK p, rfl, pap wc, sp1, by omega, fun x2 s2 H2 kt2 sp2 sub2 ex2 => ?_⟩)
 have exx : x2 = x := by
   obtain ⟨h, he, hh⟩ := hx s2 H2 _ sp2 (sub1.trans sub2)
   rw [ex2 h he, ec h (he.of sub2), gB, ← hh]
 subst exx
 refine jz (Sel.no rfl ?_)
 have hxp : ∀ h, Ext s2 h → x2 = aR h p := fun h he => by rw [ex2 h he, ec h (he.of sub2), gB]
 have k2 := kt1.trans kt2
 have ht2 := k2.tup _ _ ht
 refine ixT (j := 0) ht2 rfl rfl (ixT (j := 1) ht2 rfl rfl ⟨f, b, lo, hi, y, c, s2, _, x2, rfl, pap (wc.keepT kt2.tup (bq _)), sp2, by omega, ex2, fun M rs s3 H3 kt3 sp3 sub3 nlM hM prM => ?_⟩)
 have k3 := k2.trans kt3
 have ht3 := k3.tup _ _ ht
 refine ixT (j := 0) ht3 rfl rfl (ixT (j := 1) ht3 rfl rfl ⟨v, p, lo, hi, rfl, tw.w.keepT k3.tup (bq _), by omega, by omega, fun M2 rs2 H4 S4 nM2 hM2 pr2 => ?_⟩)
 rw [ec _ ((bv s2).of sub2), vL tw.ok] at prM
 have ll : ((aC p).filter (inI lo hi)).length ≤ 1000 := Nat.le_trans (List.length_filter_le _ _) (by have := fm p; omega)
 refine ⟨M, M2, rs, rs2, ((aC p).filter (inI lo hi)).map pL, rfl, S4 _ _ hM, hM2, uO (gC (fun c xs e => S4 _ _ e) prM), uO pr2, by rw [List.length_map]; exact ll, Sel.no rfl ?_⟩
 have k4 := k3.trans (aE.same S4)
 have sp4 := sp3.same (Nat.le_refl _) S4
 refine ⟨f, b, 0, 2 ^ b.toNat - 1, k, v, rfl, p, s3, _, full (tw.w.keepT k4.tup (bq _)), kl, ku, sp4, by omega, fun y5 st e s5 H5 kt5 sp5 sub5 sl5 e5 => ?_⟩
 have k5 := k4.trans kt5
 have good : gp b k st e := by
   have := rE (sp5.st (by omega)) fe tw.ok hf kl ku
   rw [← (e5 _ (bv s5)).1, ← (e5 _ (bv s5)).2] at this; exact this
 have gl := good.len
 have hx5 : ∀ h, Ext s5 h → x2 = h (eK h b k e st.reverse) := fun h he => by
   rw [(e5 h he).1, (e5 h he).2, pK h kl ku okk, ← dw h (full tw.w).nc]
   exact hxp h ((he.of sub5).of sub3)
 refine ⟨f, b, k, y5, st, e, s5, _, rfl, ⟨sl5, good⟩, sp5, by omega, fun x6 s6 H6 kt6 sp6 sub6 ex6 => ?_⟩
 have exx : x6 = x2 := by rw [ex6 _ (bv s6), hx5 _ ((bv s6).of sub6)]
 subst exx
 refine jz (Sel.no rfl ?_)
 have k6 := k5.trans kt6
 have ht6 := k6.tup _ _ ht
 have kc6 := (((kt2.trans kt3).trans (aE.same S4)).trans kt5).trans kt6
 refine ixT (j := 0) ht6 rfl rfl (ixT (j := 1) ht6 rfl rfl ⟨f, b, lo, hi, k, y, rfl, c, s6, _, pap (wc.keepT kc6.tup (bq _)), l0, u0, sp6, by omega, fun y7 st7 e7 s7 H7 kt7 sp7 sub7 sl7 e7' => ?_⟩)
 have E7 := e7' _ (bv s7)
 have sub27 : Sub s2 s7 := ((sub3.trans sub5).trans sub6).trans sub7
 have E5 := e5 _ (((bv s7).of sub7).of sub6)
 have cw := zU (h := dJ s7) (b := b) (lo := lo) (hi := hi) l0 u0 okk
 rw [e0] at cw
 rw [ec _ (((bv s7).of sub27).of sub2), cw.1, cw.2, ← E5.1, ← E5.2] at E7
 obtain ⟨rfl, rfl⟩ := E7
 have sl6 := (sl5.keep kt6.tup).keep kt7.tup
 obtain ⟨od, dd⟩ := xh good
 obtain ⟨a7, _, _, _, ea7, _⟩ := nC sl7
 obtain ⟨a5, _, _, _, ea5, _⟩ := nC sl6
 subst ea7 ea5
 refine ⟨_, _, aP.toV sl7 od, aP.toV sl6 od, iB od, iB od, dd, ?_⟩
 rw [wI, decide_eq_true ⟨rfl, rfl⟩]
 refine Sel.no rfl ?_
 have k7 := k6.trans kt7
 have hx7 : ∀ h, Ext s7 h → x6 = h (eK h b k e7 st7.reverse) := fun h he => hx5 h ((he.of sub7).of sub6)
 refine ⟨f, b, k, .ref a5, st7, e7, s7, _, x6, rfl, ⟨sl6, good⟩, sp7, by omega, hx7, fun s8 H8 kt8 sp8 sub8 => ?_⟩
 have k8 := k7.trans kt8
 refine ⟨v, k, p, rfl, tw.w.keepT k8.tup (bq _), by omega, by omega, fun H9 S9 => ?_⟩
 have ev : kA k e7 = bE k (aC p) := by rw [tE okk, E5.2]; exact vZ _ k _
 refine ⟨kA k e7, by rw [ev], by rw [ev]; exact fG k _, Sel.no rfl ?_⟩
 have k9 := k8.trans (aE.same S9)
 have ht9 := k9.tup _ _ ht
 have kc9 := ((kc6.trans kt7).trans kt8).trans (aE.same S9)
 have sp9 := sp8.same (Nat.le_refl _) S9
 refine ixT (j := 0) ht9 rfl rfl (ixT (j := 1) ht9 rfl rfl ⟨f, b, lo, hi, y, c, s8, _, rfl, pap (wc.keepT kc9.tup (bq _)), sp9, by omega, fun LA psA tsA sA HA ktA spA subA nlA hLA pkA eA => ?_⟩)
 have slA := ((sl6.keep kt8.tup).keep fun c xs e => S9 _ _ e).keep ktA.tup
 refine ⟨f, b, k, .ref a5, st7, e7, sA, _, rfl, ⟨slA, good⟩, spA, by omega, fun LB psB tsB sB HB ktB spB subB hBn hLB pkB eB => ?_⟩
 refine ⟨by show 2 ≤ sizeLine; decide, fun L hL => ?_⟩
 have S := ay.upd (o := .lst [V.ref LA, V.ref LB]) hL
 have kAB := ktB.trans (aE.same S)
 refine q L LA LB psA psB tsA tsB sB _ (k9.trans (ktA.trans kAB)) (spB.same (by omega) S) ((sub1.trans sub2).trans (sub27.trans (sub8.trans (subA.trans subB)))) am (kAB _ _ hLA fun _ z => nomatch z) (cy kAB.tup pkA) (S _ _ hLB) (cy (fun _ _ e => S _ _ e) pkB) fun h he => ⟨?_, ?_⟩
 · rw [eA h (he.of subB), ec h ((((he.of subB).of subA).of sub8).of sub27 |>.of sub2)]
 · rw [eB h he]
   have E := e5 h (((((he.of subB).of subA).of sub8).of sub7).of sub6)
   unfold dU
   rw [← E.1, ← E.2]
end Rs
namespace Rs
open PySem PySem.Spec PyProof.Rows L2
variable {K : W.Frag} {mg : Str → Option Value} {A : Adr}
theorem Stp.pl {H : Hp} {f : Addr} {a : SA} {k1 k2 : List Key} {g : SG} {n : Nat} (s : Stp A H f g n) (e : g.d = ⟨a, some (k1, k2)⟩) : ∃ kvs, g = ⟨⟨a, some (k1, k2)⟩, aX kvs⟩ ∧ iN H f a k1 k2 kvs n := by
  obtain ⟨d, g⟩ := g
  have e : d = ⟨a, some (k1, k2)⟩ := e
  subst e
  cases s with
  | sur kvs h ef ep hg => cases ep
  | pla x y kvs h ep hg =>
    cases ep
    have hg : g = aX kvs := hg
    exact ⟨kvs, by rw [hg], h⟩
theorem Stp.su {H : Hp} {f : Addr} {a : SA} {g : SG} {n : Nat} (s : Stp A H f g n) (e : g.d = ⟨a, none⟩) : ∃ kvs, g = ⟨⟨a, none⟩, aX kvs⟩ ∧ dC H a kvs n := by
  obtain ⟨d, g⟩ := g
  have e : d = ⟨a, none⟩ := e
  subst e
  cases s with
  | sur kvs h ef ep hg =>
    have hg : g = aX kvs := hg
    exact ⟨kvs, by rw [hg], h⟩
  | pla x y kvs h ep hg => cases ep
structure Two (b d g : Int) (p q r : au) (w : List Int) (kvs : List (List Key × Key)) (ts1 ts2 : List (List Key)) (k1 k2 : List Key) : Prop where
 b1 : 1 ≤ b
 b60 : b ≤ 60
 wy : ∃ q0, Way p 0 0 w q0 d g
 okp : aM b 0 (2 ^ b.toNat - 1) 0 0 p
 okq : aM b 0 (2 ^ b.toNat - 1) d g q
 okr : aM b 0 (2 ^ b.toNat - 1) d g r
 f1 : ∀ h, fV (aX kvs) h → ts1 = aJ h q ∧ k1 = aO h q
 f2 : ∀ h, fV (aX kvs) h → ts2 = aJ h r ∧ k2 = aO h r
 nin : q = r ∨ k2 ∉ ts1
 fs : forks (bn p w q) ≤ 60 ∧ forks (bn p w r) ≤ 60
section
variable {b d g : Int} {p q r : au} {w : List Int} {kvs : List (List Key × Key)} {ts1 ts2 : List (List Key)} {k1 k2 : List Key} {a : SA} {f : Addr}
theorem Two.wo (k : Two b d g p q r w kvs ts1 ts2 k1 k2) : 0 ≤ d ∧ d ≤ b ∧ 0 ≤ g ∧ g < 2 ^ d.toNat ∧ bI q = false ∧ bI r = false := by
 obtain ⟨q0, wy⟩ := k.wy
 have o := wy.ok k.okp (by decide) (by have := k.b1; omega) (by decide) (by decide)
 exact ⟨o.le, o.db, o.g0, o.g1, jg k.okq o.le o.db o.g0 o.g1, jg k.okr o.le o.db o.g0 o.g1⟩
theorem Two.pair (k : Two b d g p q r w kvs ts1 ts2 k1 k2) {kvs' : List (List Key × Key)} {j : Int} (s : cC (aX kvs) (aX kvs')) (st : gf j kvs') : lM b 0 (2 ^ b.toNat - 1) d g p q r w (hsF kvs') ∧ aO (hsF kvs') q = k1 ∧ aO (hsF kvs') r = k2 := by
 have e1 := k.f1 _ ((eC kvs').of s)
 have e2 := k.f2 _ ((eC kvs').of s)
 obtain ⟨_, _, _, _, cq, cr⟩ := k.wo
 exact ⟨⟨k.b60, k.b1, k.wy, k.okp, k.okq, k.okr, cq, cr, fun x y z => nz st z, k.nin.imp id fun n => by rw [← e2.2, ← e1.1]; exact n⟩, e1.2.symm, e2.2.symm⟩
theorem Two.mark (k : Two b d g p q r w kvs ts1 ts2 k1 k2) {g0 : SG} {x : Key} (s0 : cC (aX kvs) g0.g) (e0 : g0.d = ⟨a, some (k1, k2)⟩) (hx : ∀ h, Ext g0 h → x = aR h (bn p w q)) :
  ∀ (g1 : SG) (H1 : Hp) (n1 : Nat), Stp A H1 f g1 n1 → Sub g0 g1 → (∃ h, Ext g1 h ∧ x = aR h (bn p w q)) ∧ ∃ h, Ext g1 h ∧ x = aR h (bn p w r) := by
 intro g1 H1 n1 sp sub
 obtain ⟨kvs1, rfl, pla⟩ := sp.pl (by rw [← sub.1]; exact e0)
 have hp : Ext ⟨⟨a, some (k1, k2)⟩, aX kvs1⟩ (hpF (hsF kvs1) k1 k2) := mW (kvs := kvs1) (d := ⟨a, some (k1, k2)⟩) rfl
 have hm := hx _ (hp.of sub)
 obtain ⟨pr, o1, o2⟩ := k.pair (s0.trans sub.2) pla.su.st
 have := pr.marks
 rw [o1, o2] at this
 exact ⟨⟨_, hp, hm⟩, _, hp, by rw [hm, this]⟩
theorem Two.tree (k : Two b d g p q r w kvs ts1 ts2 k1 k2) {H : Hp} {v : V} : (aP H v (aV (bn p w q)) → jv H v b (bn p w q)) ∧ (aP H v (aV (bn p w r)) → jv H v b (bn p w r)) := by
 obtain ⟨q0, wy⟩ := k.wy
 exact ⟨fun h => ⟨k.b1, k.b60, h, wy.part k.okp k.okq, k.fs.1⟩, fun h => ⟨k.b1, k.b60, h, wy.part k.okp k.okr, k.fs.2⟩⟩
theorem Two.ins (k : Two b d g p q r w kvs ts1 ts2 k1 k2) {kvs' : List (List Key × Key)} {j : Int} (s : cC (aX kvs) (aX kvs')) (st : gf j kvs') {i : Int} (hk : aw b i d = g) (i0 : 0 ≤ i) (i1 : i < 2 ^ b.toNat) (ne : q ≠ r) {lo hi : Int} (l0 : lo ≤ i) (u0 : i ≤ hi) :
  ((k1 ∈ aJ (hpF (hsF kvs') k1 k2) (cF (hpF (hsF kvs') k1 k2) b lo hi 0 0 (bn p w q)) ∧ k2 ∉ aJ (hpF (hsF kvs') k1 k2) (cF (hpF (hsF kvs') k1 k2) b lo hi 0 0 (bn p w q))) ∧ k1 ∈ dU (hpF (hsF kvs') k1 k2) b i (bn p w q) ∧ k2 ∉ dU (hpF (hsF kvs') k1 k2) b i (bn p w q)) ∧
  k2 ∈ aJ (hpF (hsF kvs') k1 k2) (cF (hpF (hsF kvs') k1 k2) b lo hi 0 0 (bn p w r)) ∧ k2 ∈ dU (hpF (hsF kvs') k1 k2) b i (bn p w r) := by
 obtain ⟨pr, o1, o2⟩ := k.pair s st
 obtain ⟨⟨a1, a2, _⟩, c1, c2, _⟩ := pr.terms
 rw [o1, o2] at a1 a2 c1 c2
 obtain ⟨d0, db, g0, g1, cq, cr⟩ := k.wo
 obtain ⟨q0, wy⟩ := k.wy
 have b1 := k.b1
 have e0 : aw b i 0 = 0 := by unfold aw; rw [Int.sub_zero]; exact Int.ediv_eq_zero_of_lt i0 i1
 have nm := (k.nin.resolve_left ne)
 have e1 := k.f1 _ ((eC kvs').of s)
 have is : InS b d g k2 := by rw [← o2]; exact nr k.okr d0 db _ (iX _ cr)
 have out : k2 ∉ aJ (hpF (hsF kvs') k1 k2) (bn p w q) := wy.notin k.okp (by decide) (by omega) (by decide) (by decide) is (by rw [a1, ← e1.1]; exact nm)
 have okw := wy.part k.okp k.okq
 have m1 := qA (h := hpF (hsF kvs') k1 k2) (b := b) wy k.okp (by decide) (by omega) (by decide) (by decide) l0 u0 hk cq
 have m2 := qA (h := hpF (hsF kvs') k1 k2) (b := b) wy k.okp (by decide) (by omega) (by decide) (by decide) l0 u0 hk cr
 have m3 := qk (h := hpF (hsF kvs') k1 k2) (b := b) wy k.okp k.okq (by decide) (by omega) (by decide) (by decide) i0 (by omega) hk
 have m4 := qk (h := hpF (hsF kvs') k1 k2) (b := b) wy k.okp k.okr (by decide) (by omega) (by decide) (by decide) i0 (by omega) hk
 rw [a2] at m1 m3
 rw [c2] at m2 m4
 exact ⟨⟨⟨m1, fun z => out (vh z)⟩, m3, fun z => out (tV (hi := 2 ^ b.toNat - 1) i0 (by omega) (d := 0) (by rw [e0]; exact okw) z)⟩, m2, m4⟩
variable {Q : VK} {P L1 L2 pc1 pc2 E1 : Addr} {i m : Int} {v y z u1 u2 : V} {qs1 qs2 : List Addr} {x : Key}
structure iO (H : Hp) (s : SG) (b i lo hi : Int) (p : au) (L : Addr) (T1 T2 : Addr) (ps1 ps2 : List Addr) (ts1 ts2 : List (List Key)) : Prop where
 hL : H L = some (.lst [.ref T1, .ref T2])
 h1 : H T1 = some (.lst (ps1.map V.ref))
 k1 : PK H ps1 ts1
 h2 : H T2 = some (.lst (ps2.map V.ref))
 k2 : PK H ps2 ts2
 e : ∀ h, Ext s h → ts1 = aJ h (cF h b lo hi 0 0 p) ∧ ts2 = dU h b i p
theorem iO.keep {H H' : Hp} {s s' : SG} {b i lo hi : Int} {p : au} {L T1 T2 : Addr} {ps1 ps2 : List Addr} {ts1 ts2 : List (List Key)} (h : iO H s b i lo hi p L T1 T2 ps1 ps2 ts1 ts2) (k : aE H H') (sub : Sub s s') : iO H' s' b i lo hi p L T1 T2 ps1 ps2 ts1 ts2 :=
 ⟨k _ _ h.hL (fun _ z => nomatch z), k _ _ h.h1 (fun _ z => nomatch z), cy k.tup h.k1, k _ _ h.h2 (fun _ z => nomatch z), cy k.tup h.k2, fun g he => h.e g (he.of sub)⟩
theorem qV {h : List Key → Key} {b i : Int} {p : au} : (dU h b i p).length ≤ forks p + 1 := by
  have c : ∀ (R : List (Int × Key)) (e : List Key), (cQ h b i e R).length = R.length + 1 := fun R => by
    induction R with
    | nil => intro e; rfl
    | cons t R ih => intro e; show (cQ h b i _ R).length + 1 = _; rw [ih]; rfl
  have s : (bp h b i p).length ≤ forks p := by
    unfold bp
    rw [List.length_map]
    induction p with
    | fork e x l r hl hr =>
      unfold bC
      split
      · split
        · show (bC b i l).1.length + 1 ≤ forks l + forks r + 1; omega
        · show (bC b i r).1.length + 1 ≤ forks l + forks r + 1; omega
      · exact Nat.zero_le _
    | _ => exact Nat.zero_le _
  unfold dU
  rw [c, List.length_reverse]; omega
theorem md (k : Two b d g p q r w kvs ts1 ts2 k1 k2) {H : Hp} {s : SG} {n : Nat} {La Lb : Addr} {psa psb : List Addr} {tsa tsb : List (List Key)} {R : VK} (sp : Stp A H f s n) (e0 : s.d = ⟨a, some (k1, k2)⟩) (s0 : cC (aX kvs) s.g) (hn : n ≤ 30000)
  (hLa : H La = some (.lst (psa.map V.ref))) (pka : PK H psa tsa) (la : tsa.length ≤ 200) (hLb : H Lb = some (.lst (psb.map V.ref))) (pkb : PK H psb tsb) (lb : tsb.length ≤ 200)
  (fa : ∀ (kvs' : List (List Key × Key)) (j : Int), gf j kvs' → Sub s ⟨⟨a, some (k1, k2)⟩, aX kvs'⟩ → k1 ∈ tsa ∧ k2 ∉ tsa ∧ k2 ∈ tsb)
  (hR : ∀ (vf : V) (s' : SG) (H' : Hp), aE H H' → Stp A H' f s' (n + 400) → Sub s s' → pP H' (some (k1, k2)) vf → R vf H') :
  aS K (.ref La) (.ref Lb) H fun v H1 => kB K A [.ref f, v] H1 R (fun _ _ _ => False) := by
 refine .inl ⟨La, Lb, _, _, rfl, rfl, hLa, hLb, bo (by have h1 := fH pka; have h2 := fH pkb; simp; omega), fun rr hr => ?_⟩
 have S := ay.upd (o := .lst (psa.map V.ref ++ psb.map V.ref)) hr
 have spS : Stp A (upd H rr (.lst (psa.map V.ref ++ psb.map V.ref))) f s n := sp.same (Nat.le_refl _) S
 refine ⟨f, s.d, rr, psa ++ psb, tsa ++ tsb, s.g, n, rfl, spS, by rw [am, List.map_append], cy (fun _ _ z => S _ _ z) (pW pka pkb), by simp; omega, by omega, fun vf H' g' uu kb sp' sub' ret due => ?_⟩
 obtain ⟨kvs', e', pla'⟩ := Stp.pl (A := A) (g := ⟨s.d, g'⟩) sp' e0
 have eg : g' = aX kvs' := congrArg SG.g e'
 have hp : fV (eff s.d g') (hpF (hsF kvs') k1 k2) := by rw [e0, eg]; exact mW (kvs := kvs') (d := ⟨a, some (k1, k2)⟩) rfl
 have dd := due _ hp
 obtain ⟨m1, m3, m2⟩ := fa kvs' _ pla'.su.st ⟨e0, by rw [← eg]; exact sub'⟩
 have hu := uI (fun x y z => nz pla'.su.st z) m1 m2 m3 dd
 subst hu
 have ktA : aE H H' := (aE.same S).trans (kb.keepT (Classical.choose_spec (Stq.dict' spS)))
 have spf : Stp A H' f ⟨s.d, g'⟩ (n + (tsa ++ tsb).length) := sp'
 exact hR vf ⟨s.d, g'⟩ H' ktA (spf.keep (by rw [List.length_append]; omega) fun _ _ h _ _ => h) ⟨rfl, sub'⟩ ret
end
end Rs
namespace Rs
open PySem PySem.Spec PyProof.Rows L2
variable {K : W.Frag} {mg : Str → Option Value} {A : Adr}
section
variable {b d g : Int} {p q r : au} {w : List Int} {kvs : List (List Key × Key)} {ts1 ts2 : List (List Key)} {k1 k2 : List Key} {a : SA} {f : Addr}
variable {Q : VK} {P L1 L2 pc1 pc2 E1 O1 O2 A1 A2 B1 B2 : Addr} {i m lo hi lo' hi' : Int} {v y z u1 u2 : V} {qs1 qs2 pa1 pa2 pb1 pb2 : List Addr} {ta1 ta2 tb1 tb2 : List (List Key)} {x : Key}
theorem Ia {H : Hp} {s : SG} {n : Nat} (k : Two b d g p q r w kvs ts1 ts2 k1 k2) (sp : Stp A H f s n) (e0 : s.d = ⟨a, some (k1, k2)⟩) (s0 : cC (aX kvs) s.g) (hn : n ≤ 20000) (hk : aw b i d = g) (i0 : 0 ≤ i) (i1 : i < 2 ^ b.toNat) (ne : q ≠ r) (l0 : lo ≤ i) (u0 : i ≤ hi) (l0' : lo' ≤ i) (u0' : i ≤ hi')
   (sh1 : iO H s b i lo hi (bn p w q) O1 A1 A2 pa1 pa2 ta1 ta2) (sh2 : iO H s b i lo' hi' (bn p w r) O2 B1 B2 pb1 pb2 tb1 tb2) (hL1 : H L1 = some (.lst ((qs1 ++ [pc1]).map V.ref))) (hL2 : H L2 = some (.lst ((qs2 ++ [pc2]).map V.ref))) (h1 : H pc1 = some (.tup (k1.map kV))) (h2 : H pc2 = some (.tup (k2.map kV))) (hQ : ∀ H', aE H H' → Q (.bl true) H') :
   mO K A { nx := fun _ H' => Q .non H', rt := Q } [some (.int b), some v, some (.ref P), some y, some z, some (.int i), some (.ref E1), some (.int m), some (.ref a.f), some (.ref L1), some (.ref L2), some (.ref f), some u1, some u2, some (kV x), some (.ref O1), some (.ref O2), none, none] H := by
 obtain ⟨fs1, fs2⟩ := k.fs
 have big : ∀ {h : List Key → Key} {lo hi : Int} {c : au}, forks c ≤ 60 → (aJ h (cF h b lo hi 0 0 c)).length ≤ 200 := fun {h lo hi c} hc => by
   rw [gc]
   have h1 := dF (cF h b lo hi 0 0 c)
   have h2 := nW h b lo hi c 0 0
   omega
 have la1 : ta1.length ≤ 200 := by rw [(sh1.e _ (bv s)).1]; exact big fs1
 have la2 : ta2.length ≤ 200 := by rw [(sh1.e _ (bv s)).2]; exact Nat.le_trans qV (by omega)
 have lb1 : tb1.length ≤ 200 := by rw [(sh2.e _ (bv s)).1]; exact big fs2
 have lb2 : tb2.length ≤ 200 := by rw [(sh2.e _ (bv s)).2]; exact Nat.le_trans qV (by omega)
 have fa : ∀ (kvs' : List (List Key × Key)) (j : Int), gf j kvs' → Sub s ⟨⟨a, some (k1, k2)⟩, aX kvs'⟩ → ((k1 ∈ ta1 ∧ k2 ∉ ta1) ∧ k1 ∈ ta2 ∧ k2 ∉ ta2) ∧ k2 ∈ tb1 ∧ k2 ∈ tb2 := fun kvs' j st sub => by
   have hp : Ext ⟨⟨a, some (k1, k2)⟩, aX kvs'⟩ (hpF (hsF kvs') k1 k2) := mW (kvs := kvs') (d := ⟨a, some (k1, k2)⟩) rfl
   have ex := hp.of sub
   have s3 : cC (aX kvs) (aX kvs') := s0.trans sub.2
   have I1 := k.ins s3 st hk i0 i1 ne l0 u0
   have I2 := k.ins s3 st hk i0 i1 ne l0' u0'
   rw [(sh1.e _ ex).1, (sh1.e _ ex).2, (sh2.e _ ex).1, (sh2.e _ ex).2]
   exact ⟨I1.1, I2.2⟩
 refine ⟨4, rfl, by decide, by decide, ?_⟩
 refine iM (fun j σ H' => ∃ s' x17 x18, σ = [some (.int b), some v, some (.ref P), some y, some z, some (.int i), some (.ref E1), some (.int m), some (.ref a.f), some (.ref L1), some (.ref L2), some (.ref f), some u1, some u2, some (kV x), some (.ref O1), some (.ref O2), x17, x18] ∧ aE H H' ∧ Stp A H' f s' (n + 400 * j) ∧ Sub s s') ⟨s, none, none, rfl, aE.rfl', sp, Sub.rfl'⟩ ?_ ?_
 · rintro j σ H' hj ⟨s', x17, x18, rfl, kt, sp', sub'⟩
   have shA := sh1.keep kt sub'
   have shB := sh2.keep kt sub'
   have ed : s'.d = ⟨a, some (k1, k2)⟩ := by rw [← sub'.1]; exact e0
   have s0' := s0.trans sub'.2
   have hj4 : j < 4 := hj
   have fa' := fun (kvs' : List (List Key × Key)) (j : Int) (st : gf j kvs') (sb : Sub s' ⟨⟨a, some (k1, k2)⟩, aX kvs'⟩) => fa kvs' j st (sub'.trans sb)
   have cs : j = 0 ∨ j = 1 ∨ j = 2 ∨ j = 3 := by omega
   have hn' : n + 400 * j ≤ 30000 := by omega
   rcases cs with rfl | rfl | rfl | rfl
   · refine ⟨by decide, ixL (j := 0) shA.hL rfl rfl ⟨⟨by decide, by decide⟩, ixL (j := 0) shB.hL rfl rfl ?_⟩⟩
     refine md k sp' ed s0' hn' shA.h1 shA.k1 la1 shB.h1 shB.k1 lb1 (fun kvs' j st sb => ⟨(fa' kvs' j st sb).1.1.1, (fa' kvs' j st sb).1.1.2, (fa' kvs' j st sb).2.1⟩) fun vf s2 H2 kt2 sp2 sub2 ret => ?_
     have kt2' := kt.trans kt2
     exact cx (kt2' _ _ hL1 fun _ z => nomatch z) (cx (kt2' _ _ hL2 fun _ z => nomatch z) ⟨vf, pc1, pc2, k1, k2, rfl, ret, kt2'.tup _ _ h1, kt2'.tup _ _ h2, Sel.no rfl ⟨s2, _, _, rfl, kt2', sp2, sub'.trans sub2⟩⟩)
   · refine ⟨by decide, ixL (j := 1) shA.hL rfl rfl ⟨⟨by decide, by decide⟩, ixL (j := 0) shB.hL rfl rfl ?_⟩⟩
     refine md k sp' ed s0' hn' shA.h2 shA.k2 la2 shB.h1 shB.k1 lb1 (fun kvs' j st sb => ⟨(fa' kvs' j st sb).1.2.1, (fa' kvs' j st sb).1.2.2, (fa' kvs' j st sb).2.1⟩) fun vf s2 H2 kt2 sp2 sub2 ret => ?_
     have kt2' := kt.trans kt2
     exact cx (kt2' _ _ hL1 fun _ z => nomatch z) (cx (kt2' _ _ hL2 fun _ z => nomatch z) ⟨vf, pc1, pc2, k1, k2, rfl, ret, kt2'.tup _ _ h1, kt2'.tup _ _ h2, Sel.no rfl ⟨s2, _, _, rfl, kt2', sp2, sub'.trans sub2⟩⟩)
   · refine ⟨by decide, ixL (j := 0) shA.hL rfl rfl ⟨⟨by decide, by decide⟩, ixL (j := 1) shB.hL rfl rfl ?_⟩⟩
     refine md k sp' ed s0' hn' shA.h1 shA.k1 la1 shB.h2 shB.k2 lb2 (fun kvs' j st sb => ⟨(fa' kvs' j st sb).1.1.1, (fa' kvs' j st sb).1.1.2, (fa' kvs' j st sb).2.2⟩) fun vf s2 H2 kt2 sp2 sub2 ret => ?_
     have kt2' := kt.trans kt2
     exact cx (kt2' _ _ hL1 fun _ z => nomatch z) (cx (kt2' _ _ hL2 fun _ z => nomatch z) ⟨vf, pc1, pc2, k1, k2, rfl, ret, kt2'.tup _ _ h1, kt2'.tup _ _ h2, Sel.no rfl ⟨s2, _, _, rfl, kt2', sp2, sub'.trans sub2⟩⟩)
   · refine ⟨by decide, ixL (j := 1) shA.hL rfl rfl ⟨⟨by decide, by decide⟩, ixL (j := 1) shB.hL rfl rfl ?_⟩⟩
     refine md k sp' ed s0' hn' shA.h2 shA.k2 la2 shB.h2 shB.k2 lb2 (fun kvs' j st sb => ⟨(fa' kvs' j st sb).1.2.1, (fa' kvs' j st sb).1.2.2, (fa' kvs' j st sb).2.2⟩) fun vf s2 H2 kt2 sp2 sub2 ret => ?_
     have kt2' := kt.trans kt2
     exact cx (kt2' _ _ hL1 fun _ z => nomatch z) (cx (kt2' _ _ hL2 fun _ z => nomatch z) ⟨vf, pc1, pc2, k1, k2, rfl, ret, kt2'.tup _ _ h1, kt2'.tup _ _ h2, Sel.no rfl ⟨s2, _, _, rfl, kt2', sp2, sub'.trans sub2⟩⟩)
 · rintro σ H' ⟨s', x17, x18, rfl, kt, _⟩
   exact hQ H' kt
theorem Gx {H : Hp} {s : SG} {n : Nat} (k : Two b d g p q r w kvs ts1 ts2 k1 k2) (sp : Stp A H f s n) (e0 : s.d = ⟨a, some (k1, k2)⟩) (s0 : cC (aX kvs) s.g) (hn : n ≤ 20000) (i0 : 0 ≤ i) (i1 : i < 2 ^ b.toNat) (l0 : lo ≤ i) (u0 : i ≤ hi) (l0' : lo' ≤ i) (u0' : i ≤ hi') (wu1 : aP H u1 (aV (bn p w q))) (wu2 : aP H u2 (aV (bn p w r)))
   (sh1 : iO H s b i lo hi (bn p w q) O1 A1 A2 pa1 pa2 ta1 ta2) (sh2 : iO H s b i lo' hi' (bn p w r) O2 B1 B2 pb1 pb2 tb1 tb2) (hL1 : H L1 = some (.lst ((qs1 ++ [pc1]).map V.ref))) (hL2 : H L2 = some (.lst ((qs2 ++ [pc2]).map V.ref))) (h1 : H pc1 = some (.tup (k1.map kV))) (h2 : H pc2 = some (.tup (k2.map kV))) (hQ : ∀ H', aE H H' → Q (.bl true) H') :
   ri K A { nx := fun _ H' => Q .non H', rt := Q } [some (.int b), some v, some (.ref P), some y, some z, some (.int i), some (.ref E1), some (.int m), some (.ref a.f), some (.ref L1), some (.ref L2), some (.ref f), some u1, some u2, some (kV x), some (.ref O1), some (.ref O2), none, none] H := by
 refine Sel.no rfl (Sel.no rfl ?_)
 obtain ⟨fs1, fs2⟩ := k.fs
 obtain ⟨q0, wy⟩ := k.wy
 have b1 := k.b1
 have b60 := k.b60
 have t1 := di (wy.part k.okp k.okq) (by omega)
 have t2 := di (wy.part k.okp k.okr) (by omega)
 refine ⟨u1, i, bn p w q, rfl, wu1, by omega, by omega, fun H1 S1 => ⟨u2, i, bn p w r, rfl, wu2.mono S1, by omega, by omega, fun H2 S2 => ?_⟩⟩
 have S := S1.trans S2
 have yes := hQ H2 (aE.same S)
 have no : bE i (aC (bn p w q)) ≠ bE i (aC (bn p w r)) → mO K A { nx := fun _ H' => Q .non H', rt := Q } [some (.int b), some v, some (.ref P), some y, some z, some (.int i), some (.ref E1), some (.int m), some (.ref a.f), some (.ref L1), some (.ref L2), some (.ref f), some u1, some u2, some (kV x), some (.ref O1), some (.ref O2), none, none] H2 := fun hv => by
   have hk : aw b i d = g := Classical.byContradiction fun z => hv (sZ wy k.okq k.okr z)
   exact Ia k (sp.same (Nat.le_refl _) S) e0 s0 hn hk i0 i1 (fun z => hv (by rw [z])) l0 u0 l0' u0' (sh1.keep (aE.same S) Sub.rfl') (sh2.keep (aE.same S) Sub.rfl') (S _ _ hL1) (S _ _ hL2) (S _ _ h1) (S _ _ h2) fun H' kt => hQ H' ((aE.same S).trans kt)
 rcases fG i (aC (bn p w q)) with e1 | ⟨z1, e1⟩ <;> rcases fG i (aC (bn p w r)) with e2 | ⟨z2, e2⟩ <;> rw [e1, e2] at no <;> rw [e1, e2]
 · exact Sel.yes rfl yes
 · exact Sel.no rfl (no (fun z => nomatch z))
 · exact Sel.no rfl (no (fun z => nomatch z))
 · refine Sel.dec (fun _ => yes) (fun hz => no fun z => hz ?_)
   injection z
end
end Rs
namespace Rs
open PySem PySem.Spec PyProof.Rows L2
variable {K : W.Frag} {mg : Str → Option Value} {A : Adr}
section
variable {b d g : Int} {p q r : au} {w : List Int} {kvs : List (List Key × Key)} {ts1 ts2 : List (List Key)} {k1 k2 : List Key} {a : SA}
variable {Q : VK} {P L1 L2 E1 ta tb : Addr} {i m lo hi lo' hi' : Int} {v y z : V}
theorem rc (T : Txt K mg A) {H3 : Hp} {ps1 ps2 : List Addr} {n : Nat} (k : Two b d g p q r w kvs ts1 ts2 k1 k2) (su3 : dC H3 a kvs n) (hn : n ≤ 300) (i0 : 0 ≤ i) (i1 : i < 2 ^ b.toNat) (wv : aP H3 v (aV p)) (hP : H3 P = some (.tup (w.map V.int))) (wy : aP H3 y (aV q)) (wz : aP H3 z (aV r)) (hE : H3 E1 = some (.lst [.ref ta, .ref tb])) (ea : im H3 b i ta lo hi) (eb : im H3 b i tb lo' hi')
  (hL1 : H3 L1 = some (.lst (ps1.map V.ref))) (pk1 : PK H3 ps1 ts1) (hL2 : H3 L2 = some (.lst (ps2.map V.ref))) (pk2 : PK H3 ps2 ts2) (ts : fD A H3) (tp : fS A H3) (tn : A.t_23 ≠ A.t_15) (hQ : ∀ H', bx H3 H' → fD A H' → fS A H' → Q (.bl true) H') :
  uf K A { nx := fun _ H' => Q .non H', rt := Q } [some (.int b), some v, some (.ref P), some y, some z, some (.int i), some (.ref E1), some (.int m), some (.ref a.f), some (.ref L1), some (.ref L2), none, none, none, none, none, none, none, none] H3 := by
 obtain ⟨d0, db, g0, g1, cq, cr⟩ := k.wo
 have e1 := k.f1 _ (eC kvs)
 have e2 := k.f2 _ (eC kvs)
 obtain ⟨pre1, l1⟩ := cb (hsF kvs) cq
 obtain ⟨pre2, l2⟩ := cb (hsF kvs) cr
 rw [← e1.1, ← e1.2] at l1
 rw [← e2.1, ← e2.2] at l2
 rw [l1] at pk1
 rw [l2] at pk2
 obtain ⟨qs1, pc1, rfl, hpc1, okc1⟩ := fh pk1
 obtain ⟨qs2, pc2, rfl, hpc2, okc2⟩ := fh pk2
 obtain ⟨q0, wy0⟩ := k.wy
 have wl := wy0.len
 have b1 := k.b1
 have b60 := k.b60
 have tl := di k.okp (by omega)
 refine cx hL1 (cx hL2 ⟨pc1, pc2, a, k1, k2, kvs, n, rfl, hpc1, hpc2, okc1, okc2, su3, tp, fun f H4 kp4 tp4 pla4 => ?_⟩)
 have kr4 : bx H3 H4 := bx.ofP tp.tbl kp4
 have ts4 : fD A H4 := ts.keepP tn tp.tbl kp4
 have sp4 : Stp A H4 f ⟨⟨a, some (k1, k2)⟩, aX kvs⟩ n := .pla k1 k2 kvs pla4 rfl rfl
 refine ⟨v, y, p, q0, q, 0, 0, d, g, P, w, rfl, wv.keepT kr4.tup (bq _), kr4.tup _ _ hP, wy0, wy.keepT kr4.tup (bq _), by omega, by omega, fun u1 H5 S5 wu1 => ?_⟩
 refine ⟨v, z, p, q0, r, 0, 0, d, g, P, w, rfl, (wv.keepT kr4.tup (bq _)).mono S5, S5 _ _ (kr4.tup _ _ hP), wy0, (wz.keepT kr4.tup (bq _)).mono S5, by omega, by omega, fun u2 H6 S6 wu2 => ?_⟩
 have S46 := S5.trans S6
 have wu1 := wu1.mono S6
 have kr6 : bx H3 H6 := kr4.trans (bx.of (aE.same S46))
 have sp6 : Stp A H6 f ⟨⟨a, some (k1, k2)⟩, aX kvs⟩ n := sp4.same (Nat.le_refl _) S46
 have m1 := dF (bn p w q)
 obtain ⟨fs1, fs2⟩ := k.fs
 have okw := wy0.part k.okp k.okq
 have tw := di okw (by omega)
 refine ⟨f, u1, bn p w q, _, n, rfl, ⟨wu1, ⟨b, _, _, 0, 0, fZ b1 b60, by decide, by omega, okw⟩, by omega⟩, by omega, sp6, by omega, fun t7 L7 x ps7 ts7 g7 H7 kt7 sp7 sub7 nl7 ht7 hL7 pk7 e7 ox sx => ?_⟩
 refine ixT (j := 0) ht7 rfl rfl ?_
 have hx7 : ∀ h, Ext g7 h → x = aR h (bn p w q) := fun h he => (e7 h he).2
 have ed7 : g7.d = ⟨a, some (k1, k2)⟩ := sub7.1.symm
 have s7 : cC (aX kvs) g7.g := sub7.2
 have mk := k.mark (A := A) (a := a) (f := f) s7 ed7 hx7
 have wu1' := wu1.keepT kt7.tup (bq _)
 have wu2' := wu2.keepT kt7.tup (bq _)
 have kr7 := kr6.trans (bx.of kt7)
 obtain ⟨hta, ena, la, ua⟩ := ea
 obtain ⟨htb, enb, lb, ub⟩ := eb
 refine ixL (j := 0) (kr7.lst _ _ hE) rfl rfl ⟨f, ta, b, lo, hi, i, u1, bn p w q, x, g7, n + bK (bn p w q), rfl, kr7.tup _ _ hta, ena, la, ua, k.tree.1 wu1', sp7, by omega, fun s1 H1 n1 sq sb => (mk s1 H1 n1 sq sb).1, fun O1 A1 A2 pa1 pa2 ta1 ta2 s8 H8 kt8 sp8 sub8 hO hA1 pkA1 hA2 pkA2 e8 => ?_⟩
 have kr8 := kr7.trans (bx.of kt8)
 have wu2b := wu2'.keepT kt8.tup (bq _)
 refine ixL (j := 1) (kr8.lst _ _ hE) rfl rfl ⟨f, tb, b, lo', hi', i, u2, bn p w r, x, s8, n + bK (bn p w q) + 3000, rfl, kr8.tup _ _ htb, enb, lb, ub, k.tree.2 wu2b, sp8, by omega, fun s1 H1 n1 sq sb => (mk s1 H1 n1 sq (sub8.trans sb)).2, fun O2 B1 B2 pb1 pb2 tb1 tb2 s9 H9 kt9 sp9 sub9 hO2 hB1 pkB1 hB2 pkB2 e9 => ?_⟩
 have kt69 := (kt7.trans kt8).trans kt9
 have ts9 : fD A H9 := (cv.keepT (cv.keepT ts4 (aE.same S46)) kt69)
 have tp9 : fS A H9 := (cv.keepT (cv.keepT tp4 (aE.same S46)) kt69)
 have kr9 : bx H3 H9 := kr8.trans (bx.of kt9)
 have sh1 : iO H8 s8 b i lo hi (bn p w q) O1 A1 A2 pa1 pa2 ta1 ta2 := ⟨hO, hA1, pkA1, hA2, pkA2, e8⟩
 refine Gx k sp9 (by rw [← ed7]; exact (sub8.trans sub9).1.symm) (s7.trans (sub8.trans sub9).2) (by omega) i0 i1 la ua lb ub ((wu1'.keepT kt8.tup (bq _)).keepT kt9.tup (bq _)) (wu2b.keepT kt9.tup (bq _)) (sh1.keep kt9 sub9) ⟨hO2, hB1, pkB1, hB2, pkB2, e9⟩ (kr9.lst _ _ hL1) (kr9.lst _ _ hL2) (kr9.tup _ _ hpc1) (kr9.tup _ _ hpc2) fun H' kt' => ?_
 exact hQ H' (kr9.trans (bx.of kt')) (cv.keepT ts9 kt') (cv.keepT tp9 kt')
end
theorem tK {h : List Key → Key} {p : au} (hp : bI p = false) {pre : List (List Key)} {k : List Key} (e : pre ++ [k] = aJ h p) : k = aO h p := by
 obtain ⟨pre', e'⟩ := cb h hp
 rw [e'] at e
 exact (List.cons.inj (List.append_inj' e rfl).2).1
theorem im.keep {H H' : Hp} {b k lo hi : Int} {t : Addr} (h : im H b k t lo hi) (S : ∀ b xs, H b = some (.tup xs) → H' b = some (.tup xs)) : im H' b k t lo hi := ⟨S _ _ h.1, h.2⟩
theorem Bp (K : W.Frag) (A : Adr) : Ln (kx K A) 8 := by rintro vs H Q E ⟨_, _, _, _, _, _, _, _, _, _, _, _, _, _, _, _, _, _, _, _, rfl, _⟩; rfl
theorem FP (T : Txt K mg A) : Rd (kx K A) (HR K A) ["_law_bits_here", "_law_tree", "_law_path", "_law_one", "_law_other", "_law_key_here", "_law_ends", "_law_cell", "_law_sure_one", "_law_mine", "_law_theirs", "_law_stamper", "_law_first", "_law_second", "_law_mark_here", "_law_ones", "_law_others", "_law_k", "_law_found"] := by
 intro vs H Q E h
 obtain ⟨P, E1, ta, tb, b, k, d, g, m, lo, hi, lo', hi', v, y, z, p, q, r, w, rfl, tw, fp, k0, k1, hP, wy, dy, dz, okr, fr, hE, ea, eb, ts, tp, tn, hQ⟩ := h
 have b1 := tw.b1
 have b60 := tw.b60
 have fe := fZ b1 b60
 have wo := wy.ok tw.ok (by decide) (by omega) (by decide) (by decide)
 have cq := jg wo.ok wo.le wo.db wo.g0 wo.g1
 have cr := jg okr wo.le wo.db wo.g0 wo.g1
 have fq : forks q ≤ 40 := by
   have : ∀ {p q : au} {D G d g : Int} {w : List Int}, Way p D G w q d g → forks q ≤ forks p := fun {p q D G d g w} h => by
    induction h with
    | nil p d g => exact Nat.le_refl _
    | @left e x D G d g l r q w h ih => show _ ≤ forks l + forks r + 1; omega
    | @right e x D G d g l r q w h ih => show _ ≤ forks l + forks r + 1; omega
   have := this wy; omega
 have fsr := wy.forks (q' := r)
 have fsq : forks (bn p w q) ≤ 40 := by
   have : ∀ {p q : au} {D G d g : Int} {w : List Int}, Way p D G w q d g → bn p w q = p := fun {p q D G d g w} h => by
    induction h with
    | nil p d g => exact gn _ _
    | left h ih => rw [gh, ih]
    | right h ih => rw [gk, ih]
   rw [this wy]; exact fp
 have tq := di wo.ok wo.db
 have tr := di okr wo.db
 have hle := wo.le
 refine ⟨by decide, m % 1000, rfl, by omega, by omega, ts, fun a H1 kp1 ts1 hbn su1 => ?_⟩
 have kr1 : bx H H1 := bx.ofP ts.tbl kp1
 have tp1 : fS A H1 := tp.keepP (Ne.symm tn) ts.tbl kp1
 have sp1 : Stp A H1 a.f ⟨⟨a, none⟩, aX []⟩ 0 := .sur [] su1 rfl rfl rfl
 show Du K A _ [some (.int b), some v, some (.ref P), some y, some z, some (.int k), some (.ref E1), some (.int m), some (.ref a.f), none, none, none, none, none, none, none, none, none, none] H1
 have mq := dF q
 have mr := dF r
 refine ⟨a.f, y, q, _, 0, rfl, ⟨dy.keepT kr1.tup (bq _), ⟨b, _, _, d, g, fe, by omega, wo.db, wo.ok⟩, by omega⟩, by omega, sp1, by omega, fun t2 L1 x2 ps1 tsa g2 H2 kt2 sp2 sub2 nl2 ht2 hL1 pk1 e2 _ _ => ?_⟩
 refine ixT (j := 1) ht2 rfl rfl ?_
 show tZ K A _ [some (.int b), some v, some (.ref P), some y, some z, some (.int k), some (.ref E1), some (.int m), some (.ref a.f), some (.ref L1), none, none, none, none, none, none, none, none, none] H2
 have kr2 := kr1.trans (bx.of kt2)
 refine ⟨a.f, z, r, g2, _, rfl, ⟨dz.keepT kr2.tup (bq _), ⟨b, _, _, d, g, fe, by omega, wo.db, okr⟩, by omega⟩, by omega, sp2, by omega, fun t3 L2 x3 ps2 tsb g3 H3 kt3 sp3 sub3 nl3 ht3 hL2 pk2 e3 _ _ => ?_⟩
 refine ixT (j := 1) ht3 rfl rfl ?_
 show uQ K A _ [some (.int b), some v, some (.ref P), some y, some z, some (.int k), some (.ref E1), some (.int m), some (.ref a.f), some (.ref L1), some (.ref L2), none, none, none, none, none, none, none, none] H3
 have kr3 := kr2.trans (bx.of kt3)
 obtain ⟨kvs, eg3, su3⟩ := sp3.su (a := a) (by rw [← (sub2.trans sub3).1])
 subst eg3
 have ex : ∀ h, fV (aX kvs) h → Ext ⟨⟨a, none⟩, aX kvs⟩ h := fun h he => he
 have hL1' := kt3 _ _ hL1 fun _ z => nomatch z
 have pk1' := cy kt3.tup pk1
 have c1 : ∀ h, fV (aX kvs) h → tsa = aJ h q := fun h he => (e2 h ((ex h he).of sub3)).1
 have c2 : ∀ h, fV (aX kvs) h → tsb = aJ h r := fun h he => (e3 h (ex h he)).1
 obtain ⟨pre1, l1⟩ := cb (hsF kvs) cq
 obtain ⟨pre2, l2⟩ := cb (hsF kvs) cr
 have l1 : tsa = pre1 ++ [aO (hsF kvs) q] := by rw [c1 _ (eC kvs), l1]
 have l2 : tsb = pre2 ++ [aO (hsF kvs) r] := by rw [c2 _ (eC kvs), l2]
 generalize hk1 : aO (hsF kvs) q = k1 at l1
 generalize hk2 : aO (hsF kvs) r = k2 at l2
 have f1 : ∀ h, fV (aX kvs) h → tsa = aJ h q ∧ k1 = aO h q := fun h he => ⟨c1 h he, tK cq (by rw [← l1]; exact c1 h he)⟩
 have f2 : ∀ h, fV (aX kvs) h → tsb = aJ h r ∧ k2 = aO h r := fun h he => ⟨c2 h he, tK cr (by rw [← l2]; exact c2 h he)⟩
 have dy3 := dy.keepT kr3.tup (bq _)
 have dz3 := dz.keepT kr3.tup (bq _)
 have dv3 := tw.w.keepT kr3.tup (bq _)
 have ts3 : fD A H3 := cv.keepT (cv.keepT ts1 kt2) kt3
 have tp3 : fS A H3 := cv.keepT (cv.keepT tp1 kt2) kt3
 have fin : ∀ H', bx H3 H' → fD A H' → fS A H' → Q (.bl true) H' := fun H' k1 => hQ H' (kr3.trans k1)
 have inj : ∀ x y, hsF kvs x = hsF kvs y → x = y := fun x y z => nz su3.st z
 have pk2q := pk2
 rw [l2] at pk2q
 obtain ⟨qs2, pc2, hq2, hpc2, okc2⟩ := fh pk2q
 have hL2q := hL2
 rw [hq2] at hL2q
 refine cx hL2q ?_
 refine .inr ⟨_, _, gF hpc2, .inl (.lst (SqL.of hL1') (qK pk1')), ql pk1', cU (ik okc2), ?_, ?_⟩
 · show PyData.depthAll (k2.map bN) + 1 ≤ 140; rw [ia]; decide
 refine Sel.mk (fun hin => ?_) (fun hout => ?_)
 · have hin := (qP _ _).mp hin
   refine ⟨_, _, rfl, _, _, rfl, ?_⟩
   have two : Two b d g p r q w kvs tsb tsa k2 k1 := by
    refine ⟨b1, b60, ⟨_, wy⟩, tw.ok, okr, wo.ok, f2, f1, ?_, by omega, by omega⟩
    by_cases eq : r = q
    · exact .inl eq
    · refine .inr fun hm => eq ?_
      rw [c1 _ (eC kvs)] at hin
      rw [c2 _ (eC kvs)] at hm
      have z1 := pZ b60 wo.ok hin
      have z2 := pZ b60 okr hm
      rw [hk1] at z1
      rw [hk2] at z2
      have e12 : k2 = k1 := by
       rcases z1 with z1 | z1
       · exact z1
       · rcases z2 with z2 | z2
         · exact z2.symm
         · omega
      exact (yV inj okr wo.ok).1 cr (by rw [hk1, hk2, e12])
   exact rc T two su3 (by omega) k0 (by omega) dv3 (kr3.tup _ _ hP) dz3 dy3 (kr3.lst _ _ hE) (ea.keep kr3.tup) (eb.keep kr3.tup) hL2 pk2 hL1' pk1' ts3 tp3 tn fin
 · have hout : k2 ∉ tsa := fun z => by rw [(qP _ _).mpr z] at hout; cases hout
   have two : Two b d g p q r w kvs tsa tsb k1 k2 := ⟨b1, b60, ⟨_, wy⟩, tw.ok, wo.ok, okr, f1, f2, .inr hout, by omega, by omega⟩
   exact rc T two su3 (by omega) k0 (by omega) dv3 (kr3.tup _ _ hP) dy3 dz3 (kr3.lst _ _ hE) (ea.keep kr3.tup) (eb.keep kr3.tup) hL1' pk1' hL2 pk2 ts3 tp3 tn fin
end Rs
namespace Rs
open PySem PySem.Spec PyProof.Rows L2
variable {K : W.Frag} {mg : Str → Option Value} {A : Adr}
theorem bx.seq {H H' : Hp} {a : Addr} {xs : List V} (e : bx H H') (h : SqL K H a xs) : SqL K H' a xs := by
 rcases h with (h | ⟨o, h⟩) | h
 · exact .inl (.inl (e _ _ h (fun _ z => nomatch z) (fun _ z => nomatch z)))
 · exact .inl (.inr ⟨o, e _ _ h (fun _ z => nomatch z) (fun _ z => nomatch z)⟩)
 · exact .inr h
theorem rq {b lo hi : Int} : ∀ {p : au} {d g : Int}, aM b lo hi d g p → ∀ x ∈ aC p, 0 ≤ x.1 ∧ x.1 < 2 ^ b.toNat := by
  intro p
  induction p with
  | leaf k z => intro d g ok x hx; rw [List.mem_singleton.mp hx]; exact ⟨ok.2.1, ok.2.2.1⟩
  | fork e x l r hl hr =>
    intro d g ok y hy
    obtain ⟨_, _, _, _, _, _, okl, okr⟩ := ok
    rcases List.mem_append.mp hy with hy | hy
    · exact hl okl y hy
    · exact hr okr y hy
  | cut m => intro d g ok x hx; cases hx
  | bare => intro d g ok x hx; cases hx
theorem wK {D : iv} {G : Hp} {a P M : Addr} {b d g c nm : Int} {v y z : V} {p q r : au} {w : List Int} {ns : List Int} {x14 : Option V} (hs : SqL K G a (ns.map V.int)) (tw : jv G v b p) (fp : forks p ≤ 40) (hP : G P = some (.tup (w.map V.int))) (wy : Way p 0 0 w q d g) (dy : aP G y (aV q)) (dz : aP G z (aV r)) (okr : aM b 0 (2 ^ b.toNat - 1) d g r) (fr : forks r ≤ 7) (ts : fD A G) (tp : fS A G) (tn : A.t_23 ≠ A.t_15)
   (nx : ∀ (σ : L2.St) (H' : Hp), (∃ y12 y13 y14, σ = [some (.ref a), some (.int b), some (.int (2 ^ b.toNat - 1)), some v, some (.ref M), some (.int c), some (.int d), some (.int g), some (.ref P), some (.int nm), some y, some z, y12, y13, y14]) → bx G H' → fD A H' → fS A H' → D.nx σ H') {x12 x13 : Option V} :
   (ao (aB (hU [] (eX K (tOp (aS K) (ai (gx K A 70) (fun _ => E0) (aa (ab 10) (af))) (ai (gx K A 70) (fun _ => E0) (aa (ab 11) (af))))) (fun _ H Q => Q true H) (tOp (aq K) (ab 0) (tC (.int 0)))) (ar 12)) (ao (cH (tBM K "list" cZ (ab 12) (aa (ai (lh K A) (fun _ => E0) (aa (ab 1) (aa (ab 9) (aa (cp (af)) (af))))) (af)))) (ao (aB (tOp (aq K) (ab 12) (tOp (ba) (tOp (bJ) (ab 9) (tC (.int 4))) (tCB (cn K) (aa (ab 12) (af))))) (ar 13)) (ao (aB (cp (aa (ai (hZ K A) (fun _ => E0) (aa (ab 1) (aa (ab 13) (aa (ai (dX K A) (fun _ => E0) (aa (ab 0) (aa (tC (.int 2)) (af)))) (af))))) (af))) (ar 14)) (ao (cH (tBM K "list" cZ (ab 14) (aa (ai (hZ K A) (fun _ => E0) (aa (ab 1) (aa (ab 13) (aa (ai (dX K A) (fun _ => E0) (aa (ab 0) (aa (tC (.int 3)) (af)))) (af))))) (af)))) (aT (bT (bS K (ai (kx K A) (fun _ => E0) (aa (ab 1) (aa (ab 3) (aa (ab 8) (aa (ab 10) (aa (ab 11) (aa (ab 13) (aa (ab 14) (aa (ai (dX K A) (fun _ => E0) (aa (ab 0) (aa (tC (.int 3)) (af)))) (af)))))))))))) (aA (tC (.bl false))) (aI))))))) D [some (.ref a), some (.int b), some (.int (2 ^ b.toNat - 1)), some v, some (.ref M), some (.int c), some (.int d), some (.int g), some (.ref P), some (.int nm), some y, some z, x12, x13, x14] G := by
 have b1 := tw.b1
 have b60 := tw.b60
 have wo := wy.ok tw.ok (by decide) (by omega) (by decide) (by decide)
 have tq := di wo.ok wo.db
 have tr := di okr wo.db
 have hle := wo.le
 have fq : forks q ≤ 40 := by
   have : ∀ {p q : au} {D G d g : Int} {w : List Int}, Way p D G w q d g → forks q ≤ forks p := fun {p q D G d g w} h => by
     induction h with
     | nil p d g => exact Nat.le_refl _
     | @left e x D G d g l r q w h ih => show _ ≤ forks l + forks r + 1; omega
     | @right e x D G d g l r q w h ih => show _ ≤ forks l + forks r + 1; omega
   have := this wy; omega
 have lq := fm q
 have lr := fm r
 refine ⟨y, q, rfl, dy, by omega, by omega, fun M1 rs1 H1 S1 hM1n hM1 pr1 => ⟨z, r, rfl, dz.mono S1, by omega, by omega, fun M2 rs2 H2 S2 hM2n hM2 pr2 => ?_⟩⟩
 have len1 : rs1.length = (aC q).length := Paired.length pr1
 have len2 : rs2.length = (aC r).length := Paired.length pr2
 refine .inl ⟨M1, M2, _, _, rfl, rfl, S2 _ _ hM1, hM2, bo (by simp; omega), fun M3 h3 => ?_⟩
 have S3 := (S1.trans S2).trans (ay.upd (o := .lst (rs1.map V.ref ++ rs2.map V.ref)) h3)
 have hM3 : upd H2 M3 (.lst (rs1.map V.ref ++ rs2.map V.ref)) M3 = some (.lst ((rs1 ++ rs2).map V.ref)) := by rw [am, List.map_append]
 have pr3 : PR (upd H2 M3 (.lst (rs1.map V.ref ++ rs2.map V.ref))) (rs1 ++ rs2) (aC q ++ aC r) := uZ (gC (fun c xs e => (S2.trans (ay.upd h3)) _ _ e) pr1) (gC (fun c xs e => ay.upd h3 _ _ e) pr2)
 have keys : ∀ x ∈ aC q ++ aC r, 0 ≤ x.1 ∧ x.1 < 2 ^ b.toNat := fun x hx => by
   rcases List.mem_append.mp hx with h | h
   · exact rq wo.ok x h
   · exact rq okr x h
 have lenL : (aC q ++ aC r).length ≤ 60 := by rw [List.length_append]; omega
 have len3 : (rs1 ++ rs2).length = (aC q ++ aC r).length := Paired.length pr3
 generalize upd H2 M3 (.lst (rs1.map V.ref ++ rs2.map V.ref)) = H3 at S3 hM3 pr3 ⊢
 generalize aC q ++ aC r = rows at pr3 keys lenL len3
 generalize rs1 ++ rs2 = rs at hM3 pr3 len3
 refine ⟨M3, rfl, .inl ⟨⟨_, SqL.of hM3⟩, fun N hN => ?_⟩⟩
 have hGN : G N = none := dR S3 hN
 refine mN (fv.list (xs := rs.map V.ref) .non) (fun i ys H' => ∃ ks : List Int, ys = ks.map V.int ∧ ks.length = i ∧ (∀ k ∈ ks, 0 ≤ k ∧ k < 2 ^ b.toNat) ∧ H' = upd H3 N (.lst ys))
   (fun i ys H' _ ⟨_, _, _, _, e⟩ => by rw [e]; exact SqL.of (ay.upd hN _ _ hM3)) ⟨[], rfl, rfl, (fun _ z => by cases z), rfl⟩ ?_ ?_
 · rintro i ys H' hi' ⟨ks, rfl, hkl, hk, rfl⟩
   have hi2 : i < rs.length := by simpa using hi'
   obtain ⟨row, hrow⟩ : ∃ row, rows[i]? = some row := ⟨_, List.getElem?_eq_getElem (by omega)⟩
   obtain ⟨ra, hra, hrt⟩ := qo pr3 hrow
   have e0 := lH hra
   show (if true = true then _ else _)
   rw [if_pos rfl]
   have go : ∀ B, (aq K (.ref ra) (.int 0) (upd H3 N (.lst (ks.map V.int))) B) → (tOp (aq K) (ab 0) (tC (.int 0))) [some ((rs.map V.ref).getD i .non)] (upd H3 N (.lst (ks.map V.int))) B := fun B hB => by
     show aq K ((rs.map V.ref).getD i .non) (.int 0) _ B
     rw [e0]; exact hB
   refine go _ (ixT (j := 0) (ay.upd hN _ _ hrt) rfl rfl ⟨am, iH (by rw [List.length_map]; omega), _, by omega, hi', rfl, ks ++ [row.1], ?_, by simp [hkl], fun k hk' => ?_, ?_⟩)
   · rw [List.map_append]; rfl
   · rcases List.mem_append.mp hk' with h | h
     · exact hk k h
     · rw [List.mem_singleton.mp h]; exact keys row (List.mem_of_getElem? hrow)
   · rw [zq]
 · rintro ys H' ⟨ks, rfl, hkl, hk, rfl⟩
   have S4 := S3.trans (ay.upd (o := .lst (ks.map V.int)) hN)
   have hN4 : upd H3 N (.lst (ks.map V.int)) N = some (.lst (ks.map V.int)) := am
   have hkl' : ks.length ≤ 60 := by rw [List.length_map] at hkl; omega
   generalize upd H3 N (.lst (ks.map V.int)) = H4 at S4 hN4 ⊢
   refine ⟨.inl ⟨rfl, _, SqL.of hN4⟩, by show 0 ≤ sizeLine; decide, fun o ho => ⟨b, nm, o, [], rfl, b1, b60, am, by show 0 ≤ 1; decide, (fun _ z => by cases z), fun k2 H5 S5 k20 k21 => ?_⟩⟩
   have S5 := (ay.upd (o := .lst []) ho).trans S5
   have hN5 := S5 _ _ hN4
   refine ⟨N, _, .int k2, rfl, rfl, hN5, iH (by rw [List.length_map]; omega), ?_⟩
   have ml : ks.map V.int ++ [V.int k2] = (ks ++ [k2]).map V.int := by rw [List.map_append]; rfl
   have hk2 : ∀ k ∈ ks ++ [k2], 0 ≤ k ∧ k < 2 ^ b.toNat := fun k h => by
     rcases List.mem_append.mp h with h | h
     · exact hk k h
     · rw [List.mem_singleton.mp h]; exact ⟨k20, k21⟩
   have S6 : ay G (upd H5 N (.lst (ks.map V.int ++ [V.int k2]))) := fun c o e => by
     rw [aK (bj e hGN)]; exact (S4.trans S5) _ _ e
   have hN6 : upd H5 N (.lst (ks.map V.int ++ [V.int k2])) N = some (.lst ((ks ++ [k2]).map V.int)) := by rw [am, ml]
   have l6 : (ks ++ [k2]).length ≤ 61 := by rw [List.length_append]; show ks.length + 1 ≤ 61; omega
   have l6' : 0 < (ks ++ [k2]).length := by rw [List.length_append]; show 0 < ks.length + 1; omega
   generalize upd H5 N (.lst (ks.map V.int ++ [V.int k2])) = H6 at S6 hN6 ⊢
   generalize ks ++ [k2] = kl at hk2 hN6 l6 l6'
   refine ⟨⟨by decide, by decide⟩, .inl (.inl ⟨_, SqL.of hN6, ?_⟩)⟩
   rw [List.length_map]
   have m0 : 0 ≤ nm / 4 % (kl.length : Int) := Int.emod_nonneg _ (by omega)
   have m1 : nm / 4 % (kl.length : Int) < kl.length := Int.emod_lt_of_pos _ (by omega)
   obtain ⟨j, hj⟩ := Int.eq_ofNat_of_zero_le m0
   have hjl : j < kl.length := by omega
   have hx : (kl.map V.int)[j]? = some (.int (kl[j])) := by rw [List.getElem?_map, List.getElem?_eq_getElem hjl]; rfl
   have hkj := hk2 (kl[j]) (List.getElem_mem hjl)
   generalize kl[j] = k at hx hkj
   refine ⟨by omega, ixL (j := j) hN6 hj hx ?_⟩
   refine ⟨a, ns, 2, rfl, S6.seq hs, by decide, fun z2 H7 S7 => ⟨b, k, z2, rfl, b1, b60, hkj.1, hkj.2, fun ta lo hi H8 S8 hta ena la ua => ⟨by show 1 ≤ sizeLine; decide, fun E1 hE1 => ?_⟩⟩⟩
   have S8 := (S6.trans S7).trans S8
   have S9 := S8.trans (ay.upd (o := .lst [V.ref ta]) hE1)
   have hGE : G E1 = none := dR S8 hE1
   have hE9 : upd H8 E1 (.lst [V.ref ta]) E1 = some (.lst [V.ref ta]) := am
   have hta9 := ay.upd (o := .lst [V.ref ta]) hE1 _ _ hta
   generalize upd H8 E1 (.lst [V.ref ta]) = H9 at S9 hE9 hta9 ⊢
   refine ⟨.inl ⟨rfl, _, SqL.of hE9⟩, a, ns, 3, rfl, S9.seq hs, by decide, fun z3 HA SA => ⟨b, k, z3, rfl, b1, b60, hkj.1, hkj.2, fun tb lo' hi' HB SB htb enb lb ub => ?_⟩⟩
   have S9B := SA.trans SB
   have hEB := S9B _ _ hE9
   have htaB := S9B _ _ hta9
   have SGB := S9.trans S9B
   refine ⟨E1, _, .ref tb, rfl, rfl, hEB, iH (by show 1 ≤ 1000; decide), ?_⟩
   have SC : ay G (upd HB E1 (.lst ([V.ref ta] ++ [V.ref tb]))) := fun c o e => by
     rw [aK (bj e hGE)]; exact SGB _ _ e
   have kpC : ∀ c xs, HB c = some (.tup xs) → upd HB E1 (.lst ([V.ref ta] ++ [V.ref tb])) c = some (.tup xs) := fun c xs e => by
     rw [aK (fun z => by subst z; rw [hEB] at e; cases e)]; exact e
   have hEC : upd HB E1 (.lst ([V.ref ta] ++ [V.ref tb])) E1 = some (.lst [V.ref ta, V.ref tb]) := am
   have htaC := kpC _ _ htaB
   have htbC := kpC _ _ htb
   generalize upd HB E1 (.lst ([V.ref ta] ++ [V.ref tb])) = HC at SC hEC htaC htbC ⊢
   refine ⟨a, ns, 3, rfl, SC.seq hs, by decide, fun z3' HD SD => ?_⟩
   have SGD := SC.trans SD
   refine ⟨P, E1, ta, tb, b, k, d, g, z3', lo, hi, lo', hi', v, y, z, p, q, r, w, rfl, ⟨b1, b60, tw.w.mono SGD, tw.ok, tw.f⟩, fp, hkj.1, hkj.2, SGD _ _ hP, wy, dy.mono SGD, dz.mono SGD, okr, fr, SD _ _ hEC, ⟨SD _ _ htaC, ena, la, ua⟩, ⟨SD _ _ htbC, enb, lb, ub⟩, cv.keepT ts (aE.same SGD), cv.keepT tp (aE.same SGD), tn, fun HE kr ts' tp' => Sel.no rfl ?_⟩
   exact nx _ _ ⟨_, _, _, rfl⟩ ((bx.of (aE.same SGD)).trans kr) ts' tp'
theorem HF {Q : VK} {G : Hp} {a M : Addr} {b : Int} {v : V} {p : au} {ns : List Int} {ss : List Addr} (hs : SqL K G a (ns.map V.int)) (tw : jv G v b p) (fp : forks p ≤ 40) (hM : G M = some (.lst (ss.map V.ref))) (hn : 0 < ss.length) (al : ∀ r ∈ ss, dM G p 0 0 [] r) (ts : fD A G) (tp : fS A G) (tn : A.t_23 ≠ A.t_15) (q : ∀ H', Q (.bl true) H') :
   tI K A { nx := fun _ H' => Q .non H', rt := Q } [some (.ref a), some (.int b), some (.int (2 ^ b.toNat - 1)), some v, some (.ref M), none, none, none, none, none, none, none, none, none, none] G := by
 have b1 := tw.b1
 have b60 := tw.b60
 obtain ⟨zs, ez, hz⟩ := nQ ns (some 4) (some 6)
 have zl : zs.length ≤ 6 := by
   have h := congrArg List.length ez
   unfold fA at h
   rw [List.length_take, List.length_map, List.length_map] at h
   have := HT.mT ns.length ns.length 6
   rw [show ((6 : Nat) : Int) = 6 from rfl] at this
   rw [this] at h
   omega
 refine ⟨4, rfl, 6, rfl, .inl (.inl ⟨a, _, rfl, hs, fun pa hpa => ?_⟩)⟩
 rw [ez]
 have S1 := ay.upd (o := .lst (zs.map V.int)) hpa
 have hpa2 : upd G pa (.lst (zs.map V.int)) pa = some (.lst (zs.map V.int)) := am
 generalize upd G pa (.lst (zs.map V.int)) = G1 at S1 hpa2 ⊢
 refine ⟨a, ns, 7, rfl, S1.seq hs, by decide, fun z9 G2 S2 => ⟨by show 1 ≤ sizeLine; decide, fun pb hpb => ?_⟩⟩
 have S3 := ay.upd (o := .lst [V.int z9]) hpb
 refine .inl ⟨pa, pb, _, _, rfl, rfl, S3 _ _ (S2 _ _ hpa2), am, bo (by rw [List.length_map]; show zs.length + 1 ≤ _; omega), fun rr hrr => ?_⟩
 have S4 := ((S1.trans S2).trans S3).trans (ay.upd (o := .lst (zs.map V.int ++ [V.int z9])) hrr)
 have hr2 : upd (upd G2 pb (.lst [V.int z9])) rr (.lst (zs.map V.int ++ [V.int z9])) rr = some (.lst (zs.map V.int ++ [V.int z9])) := am
 generalize upd (upd G2 pb (.lst [V.int z9])) rr (.lst (zs.map V.int ++ [V.int z9])) = G4 at S4 hr2 ⊢
 have ml : zs.map V.int ++ [V.int z9] = (zs ++ [z9]).map V.int := by rw [List.map_append]; rfl
 rw [ml] at hr2
 refine ⟨rr, rfl, .inl ⟨⟨_, SqL.of hr2⟩, ?_⟩⟩
 have k4 : bx G G4 := bx.of (aE.same S4)
 refine jy (xs := (zs ++ [z9]).map V.int) (fun i σ H' => ∃ y5 y6 y7 y8 y9 y10 y11 y12 y13 y14, σ = [some (.ref a), some (.int b), some (.int (2 ^ b.toNat - 1)), some v, some (.ref M), y5, y6, y7, y8, y9, y10, y11, y12, y13, y14] ∧ bx G4 H' ∧ fD A H' ∧ fS A H') ⟨none, none, none, none, none, none, none, none, none, none, rfl, bx.rfl', cv.keepT ts (aE.same S4), cv.keepT tp (aE.same S4)⟩ ?_ ?_ ?_
 · rintro i σ H' _ ⟨_, _, _, _, _, _, _, _, _, _, _, kr, _⟩; exact SqL.of (kr.lst _ _ hr2)
 · rintro i y σ H' hy ⟨y5, y6, y7, y8, y9, y10, y11, y12, y13, y14, rfl, kr, ts', tp'⟩
   obtain ⟨c, _, rfl⟩ := kE hy
   have kr' := k4.trans kr
   have hM' := kr'.lst _ _ hM
   have m0 : 0 ≤ c % (ss.length : Int) := Int.emod_nonneg _ (by omega)
   have m1 : c % (ss.length : Int) < ss.length := Int.emod_lt_of_pos _ (by omega)
   obtain ⟨j, hj⟩ := Int.eq_ofNat_of_zero_le m0
   have hjl : j < ss.length := by omega
   have hx : (ss.map V.ref)[j]? = some (.ref (ss[j])) := by rw [List.getElem?_map, List.getElem?_eq_getElem hjl]; rfl
   obtain ⟨d, g, u, qq, P, h1, h2, wy⟩ := (al (ss[j]) (List.getElem_mem hjl)).keep kr'.tup
   have h2 : H' P = some (.tup (u.map V.int)) := h2
   refine .inl (.inl ⟨_, SqL.of hM', ?_⟩)
   rw [List.length_map]
   refine ⟨by omega, ixL (j := j) hM' hj hx ?_⟩
   refine ⟨_, _, rfl, SqT.of h1, rfl, _, _, rfl, _, _, rfl, _, _, rfl, rfl, ?_⟩
   refine ⟨gH (by decide) (by decide), by decide, ?_⟩
   have tw' : jv H' v b p := ⟨b1, b60, tw.w.keepT kr'.tup (bq _), tw.ok, tw.f⟩
   have wo := wy.ok tw.ok (by decide) (by omega) (by decide) (by decide)
   have hle := wo.le
   have hdb := wo.db
   refine ⟨v, p, qq, 0, 0, d, g, P, u, rfl, tw'.w, h2, wy, fun y wyy => ?_⟩
   have yy0 : 0 ≤ c * 48271 % 1000003 % 4 := by omega
   have yy1 : c * 48271 % 1000003 % 4 ≤ 3 := by omega
   refine ⟨by decide, _, b, 0, 2 ^ b.toNat - 1, d, g, _, rfl, fZ b1 b60, by omega, wo.db, wo.g0, wo.g1, yy0, by omega, by omega, fun z r H1 S1 w f1 f2 f3 => ?_⟩
   have f7 : forks r ≤ 7 := by
    have : 2 ^ (c * 48271 % 1000003 % 4).toNat ≤ 2 ^ 3 := Nat.pow_le_pow_right (by decide) (by omega)
    omega
   have kr1 := kr'.trans (bx.of (aE.same S1))
   exact wK (kr1.seq hs) ⟨b1, b60, tw'.w.mono S1, tw.ok, tw.f⟩ fp (S1 _ _ h2) wy (wyy.mono S1) w.w w.ok f7 (cv.keepT ts' (aE.same S1)) (cv.keepT tp' (aE.same S1)) tn fun σ H2 ⟨y12, y13, y14, e⟩ kr2 ts2 tp2 => ⟨_, _, _, _, _, _, _, y12, y13, y14, e, (kr.trans (bx.of (aE.same S1))).trans kr2, ts2, tp2⟩
 · rintro σ H' ⟨_, _, _, _, _, _, _, _, _, _, rfl, _⟩
   exact q H'
theorem CD (K : W.Frag) (A : Adr) : Ln (oA K A) 1 := by rintro vs H Q E ⟨a, ns, rfl, _⟩; rfl
theorem DV (T : Txt K mg A) : Rd (oA K A) (Ha K A) ["_law_script", "_law_bits_here", "_law_most", "_law_tree", "_law_spots_here", "_law_cell", "_law_depth", "_law_begin_here", "_law_path", "_law_number_here", "_law_one", "_law_other", "_law_keys", "_law_key_here", "_law_ends"] := by
 intro vs H Q E h
 obtain ⟨a, ns, rfl, hs, hlen, ⟨t1, t2, t3⟩, q⟩ := h
 refine ⟨a, ns, 0, rfl, hs, by decide, fun z0 H0 S0 => ⟨z0, rfl, fun b H1 S1 b1 b60 => ?_⟩⟩
 have S1 := S0.trans S1
 show AG K A _ [some (.ref a), some (.int b), none, none, none, none, none, none, none, none, none, none, none, none, none] H1
 refine ⟨⟨by omega, by omega, by decide⟩, ?_⟩
 show uW K A _ [some (.ref a), some (.int b), some (.int (1 * 2 ^ b.toNat - 1)), none, none, none, none, none, none, none, none, none, none, none, none] H1
 rw [Int.one_mul]
 refine ⟨a, ns, 1, rfl, S1.seq hs, by decide, fun z1 H2 S2 => ⟨a, ns, 1, rfl, (S1.trans S2).seq hs, by decide, fun z2 H3 S3 => ⟨by decide, ?_⟩⟩⟩
 have S3 := (S1.trans S2).trans S3
 have fe := fZ b1 b60
 refine ⟨z1, b, 0, 2 ^ b.toNat - 1, 0, 0, 1 + z2 % 4, rfl, fe, by decide, by omega, by decide, by decide, by omega, by omega, by omega, fun v p H4 S4 w f1 f2 f3 => ?_⟩
 have S4 := S3.trans S4
 have f15 : forks p ≤ 15 := by
  have : 2 ^ (1 + z2 % 4).toNat ≤ 2 ^ 4 := Nat.pow_le_pow_right (by decide) (by omega)
  omega
 show tN K A _ [some (.ref a), some (.int b), some (.int (2 ^ b.toNat - 1)), some v, none, none, none, none, none, none, none, none, none, none, none] H4
 refine ⟨by show 0 ≤ sizeLine; decide, fun t0 h0 => ?_⟩
 have S7 := ay.upd (o := .tup []) h0
 have ht0 : upd H4 t0 (.tup []) t0 = some (.tup (([] : List Int).map V.int)) := am
 have tl := di w.ok w.d1
 refine ⟨v, p, 0, 0, t0, [], rfl, w.w.mono S7, by omega, ht0, by show 0 + _ ≤ 100; omega, by omega, fun M r rs H8 S8 hMn hM len hr al => ?_⟩
 have S78 := S7.trans S8
 have S8' := S4.trans S78
 exact HF (S8'.seq hs) ⟨b1, b60, w.w.mono S78, w.ok, by omega⟩ (by omega) hM (by simp) al ⟨_, S8' _ _ t1, .inl rfl⟩ ⟨_, S8' _ _ t2, .inl rfl⟩ (fun z => by rw [z] at t3; simp at t3) q
end Rs
namespace Rs
open PySem PySem.Spec PyProof.Rows L2
structure TP (P : Program) (w : World) (K : W.Frag) (mg : Str → Option Value) (base : Heap) (A : Adr) : Prop extends Txt K mg A where
 B : BM mg base
 C_23 : W.CodeHd base A.k_23 A.t_23
 C_15 : W.CodeHd base A.k_15 A.t_15
variable {P : Program} {w : World} {K : W.Frag} {mg : Str → Option Value} {base : Heap} {A : Adr} (T : TP P w K mg base A)
include T
theorem Eg (f c : Addr) (cl : List (Str × Addr)) (Ar : Around) (outer : List Env) (s : Shared) (H : Hp) (E : XK)
  (hr : bR 0 (Ar.deeper (W.envX dE.qual dE.scope s.heap.objs.size f (.ref c) cl))) : PSs (lS P w K mg base ["_law_term", "_law_known", "_law_first"] dE.qual dE.scope f c cl Ar outer s H E).nox (bi vY) (Ci K A) := QSs.out (
 ak (az (jV PySem.F.plainAttrs_dict PySem.F.slot_dict_setdefault PySem.F.type_dict_setdefault (nO hr.units1) (ac 1) (ad (ac 0) (ad (av bd (av cj (ae) (aY cK T.z_len PySem.boot_len (ad (ac 1) (ag)))) (ac 2)) (ag))))))
theorem yB : jp P w K mg base 1 dE (lO K A) :=
 uT rfl Gk (fun f c cl Ar outer s H vs cvs Q E hr hl hc h => by
  obtain ⟨a0, rfl⟩ := L2.kK hl
  obtain ⟨b0, b1, rfl⟩ := L2.sD hc
  exact ⟨_, (Eg T f c cl Ar outer s H E hr).nox, Fh T.1 a0 b0 b1 H Q E h⟩)
theorem qx : nq P w K mg base 1 (lT K A) := fun ts hts => by
 simp only [lT, List.mem_cons, List.not_mem_nil, or_false] at hts
 rcases hts with rfl
 · exact (yB T).mono (by decide)
theorem FN (f c : Addr) (cl : List (Str × Addr)) (Ar : Around) (outer : List Env) (s : Shared) (H : Hp) (E : XK)
  (hr : bR 1 (Ar.deeper (W.envX fM.qual fM.scope s.heap.objs.size f (.ref c) cl))) : PSs (lS P w K mg base ["_law_term", "_law_sure_one", "_law_other", "_law_one"] fM.qual fM.scope f c cl Ar outer s H E).nox (bi xP) (BU K A) := QSs.out (
 ah (aQ (aN (bD hr.units150) (ac 0) (ac 2)) (ak (az (fI (qx T) hr.le gq (ac 1) (ad (ac 3) (ag))))) (aH)) (ak (az (fI (qx T) hr.le gq (ac 1) (ad (ac 0) (ag))))))
theorem EN : jp P w K mg base 2 fM (sF K A) :=
 uT rfl EV (fun f c cl Ar outer s H vs cvs Q E hr hl hc h => by
  obtain ⟨a0, rfl⟩ := L2.kK hl
  obtain ⟨b0, b1, b2, rfl⟩ := L2.sS hc
  exact ⟨_, (FN T f c cl Ar outer s H E hr).nox, Eh T.1 a0 b0 b1 b2 H Q E h⟩)
theorem Ii : aZ P w K mg base (CX1 P w) 1 A.a_2 A.d_2 ["_law_cell"] (sf K A) :=
 T.f_2.f.okS GV (EB K A) (Hy T.1) fun _ _ _ _ _ _ hr =>
 ak (az (av bd (ae) (av bF (av dj (ac 0) (ae)) (ax (aj hr.units1) (cL (ad (ae) (ad (ae) (ad (ae) (ag))))) (av bF (ac 0) (ae)) (fun _ _ => rfl)))))
theorem lI : aZ P w K mg base (CX1 P w) 1 A.a_0 A.d_0 ["_law_script", "_law_k"] (dX K A) :=
 T.f_0.f.okS qe (DK K A) (Iq T.1) fun _ _ _ _ _ _ hr =>
 ah (aQ (aN oLt (ac 1) (aY cK T.z_len PySem.boot_len (ad (ac 0) (ag)))) (ak (az (ax (aj hr.units1) (ac 0) (ac 1) (fun _ _ => rfl)))) (aH)) (ah (aL 2 qe.nd (av bd (ae) (aY cK T.z_len PySem.boot_len (ad (ac 0) (ag))))) (ah (gM 3 qe.nd (gm (jk kd (ac 0) (kH) (il (ae)))) (ak (aL 2 qe.nd (av bF (av bd (av cj (ac 2) (ae)) (ac 3)) (ae)))) PassesOwn.never) (ah (aL 2 qe.nd (av bF (av bd (ac 2) (av cj (ae) (ac 1))) (ae))) (ak (az (av bF (av cj (ac 2) (ac 2)) (ae)))))))
theorem Em : aZ P w K mg base (CX1 P w) 1 A.a_10 A.d_10 ["_law_cell", "_law_depth", "_law_begin_here"] (oB K A) :=
 T.f_10.f.okS Fz (Cp K A) (DP T.1) fun _ _ _ _ _ _ hr =>
 ak (az (av bF (av cj (av bF (av bd (av cj (av bd (ac 0) (ae)) (ae)) (av cj (av bd (av bd (av cj (ac 2) (ae)) (ac 1)) (ae)) (ae))) (ae)) (ae)) (ae)))
theorem Cn : aZ P w K mg base (CX1 P w) 1 A.a_9 A.d_9 ["_law_bits_here", "_law_low", "_law_high", "_law_depth", "_law_begin_here"] (qE K A) :=
 T.f_9.f.okS Cf (DS K A) (HP T.1) fun _ _ _ _ _ _ hr =>
 ah (aL 5 Cf.nd (av gJ (ae) (av dt (ac 0) (ac 3)))) (ak (az (dA (dY oLe (av cj (ac 4) (ac 5)) (ac 2)) (fj (dY oLt (ac 1) (av cj (av bd (ac 4) (ae)) (ac 5)))))))
theorem GG : aZ P w K mg base (CX1 P w) 1 A.a_8 A.d_8 ["_law_number_here"] (sv K A) :=
 T.f_8.f.okS AC (Fo K A) (GQ T.1) fun _ _ _ _ _ _ hr =>
 ah (aL 0 AC.nd (av bF (av cj (ac 0) (ae)) (ae))) (ah (aQ (aN (bD hr.units150) (av bF (ac 0) (ae)) (ae)) (ak (az (av bd (bM) (lE HN T.z_str boot_str (ad (av bF (ac 0) (ae)) (ag)))))) (aH)) (ah (aQ (aN (bD hr.units150) (av bF (ac 0) (ae)) (ae)) (ak (az (av bF (av dj (ac 0) (ae)) (ae)))) (aH)) (ah (aQ (aN (bD hr.units150) (av bF (ac 0) (ae)) (ae)) (ak (az (av cj (ac 0) (av ww (ae) (ae))))) (aH)) (ak (az (av dt (av dt (av ww (ae) (ae)) (ae)) (ac 0)))))))
theorem Fw : aZ P w K mg base (CX1 P w) 1 A.a_26 A.d_26 ["_law_cell"] (jG K A) :=
 T.f_26.f.okS gX (Bj K A) (Fq T.1) fun _ _ _ _ _ _ hr =>
 ah (aL 1 gX.nd (bM)) (ah (aL 1 gX.nd (av bd (ac 1) (bM))) (ah (aL 2 gX.nd (av bF (ac 0) (ae))) (ah (aQ (aN (bD hr.units150) (av bF (av dj (ac 0) (ae)) (ae)) (ae)) (ak (aL 2 gX.nd (ae))) (aH)) (ah (aQ (aN (bD hr.units150) (av bF (av dj (ac 0) (ae)) (ae)) (ae)) (ak (aL 2 gX.nd (av bF (av dj (ac 0) (ae)) (ae)))) (aH)) (ah (aL 3 gX.nd (bM)) (ah (gM 4 gX.nd (jE T.z_range (ad (ac 2) (ag))) (ak (aL 3 gX.nd (av bd (ac 3) (ax (aj hr.units1) (ac 1) (av bF (av bd (av dj (ac 0) (ae)) (av cj (ac 4) (av bF (av dj (ac 0) (ae)) (ae)))) (aY cK T.z_len PySem.boot_len (ad (ac 1) (ag)))) (fun _ _ => rfl))))) PassesOwn.never) (ak (az (ac 3)))))))))
theorem GB : aZ P w K mg base (CX1 P w) 1 A.a_1 A.d_1 ["_law_number_here", "_law_begin_here", "_law_more", "_law_low", "_law_high", "_law_free"] (qi K A) :=
 T.f_1.f.okS AI (Ek K A) (GN T.1) fun _ _ _ _ _ _ hr =>
 ah (aQ (aN (bD hr.units150) (av bF (ac 0) (ae)) (ae)) (ak (az (av bd (av gJ (ac 1) (ac 2)) (av bF (av cj (ac 0) (ae)) (av gJ (ae) (ac 2)))))) (aH)) (ah (aL 6 AI.nd (av jQ (av bd (ac 3) (av bF (ac 0) (av bd (av dt (ac 4) (ac 3)) (ae)))) (av dt (ac 5) (ac 2)))) (ah (aQ (aN (dL hr.units150) (av jQ (ac 6) (ac 2)) (ac 1)) (ak (az (av gJ (ac 1) (ac 2)))) (aH)) (ak (az (ac 6)))))
theorem oD : ∀ n : Nat, aZ P w K mg base (CX1 P w) (1 + n) A.a_12 A.d_12 ["_law_cell", "_law_bits_here", "_law_low", "_law_high", "_law_depth", "_law_begin_here", "_law_deep"] (fL K A n)
 | 0 => ⟨fun vs H Q E h => (yF K A vs H Q E h).elim, fun _ _ _ H _ _ vs Q E _ _ _ _ h => (yF K A vs H Q E h).elim⟩
 | n + 1 => T.f_12.f.okS gZ (BP K A (n + 1)) (Dv T.1 n) fun _ _ _ _ _ _ (hr : bR (1 + n) _) =>
 ah (aL 7 gZ.nd (aD (Em T) hr.le T.f_10 (ad (ac 0) (ad (ac 4) (ad (ac 5) (ag)))))) (ah (aQ (bA (bw (aD (Cn T) hr.le T.f_9 (ad (ac 1) (ad (ac 2) (ad (ac 3) (ad (ac 4) (ad (ac 5) (ag))))))))) (ak (az (bQ (ad (bM) (ad (aD (GG T) hr.le T.f_8 (ad (ac 7) (ag))) (ag)))))) (aH)) (ah (aQ (x_w (gP (aN (bD hr.units150) (ac 4) (ae)) (fY (aN (bD hr.units150) (av bF (ac 7) (ae)) (ae))))) (ak (az (bQ (ad (bM) (ag))))) (aH)) (ah (aL 8 gZ.nd (av dt (ac 1) (ac 4))) (ah (aQ (x_w (dD (aN oLt (ac 6) (ae)) (dD (aN (bD hr.units150) (ac 8) (ae)) (dO (x_w (gP (aN (bD hr.units150) (av bF (ac 7) (ae)) (ae)) (fY (aN oLt (ac 6) (ae))))))))) (ah (aL 9 gZ.nd (av bd (av cj (ac 5) (av gJ (ae) (ac 8))) (av bF (av cj (av dj (ac 7) (ae)) (ae)) (av gJ (ae) (ac 8))))) (ah (aQ (x_w (gP (aN (bD hr.units150) (av bF (ac 7) (ae)) (ae)) (fY (aN (bD hr.units150) (av jQ (ac 2) (ac 8)) (ac 5))))) (ak (aL 9 gZ.nd (ac 2))) (aH)) (ak (az (bQ (ad (bM) (ad (ac 9) (ad (aD (Fw T) hr.le T.f_26 (ad (av dj (ac 7) (ae)) (ag))) (ag))))))))) (aH)) (ah (aL 10 gZ.nd (ax (aj hr.units1) (cL (ad (ae) (ad (av bF (av dj (ac 7) (ae)) (ac 8)) (ad (ae) (ad (av bF (av dj (ac 7) (ae)) (aY (Cb rfl) T.z_min boot_min (ad (ac 8) (ad (ae) (ag))))) (ag)))))) (av bF (ac 7) (ae)) (fun _ _ => rfl))) (ah (aL 11 gZ.nd (aD (GB T) hr.le T.f_1 (ad (ac 7) (ad (ac 5) (ad (ac 10) (ad (ac 2) (ad (ac 3) (ad (ac 8) (ag))))))))) (ah (aL 12 gZ.nd (aD (oD n) hr.le T.f_12 (ad (ac 0) (ad (ac 1) (ad (ac 2) (ad (ac 3) (ad (av bd (av bd (ac 4) (ac 10)) (ae)) (ad (av cj (ae) (ac 11)) (ad (av dt (ac 6) (ae)) (ag)))))))))) (ah (aL 13 gZ.nd (aD (oD n) hr.le T.f_12 (ad (ac 0) (ad (ac 1) (ad (ac 2) (ad (ac 3) (ad (av bd (av bd (ac 4) (ac 10)) (ae)) (ad (av bd (av cj (ae) (ac 11)) (ae)) (ad (av dt (ac 6) (ae)) (ag)))))))))) (ak (az (bQ (ad (bM) (ad (av bd (ac 4) (ac 10)) (ad (ac 11) (ad (ac 12) (ad (ac 13) (ag)))))))))))))))))
theorem sY : ∀ n : Nat, aZ P w K mg base (CX1 P w) (0 + n) A.a_21 A.d_21 ["_law_part_here", "_law_depth", "_law_begin_here", "_law_path"] (iP K A n)
 | 0 => ⟨fun vs H Q E h => (yq K A vs H Q E h).elim, fun _ _ _ H _ _ vs Q E _ _ _ _ h => (yq K A vs H Q E h).elim⟩
 | n + 1 => T.f_21.f.okS pA (Bs K A (n + 1)) (FL T.1 n) fun _ _ _ _ _ _ (hr : bR (0 + n) _) =>
 ah (aL 4 pA.nd (cL (ad (bQ (ad (ac 1) (ad (ac 2) (ad (ac 3) (ag))))) (ag)))) (ah (aQ (aN (bD hr.units150) (ax (aj hr.units1) (ac 0) (ae) (fun _ _ => rfl)) (bM)) (ah (aL 4 pA.nd (av bd (ac 4) (aD (sY n) hr.le T.f_21 (ad (ax (aj hr.units1) (ac 0) (ae) (fun _ _ => rfl)) (ad (av bd (ax (aj hr.units1) (ac 0) (ae) (fun _ _ => rfl)) (ae)) (ad (av cj (ae) (ax (aj hr.units1) (ac 0) (ae) (fun _ _ => rfl))) (ad (av bd (ac 3) (bQ (ad (ae) (ag)))) (ag)))))))) (ak (aL 4 pA.nd (av bd (ac 4) (aD (sY n) hr.le T.f_21 (ad (ax (aj hr.units1) (ac 0) (ae) (fun _ _ => rfl)) (ad (av bd (ax (aj hr.units1) (ac 0) (ae) (fun _ _ => rfl)) (ae)) (ad (av bd (av cj (ae) (ax (aj hr.units1) (ac 0) (ae) (fun _ _ => rfl))) (ae)) (ad (av bd (ac 3) (bQ (ad (ae) (ag)))) (ag)))))))))) (aH)) (ak (az (ac 4))))
theorem DZ : aZ P w K mg base (CX1 P w) 1 A.a_14 A.d_14 ["_law_part_here", "_law_path"] (lN K A) :=
 T.f_14.f.okS sC (Df K A) (Go T.1) fun _ _ _ _ _ _ hr =>
 ah (gM 2 sC.nd (gm (ac 1)) (ak (aL 0 sC.nd (ax (aj hr.units1) (ac 0) (ac 2) (fun _ _ => rfl)))) PassesOwn.never) (ak (az (ac 0)))
theorem nk : ∀ n : Nat, aZ P w K mg base (CX1 P w) (0 + n) A.a_7 A.d_7 ["_law_part_here"] (gx K A n)
 | 0 => ⟨fun vs H Q E h => (AN K A vs H Q E h).elim, fun _ _ _ H _ _ vs Q E _ _ _ _ h => (AN K A vs H Q E h).elim⟩
 | n + 1 => T.f_7.f.okS Hn (Gd K A (n + 1)) (Ie T.1 n) fun _ _ _ _ _ _ (hr : bR (0 + n) _) =>
 ah (aQ (aN (bD hr.units150) (ax (aj hr.units1) (ac 0) (ae) (fun _ _ => rfl)) (bM)) (ak (az (cL (ad (bQ (ad (ax (aj hr.units1) (ac 0) (ae) (fun _ _ => rfl)) (ad (ax (aj hr.units1) (ac 0) (ae) (fun _ _ => rfl)) (ag)))) (ag))))) (aH)) (ah (aQ (aN (bD hr.units150) (ax (aj hr.units1) (ac 0) (ae) (fun _ _ => rfl)) (bM)) (ak (az (av bd (aD (nk n) hr.le T.f_7 (ad (ax (aj hr.units1) (ac 0) (ae) (fun _ _ => rfl)) (ag))) (aD (nk n) hr.le T.f_7 (ad (ax (aj hr.units1) (ac 0) (ae) (fun _ _ => rfl)) (ag)))))) (aH)) (ak (az (cL (ag)))))
theorem Dd : aZ P w K mg base (CX1 P w) 1 A.a_6 A.d_6 ["_law_bits_here", "_law_cell", "_law_others"] (lh K A) :=
 T.f_6.f.okS rM (FB K A) (HG T.1) fun _ _ _ _ _ _ hr =>
 ah (aL 3 rM.nd (av gJ (ae) (ac 0))) (ah (aL 4 rM.nd (av dj (ac 1) (ae))) (ah (aQ (aN (bD hr.units150) (av bF (ac 1) (ae)) (ae)) (ak (az (av bF (ac 4) (ac 3)))) (aH)) (ah (aQ (aN (bD hr.units150) (av bF (ac 1) (ae)) (ae)) (ak (az (av dt (av dt (ac 3) (ae)) (av bF (ac 4) (ac 3))))) (aH)) (ah (aQ (x_w (gP (aN (bD hr.units150) (av bF (ac 1) (ae)) (ae)) (fY (aN (dL hr.units150) (ac 2) (cL (ag)))))) (ah (aL 5 rM.nd (av bF (av bF (av cj (ac 4) (ae)) (ae)) (ac 0))) (ak (az (av HU (ax (aj hr.units1) (ac 2) (av bF (ac 4) (aY cK T.z_len PySem.boot_len (ad (ac 2) (ag)))) (fun _ _ => rfl)) (av gJ (ae) (ac 5)))))) (aH)) (ak (az (av bF (av cj (ac 4) (ae)) (ac 3))))))))
theorem yp : aZ P w K mg base (CX1 P w) 2 A.a_22 A.d_22 ["_law_bits_here", "_law_key_here", "_law_cell"] (hZ K A) :=
 T.f_22.f.okS pD (CJ K A) (DF T.1) fun _ _ _ _ _ _ hr =>
 ah (aL 3 pD.nd (aD (Dd T) hr.le T.f_6 (ad (ac 0) (ad (ac 2) (ad (cL (ad (ac 1) (ag))) (ag)))))) (ah (aQ (aN (bD hr.units150) (av bF (ac 2) (ae)) (ae)) (ak (aL 3 pD.nd (ac 1))) (aH)) (ah (aQ (aN (bD hr.units150) (av bF (ac 2) (ae)) (ae)) (ak (aL 3 pD.nd (ae))) (aH)) (ak (az (bQ (ad (aY (Cb rfl) T.z_min boot_min (ad (ac 1) (ad (ac 3) (ag)))) (ad (aY (HL rfl) T.z_max boot_max (ad (ac 1) (ad (ac 3) (ag)))) (ag))))))))
theorem Gh (B : BM mg base) (C : W.CodeHd base A.k_23 A.t_23) (Ar : Around) (outer : List Env) (s : Shared) (H : Hp) (E : XK)
  (hr : bR 0 (Ar.deeper (envOfC "_law_sure" (ap ld) s.heap.objs.size A.a_23 (.ref A.k_23)))) : QMs (gR (CX1 P w) P w K mg base ["_law_first", "_law_known", "_law_number"] "_law_sure" (ap ld) A.a_23 (.ref A.k_23) Ar outer s H E).nox (bi ld) (BE K A (s.heap.objs.size + 1) (s.heap.objs.size + 1 + 1)) := (
 pS (qp (aL 1 sM.nd (ro))) (pS (qp (ya 2 sM.nd B C rfl (by rfl) (by simp) rfl rfl rfl rfl (fun _ _ _ _ _ us hl => by obtain ⟨_, rfl⟩ := L2.kK hl; rfl))) (yd (yG (ac 2)))))
theorem Ev : aZ P w K mg base (CX1 P w) 1 A.a_23 A.d_23 ["_law_first"] (oP K A) :=
 T.f_23.f.okM (caps := fun L => [(0, L + 1), (1, L + 1 + 1)]) T.kc_23 sM (Cw K A) (fun L p hp => by simp only [List.mem_cons, List.not_mem_nil, or_false] at hp; rcases hp with rfl | rfl <;> exact ⟨_, rfl, rfl, rfl⟩) (fun L => by simp) (fun Ar outer s H vs Q E hr h => ⟨_, QMs.nox (Gh T T.B T.C_23 Ar outer s H E hr), DE T.1 (s.heap.objs.size + 1) (s.heap.objs.size + 1 + 1) (by simp) vs H Q E h⟩)
theorem gO : nq P w K mg base 2 (eT K A) := fun ts hts => by
 simp only [eT, List.mem_cons, List.not_mem_nil, or_false] at hts
 rcases hts with rfl | rfl
 · exact (yB T).mono (by decide)
 · exact (EN T).mono (by decide)
theorem hJ : ∀ n : Nat, aZ P w K mg base (CX1 P w) (2 + n) A.a_11 A.d_11 ["_law_stamper", "_law_part_here"] (dh K A n)
 | 0 => ⟨fun vs H Q E h => (yJ K A vs H Q E h).elim, fun _ _ _ H _ _ vs Q E _ _ _ _ h => (yJ K A vs H Q E h).elim⟩
 | n + 1 => T.f_11.f.okS oK (CV K A (n + 1)) (FO T.1 n) fun _ _ _ _ _ _ (hr : bR (2 + n) _) =>
 ah (aQ (aN (bD hr.units150) (ax (aj hr.units1) (ac 1) (ae) (fun _ _ => rfl)) (bM)) (ak (az (bQ (ad (ax (aj hr.units1) (ac 1) (ae) (fun _ _ => rfl)) (ad (cL (ag)) (ag)))))) (aH)) (ah (aQ (aN (dL hr.units150) (ax (aj hr.units1) (ac 1) (ae) (fun _ _ => rfl)) (bM)) (ak (az (bQ (ad (fI (gO T) hr.le gq (ac 0) (ad (ac 1) (ag))) (ad (cL (ad (ac 1) (ag))) (ag)))))) (aH)) (ah (aL 2 oK.nd (aD (hJ n) hr.le T.f_11 (ad (ac 0) (ad (ax (aj hr.units1) (ac 1) (ae) (fun _ _ => rfl)) (ag))))) (ah (aL 3 oK.nd (aD (hJ n) hr.le T.f_11 (ad (ac 0) (ad (ax (aj hr.units1) (ac 1) (ae) (fun _ _ => rfl)) (ag))))) (ah (aL 4 oK.nd (bQ (ad (bM) (ad (ax (aj hr.units1) (ac 1) (ae) (fun _ _ => rfl)) (ad (ax (aj hr.units1) (ac 1) (ae) (fun _ _ => rfl)) (ad (ax (aj hr.units1) (ac 2) (ae) (fun _ _ => rfl)) (ad (ax (aj hr.units1) (ac 3) (ae) (fun _ _ => rfl)) (ag)))))))) (ak (az (bQ (ad (fI (gO T) hr.le gq (ac 0) (ad (ac 4) (ag))) (ad (av bd (av bd (ax (aj hr.units1) (ac 2) (ae) (fun _ _ => rfl)) (ax (aj hr.units1) (ac 3) (ae) (fun _ _ => rfl))) (cL (ad (ac 4) (ag)))) (ag))))))))))
theorem DI (B : BM mg base) (C : W.CodeHd base A.k_15 A.t_15) (Ar : Around) (outer : List Env) (s : Shared) (H : Hp) (E : XK)
  (hr : bR 0 (Ar.deeper (envOfC "_law_planted" (ap lf) s.heap.objs.size A.a_15 (.ref A.k_15)))) : QMs (gR (CX1 P w) P w K mg base ["_law_sure_one", "_law_one", "_law_other", "_law_number"] "_law_planted" (ap lf) A.a_15 (.ref A.k_15) Ar outer s H E).nox (bi lf) (Bc K A (s.heap.objs.size + 1) (s.heap.objs.size + 1 + 1) (s.heap.objs.size + 1 + 1 + 1)) := (
 pS (qp (ya 3 yy.nd B C rfl (by rfl) (by simp) rfl rfl rfl rfl (fun _ _ _ _ _ us hl => by obtain ⟨_, rfl⟩ := L2.kK hl; rfl))) (yd (yG (ac 3))))
theorem Fe : aZ P w K mg base (CX1 P w) 1 A.a_15 A.d_15 ["_law_sure_one", "_law_one", "_law_other"] (lU K A) :=
 T.f_15.f.okM (caps := fun L => [(0, L + 1), (1, L + 1 + 1), (2, L + 1 + 1 + 1)]) T.kc_15 yy (Dm K A) (fun L p hp => by simp only [List.mem_cons, List.not_mem_nil, or_false] at hp; rcases hp with rfl | rfl | rfl <;> exact ⟨_, rfl, rfl, rfl⟩) (fun L => by simp) (fun Ar outer s H vs Q E hr h => ⟨_, QMs.nox (DI T T.B T.C_15 Ar outer s H E hr), Eu T.1 (s.heap.objs.size + 1) (s.heap.objs.size + 1 + 1) (s.heap.objs.size + 1 + 1 + 1) (by simp) vs H Q E h⟩)
theorem rP : ∀ n : Nat, aZ P w K mg base (CX1 P w) (0 + n) A.a_29 A.d_29 ["_law_part_here", "_law_path", "_law_new"] (gY K A n)
 | 0 => ⟨fun vs H Q E h => (yO K A vs H Q E h).elim, fun _ _ _ H _ _ vs Q E _ _ _ _ h => (yO K A vs H Q E h).elim⟩
 | n + 1 => T.f_29.f.okS yf (Ap K A (n + 1)) (Eo T.1 n) fun _ _ _ _ _ _ (hr : bR (0 + n) _) =>
 ah (aQ (aN (bD hr.units150) (ac 1) (bQ (ag))) (ak (az (ac 2))) (aH)) (ah (aL 3 yf.nd (ax (aj hr.units1) (ac 1) (ae) (fun _ _ => rfl))) (ak (az (av bd (av bd (jk kd (ac 0) (kH) (il (ac 3))) (bQ (ad (aD (rP n) hr.le T.f_29 (ad (ax (aj hr.units1) (ac 0) (ac 3) (fun _ _ => rfl)) (ad (jk kd (ac 1) (il (ae)) (kH)) (ad (ac 2) (ag))))) (ag)))) (jk kd (ac 0) (il (av bd (ac 3) (ae))) (kH))))))
theorem xt : ∀ n : Nat, aZ P w K mg base (CX1 P w) (72 + n) A.a_3 A.d_3 ["_law_stamper", "_law_bits_here", "_law_ends", "_law_depth", "_law_begin_here", "_law_part_here"] (lw K A n)
 | 0 => ⟨fun vs H Q E h => (Ak K A vs H Q E h).elim, fun _ _ _ H _ _ vs Q E _ _ _ _ h => (Ak K A vs H Q E h).elim⟩
 | n + 1 => T.f_3.f.okS xb (FT K A (n + 1)) (HS T.1 n) fun _ _ _ _ _ _ (hr : bR (72 + n) _) =>
 ah (aQ (bA (bw (aD (Cn T) hr.le T.f_9 (ad (ac 1) (ad (ax (aj hr.units1) (ac 2) (ae) (fun _ _ => rfl)) (ad (ax (aj hr.units1) (ac 2) (ae) (fun _ _ => rfl)) (ad (ac 3) (ad (ac 4) (ag))))))))) (ak (az (bQ (ad (bM) (ad (ax (aj hr.units1) (aD (hJ T 70) hr.le T.f_11 (ad (ac 0) (ad (ac 5) (ag)))) (ae) (fun _ _ => rfl)) (ag)))))) (aH)) (ah (aQ (aN (dL hr.units150) (ax (aj hr.units1) (ac 5) (ae) (fun _ _ => rfl)) (bM)) (ak (az (ac 5))) (aH)) (ah (aL 6 xb.nd (aD (xt n) hr.le T.f_3 (ad (ac 0) (ad (ac 1) (ad (ac 2) (ad (av bd (ax (aj hr.units1) (ac 5) (ae) (fun _ _ => rfl)) (ae)) (ad (av cj (ae) (ax (aj hr.units1) (ac 5) (ae) (fun _ _ => rfl))) (ad (ax (aj hr.units1) (ac 5) (ae) (fun _ _ => rfl)) (ag))))))))) (ah (aL 7 xb.nd (aD (xt n) hr.le T.f_3 (ad (ac 0) (ad (ac 1) (ad (ac 2) (ad (av bd (ax (aj hr.units1) (ac 5) (ae) (fun _ _ => rfl)) (ae)) (ad (av bd (av cj (ae) (ax (aj hr.units1) (ac 5) (ae) (fun _ _ => rfl))) (ae)) (ad (ax (aj hr.units1) (ac 5) (ae) (fun _ _ => rfl)) (ag))))))))) (ak (az (bQ (ad (bM) (ad (ax (aj hr.units1) (ac 5) (ae) (fun _ _ => rfl)) (ad (ax (aj hr.units1) (ac 5) (ae) (fun _ _ => rfl)) (ad (ac 6) (ad (ac 7) (ag))))))))))))
theorem mj : aZ P w K mg base (CX1 P w) 1 A.a_45 A.d_45 ["thing"] (iQ K A) :=
 T.f_45.f.okS Ex (CH K A) (Dy T.1) fun _ _ _ _ _ _ hr =>
 ak (az (dA (aY eD T.z_isinstance boot_isinstance (ad (ac 0) (ad (eF T.z_int boot_int) (ag)))) (fj (yk (aY eD T.z_isinstance boot_isinstance (ad (ac 0) (ad (eF T.z_bool boot_bool) (ag))))))))
theorem my : aZ P w K mg base (CX1 P w) 2 A.a_38 A.d_38 ["bits", "thing"] (iK K A) :=
 T.f_38.f.okS FM (AU K A) (Gm T.1) fun _ _ _ _ _ _ hr =>
 ak (az (dA (aD (mj T) hr.le T.f_45 (ad (ac 1) (ag))) (fj (mV oLe oLt (ae) (ac 1) (av gJ (ae) (ac 0))))))
theorem yQ : aZ P w K mg base (CX1 P w) 3 A.a_33 A.d_33 ["bits", "low", "high"] (mC K A) :=
 T.f_33.f.okS FK (BA K A) (DC T.1) fun _ _ _ _ _ _ hr =>
 ah (aQ (x_w (dD (bA (bw (aD (my T) hr.le T.f_38 (ad (ac 0) (ad (ac 1) (ag)))))) (dO (bA (bw (aD (my T) hr.le T.f_38 (ad (ac 0) (ad (ac 2) (ag))))))))) (ak (eV)) (aH)) (ak (aQ (aN oGt (ac 1) (ac 2)) (ak (eV)) (aH)))
theorem Eb : aZ P w K mg base (CX1 P w) 1 A.a_57 A.d_57 ["bits", "depth", "begin"] (pe K A) :=
 T.f_57.f.okS yI (CF K A) (Ej T.1) fun _ _ _ _ _ _ hr =>
 ah (aL 3 yI.nd (av dt (ac 0) (ac 1))) (ak (az (bQ (ad (av gJ (ac 2) (ac 3)) (ad (av dt (av gJ (av bd (ac 2) (ae)) (ac 3)) (ae)) (ag))))))
theorem Fl : aZ P w K mg base (CX1 P w) 2 A.a_47 A.d_47 ["bits", "low", "high", "depth", "begin"] (pC K A) :=
 T.f_47.f.okS yL (Dr K A) (EM T.1) fun _ _ _ _ _ _ hr =>
 ah (aL 5 yL.nd (aD (Eb T) hr.le T.f_57 (ad (ac 0) (ad (ac 3) (ad (ac 4) (ag)))))) (ak (az (dA (dY oLe (ax (aj hr.units1) (ac 5) (ae) (fun _ _ => rfl)) (ac 2)) (fj (dY oLe (ac 1) (ax (aj hr.units1) (ac 5) (ae) (fun _ _ => rfl)))))))
theorem oI : aZ P w K mg base (CX1 P w) 2 A.a_42 A.d_42 ["thing"] (jm K A) :=
 T.f_42.f.okS Ep (Di K A) (DG T.1) fun _ _ _ _ _ _ hr =>
 ah (aQ (bw (aD (mj T) hr.le T.f_45 (ad (ac 0) (ag)))) (ak (az (mV oLe oLt (ae) (ac 0) (av ww (ae) (ae))))) (aH)) (ak (az (aY eD T.z_isinstance boot_isinstance (ad (ac 0) (ad (eF T.z_str boot_str) (ag))))))
theorem FY : aZ P w K mg base (CX1 P w) 3 A.a_35 A.d_35 ["thing"] (pE K A) :=
 T.f_35.f.okS DA (Be K A) (FX T.1) fun _ _ _ _ _ _ hr =>
 ak (az (dA (aY eD T.z_isinstance boot_isinstance (ad (ac 0) (ad (eF T.z_tuple boot_tuple) (ag)))) (dA (dY (bD hr.units150) (aY cK T.z_len PySem.boot_len (ad (ac 0) (ag))) (ae)) (dA (dY (bD hr.units150) (ax (aj hr.units1) (ac 0) (ae) (fun _ _ => rfl)) (bM)) (fj (aD (oI T) hr.le T.f_42 (ad (ax (aj hr.units1) (ac 0) (ae) (fun _ _ => rfl)) (ag))))))))
theorem EX : aZ P w K mg base (CX1 P w) 1 A.a_44 A.d_44 ["thing"] (ph K A) :=
 T.f_44.f.okS DL (AD K A) (Es T.1) fun _ _ _ _ _ _ hr =>
 ak (az (dA (aY eD T.z_isinstance boot_isinstance (ad (ac 0) (ad (eF T.z_str boot_str) (ag)))) (fj (dY oLe (aY cK T.z_len PySem.boot_len (ad (ac 0) (ag))) (HI T.c_MOST_SIGNS)))))
theorem lZ : aZ P w K mg base (CX1 P w) 1 A.a_58 A.d_58 ["bits", "key", "depth"] (iI K A) :=
 T.f_58.f.okS FZ (AO K A) (EY T.1) fun _ _ _ _ _ _ hr =>
 ak (az (av jQ (ac 1) (av dt (ac 0) (ac 2))))
theorem yH : aZ P w K mg base (CX1 P w) 3 A.a_39 A.d_39 ["bits", "depth", "begin", "thing"] (kP K A) :=
 T.f_39.f.okS Gb (Bz K A) (DT T.1) fun _ _ _ _ _ _ hr =>
 ah (aQ (x_w (dD (bA (bw (aY eD T.z_isinstance boot_isinstance (ad (ac 3) (ad (eF T.z_tuple boot_tuple) (ag)))))) (dD (aN (dL hr.units150) (aY cK T.z_len PySem.boot_len (ad (ac 3) (ag))) (ae)) (dO (aN (dL hr.units150) (ax (aj hr.units1) (ac 3) (ae) (fun _ _ => rfl)) (bM)))))) (ak (az (cG))) (aH)) (ah (aQ (x_w (dD (bA (bw (aD (my T) hr.le T.f_38 (ad (ac 0) (ad (ax (aj hr.units1) (ac 3) (ae) (fun _ _ => rfl)) (ag)))))) (dO (bA (bw (aD (EX T) hr.le T.f_44 (ad (ax (aj hr.units1) (ac 3) (ae) (fun _ _ => rfl)) (ag)))))))) (ak (az (cG))) (aH)) (ak (az (dY (bD hr.units150) (aD (lZ T) hr.le T.f_58 (ad (ac 0) (ad (ax (aj hr.units1) (ac 3) (ae) (fun _ _ => rfl)) (ad (ac 1) (ag))))) (ac 2)))))
theorem yz : aZ P w K mg base (CX1 P w) 2 A.a_37 A.d_37 ["bits", "depth", "begin", "thing"] (kC K A) :=
 T.f_37.f.okS Ft (Bd K A) (Gi T.1) fun _ _ _ _ _ _ hr =>
 ah (aQ (x_w (dD (bA (bw (aY eD T.z_isinstance boot_isinstance (ad (ac 3) (ad (eF T.z_tuple boot_tuple) (ag)))))) (dD (aN (dL hr.units150) (aY cK T.z_len PySem.boot_len (ad (ac 3) (ag))) (ae)) (dO (aN (dL hr.units150) (ax (aj hr.units1) (ac 3) (ae) (fun _ _ => rfl)) (bM)))))) (ak (az (cG))) (aH)) (ah (aQ (x_w (dD (bA (bw (aD (mj T) hr.le T.f_45 (ad (ax (aj hr.units1) (ac 3) (ae) (fun _ _ => rfl)) (ag))))) (dO (bA (ix oLe oLt (ac 1) (ax (aj hr.units1) (ac 3) (ae) (fun _ _ => rfl)) (ac 0)))))) (ak (az (cG))) (aH)) (ah (aQ (x_w (dD (bA (bw (aD (mj T) hr.le T.f_45 (ad (ax (aj hr.units1) (ac 3) (ae) (fun _ _ => rfl)) (ag))))) (dO (bA (ix oLe oLt (ae) (ax (aj hr.units1) (ac 3) (ae) (fun _ _ => rfl)) (av gJ (ae) (ax (aj hr.units1) (ac 3) (ae) (fun _ _ => rfl)))))))) (ak (az (cG))) (aH)) (ak (az (dY (bD hr.units150) (av jQ (ax (aj hr.units1) (ac 3) (ae) (fun _ _ => rfl)) (av dt (ax (aj hr.units1) (ac 3) (ae) (fun _ _ => rfl)) (ac 1))) (ac 2))))))
theorem DX : aZ P w K mg base (CX1 P w) 4 A.a_40 A.d_40 ["bits", "low", "high", "depth", "begin", "thing"] (oH K A) :=
 T.f_40.f.okS En (Cm K A) (FH T.1) fun _ _ _ _ _ _ hr =>
 ah (aQ (bA (bw (aD (Fl T) hr.le T.f_47 (ad (ac 0) (ad (ac 1) (ad (ac 2) (ad (ac 3) (ad (ac 4) (ag))))))))) (ak (az (aD (FY T) hr.le T.f_35 (ad (ac 5) (ag))))) (aH)) (ah (aQ (aN (bD hr.units150) (ac 5) (bQ (ad (bM) (ag)))) (ak (az (dY (bD hr.units150) (ac 3) (ae)))) (aH)) (ak (az (Io (aD (yH T) hr.le T.f_39 (ad (ac 0) (ad (ac 3) (ad (ac 4) (ad (ac 5) (ag)))))) (fj (aD (yz T) hr.le T.f_37 (ad (ac 0) (ad (ac 3) (ad (ac 4) (ad (ac 5) (ag)))))))))))
theorem pw : ∀ n : Nat, aZ P w K mg base (CX1 P w) (4 + n) A.a_32 A.d_32 ["bits", "low", "high", "depth", "begin", "part"] (iL K A n)
 | 0 => ⟨fun vs H Q E h => (yA K A vs H Q E h).elim, fun _ _ _ H _ _ vs Q E _ _ _ _ h => (yA K A vs H Q E h).elim⟩
 | n + 1 => T.f_32.f.okS Fr (Au K A (n + 1)) (FS T.1 n) fun _ _ _ _ _ _ (hr : bR (4 + n) _) =>
 ah (aQ (bA (bw (aD (DX T) hr.le T.f_40 (ad (ac 0) (ad (ac 1) (ad (ac 2) (ad (ac 3) (ad (ac 4) (ad (ac 5) (ag)))))))))) (ak (eV)) (aH)) (ak (aQ (aN (bD hr.units150) (ax (aj hr.units1) (ac 5) (ae) (fun _ _ => rfl)) (bM)) (ah (dN (aD (pw n) hr.le T.f_32 (ad (ac 0) (ad (ac 1) (ad (ac 2) (ad (av bd (ax (aj hr.units1) (ac 5) (ae) (fun _ _ => rfl)) (ae)) (ad (av cj (ae) (ax (aj hr.units1) (ac 5) (ae) (fun _ _ => rfl))) (ad (ax (aj hr.units1) (ac 5) (ae) (fun _ _ => rfl)) (ag))))))))) (ak (dN (aD (pw n) hr.le T.f_32 (ad (ac 0) (ad (ac 1) (ad (ac 2) (ad (av bd (ax (aj hr.units1) (ac 5) (ae) (fun _ _ => rfl)) (ae)) (ad (av bd (av cj (ae) (ax (aj hr.units1) (ac 5) (ae) (fun _ _ => rfl))) (ae)) (ad (ax (aj hr.units1) (ac 5) (ae) (fun _ _ => rfl)) (ag))))))))))) (aH)))
theorem Fi : aZ P w K mg base (CX1 P w) 75 A.a_31 A.d_31 ["bits", "low", "high", "paper"] (pB K A) :=
 T.f_31.f.okS ET (Cq K A) (FW T.1) fun _ _ _ _ _ _ hr =>
 ah (dN (aD (yQ T) hr.le T.f_33 (ad (ac 0) (ad (ac 1) (ad (ac 2) (ag)))))) (ak (dN (aD (pw T 70) hr.le T.f_32 (ad (ac 0) (ad (ac 1) (ad (ac 2) (ad (ae) (ad (ae) (ad (ac 3) (ag))))))))))
theorem rW : aZ P w K mg base (CX1 P w) 3 A.a_48 A.d_48 ["stamper", "part", "terms"] (jx K A) :=
 T.f_48.f.okS EU (Bl K A) (ER T.1) fun _ _ _ _ _ _ hr =>
 ak (az (xl (aN (bD hr.units150) (ax (aj hr.units1) (ac 1) (ae) (fun _ _ => rfl)) (bM)) (ax (aj hr.units1) (ac 1) (ae) (fun _ _ => rfl)) (fI (gO T) hr.le gq (ac 0) (ad (ax (aj hr.units1) (ac 2) (eY (ae)) (fun _ _ => rfl)) (ag)))))
theorem mF : ∀ n : Nat, aZ P w K mg base (CX1 P w) (3 + n) A.a_49 A.d_49 ["stamper", "part"] (gz K A n)
 | 0 => ⟨fun vs H Q E h => (yc K A vs H Q E h).elim, fun _ _ _ H _ _ vs Q E _ _ _ _ h => (yc K A vs H Q E h).elim⟩
 | n + 1 => T.f_49.f.okS oz (CP K A (n + 1)) (Fu T.1 n) fun _ _ _ _ _ _ (hr : bR (3 + n) _) =>
 ah (aQ (aN (bD hr.units150) (ax (aj hr.units1) (ac 1) (ae) (fun _ _ => rfl)) (bM)) (ak (az (cL (ag)))) (aH)) (ah (aQ (aN (dL hr.units150) (ax (aj hr.units1) (ac 1) (ae) (fun _ _ => rfl)) (bM)) (ak (az (cL (ad (ac 1) (ag))))) (aH)) (ah (aL 2 oz.nd (aD (mF n) hr.le T.f_49 (ad (ac 0) (ad (ax (aj hr.units1) (ac 1) (ae) (fun _ _ => rfl)) (ag))))) (ah (aL 3 oz.nd (aD (mF n) hr.le T.f_49 (ad (ac 0) (ad (ax (aj hr.units1) (ac 1) (ae) (fun _ _ => rfl)) (ag))))) (ah (aL 4 oz.nd (bQ (ad (aD (rW T) hr.le T.f_48 (ad (ac 0) (ad (ax (aj hr.units1) (ac 1) (ae) (fun _ _ => rfl)) (ad (ac 2) (ag))))) (ad (aD (rW T) hr.le T.f_48 (ad (ac 0) (ad (ax (aj hr.units1) (ac 1) (ae) (fun _ _ => rfl)) (ad (ac 3) (ag))))) (ag))))) (ak (az (av bd (av bd (ac 2) (ac 3)) (cL (ad (bQ (ad (bM) (ad (ax (aj hr.units1) (ac 1) (ae) (fun _ _ => rfl)) (ad (ax (aj hr.units1) (ac 1) (ae) (fun _ _ => rfl)) (ad (ax (aj hr.units1) (ac 4) (ae) (fun _ _ => rfl)) (ad (ax (aj hr.units1) (ac 4) (ae) (fun _ _ => rfl)) (ag))))))) (ag))))))))))
theorem sj : aZ P w K mg base (CX1 P w) 76 A.a_62 A.d_62 ["stamper", "bits", "low", "high", "paper"] (kO K A) :=
 T.f_62.f.okS DQ (Bf K A) (DU T.1) fun _ _ _ _ _ _ hr =>
 ah (dN (aD (Fi T) hr.le T.f_31 (ad (ac 1) (ad (ac 2) (ad (ac 3) (ad (ac 4) (ag))))))) (ak (az (aD (mF T 70) hr.le T.f_49 (ad (ac 0) (ad (ac 4) (ag))))))
theorem EI : aZ P w K mg base (CX1 P w) 77 A.a_61 A.d_61 ["stamper", "bits", "low", "high", "paper"] (oE K A) :=
 T.f_61.f.okS Ez (Am K A) (EK T.1) fun _ _ _ _ _ _ hr =>
 ak (az (fI (gO T) hr.le gq (ac 0) (ad (ax (aj hr.units1) (aD (sj T) hr.le T.f_62 (ad (ac 0) (ad (ac 1) (ad (ac 2) (ad (ac 3) (ad (ac 4) (ag))))))) (eY (ae)) (fun _ _ => rfl)) (ag))))
theorem EQ : aZ P w K mg base (CX1 P w) 1 A.a_50 A.d_50 ["low", "high", "terms"] (pG K A) :=
 T.f_50.f.okS Fx (Ad K A) (EE T.1) fun _ _ _ _ _ _ hr =>
 ak (az (tU (ys := ["low", "high"]) (by exact ⟨rfl, by decide +kernel, by decide +kernel, rfl, by decide +kernel, by decide +kernel⟩) (by exact .cons rfl (by first | exact .inl rfl | exact .inr rfl) rfl (.cons rfl (by first | exact .inl rfl | exact .inr rfl) rfl (.nil))) (gm (ac 2)) (fun C s H fp => qN (x_w (gP (aN (bD hr.units150) (ax (aj hr.units1) (ac 0) (ae) (fun _ _ => rfl)) (bM)) (fY (ix oLe oLe (ac 1) (ax (aj hr.units1) (ac 0) (ae) (fun _ _ => rfl)) (ac 2)))))) (fun C s H fp => (bQ (ad (ax (aj hr.units1) (ac 0) (ae) (fun _ _ => rfl)) (ad (ax (aj hr.units1) (ac 0) (ae) (fun _ _ => rfl)) (ag)))))))
theorem DN : aZ P w K mg base (CX1 P w) 77 A.a_60 A.d_60 ["stamper", "bits", "mark", "low", "high", "paper"] (oO K A) :=
 T.f_60.f.okS rK (AY K A) (Fs T.1) fun _ _ _ _ _ _ hr =>
 ah (aL 6 rK.nd (aD (sj T) hr.le T.f_62 (ad (ac 0) (ad (ac 1) (ad (ac 3) (ad (ac 4) (ad (ac 5) (ag)))))))) (ah (aL 7 rK.nd (fI (gO T) hr.le gq (ac 0) (ad (ax (aj hr.units1) (ac 6) (eY (ae)) (fun _ _ => rfl)) (ag)))) (ah (aQ (aN (dL hr.units150) (ac 7) (ac 2)) (ak (eV)) (aH)) (ak (az (aD (EQ T) hr.le T.f_50 (ad (ac 3) (ad (ac 4) (ad (ac 6) (ag)))))))))
theorem Gp : aZ P w K mg base (CX1 P w) 1 A.a_13 A.d_13 ["_law_found", "_law_due"] (oZ K A) :=
 T.f_13.f.okS Ei (An K A) (FD T.1) fun _ _ _ _ _ _ hr =>
 ah (aQ (bw (aY eD T.z_isinstance boot_isinstance (ad (ac 1) (ad (eF T.z_str boot_str) (ag))))) (ak (az (dA (aY eD T.z_isinstance boot_isinstance (ad (ac 0) (ad (eF T.z_str boot_str) (ag)))) (fj (dY (bD hr.units150) (ac 0) (ac 1)))))) (aH)) (ak (az (dA (aY eD T.z_isinstance boot_isinstance (ad (ac 0) (ad (eF T.z_int boot_int) (ag)))) (dA (yk (aY eD T.z_isinstance boot_isinstance (ad (ac 0) (ad (eF T.z_bool boot_bool) (ag))))) (fj (dY (bD hr.units150) (ac 0) (ac 1)))))))
theorem rO : aZ P w K mg base (CX1 P w) 2 A.a_25 A.d_25 ["_law_found", "_law_due"] (kR K A) :=
 T.f_25.f.okS yt (Av K A) (FA T.1) fun _ _ _ _ _ _ hr =>
 ah (aQ (x_w (dD (bA (bw (aY eD T.z_isinstance boot_isinstance (ad (ac 0) (ad (eF T.z_tuple boot_tuple) (ag)))))) (dO (aN (dL hr.units150) (aY cK T.z_len PySem.boot_len (ad (ac 0) (ag))) (aY cK T.z_len PySem.boot_len (ad (ac 1) (ag))))))) (ak (az (cG))) (aH)) (ah (gM 2 yt.nd (jE T.z_range (ad (aY cK T.z_len PySem.boot_len (ad (ac 1) (ag))) (ag))) (ak (aQ (bA (bw (aD (Gp T) hr.le T.f_13 (ad (ax (aj hr.units1) (ac 0) (ac 2) (fun _ _ => rfl)) (ad (ax (aj hr.units1) (ac 1) (ac 2) (fun _ _ => rfl)) (ag)))))) (ak (az (cG))) (aH))) PassesOwn.never) (ak (az (cG))))
theorem Ff : aZ P w K mg base (CX1 P w) 3 A.a_17 A.d_17 ["_law_found", "_law_due"] (oY K A) :=
 T.f_17.f.okS yh (As K A) (EJ T.1) fun _ _ _ _ _ _ hr =>
 ah (aQ (x_w (dD (bA (bw (aY eD T.z_isinstance boot_isinstance (ad (ac 0) (ad (eF T.z_list boot_list) (ag)))))) (dO (aN (dL hr.units150) (aY cK T.z_len PySem.boot_len (ad (ac 0) (ag))) (aY cK T.z_len PySem.boot_len (ad (ac 1) (ag))))))) (ak (az (cG))) (aH)) (ah (gM 2 yh.nd (jE T.z_range (ad (aY cK T.z_len PySem.boot_len (ad (ac 1) (ag))) (ag))) (ak (aQ (bA (bw (aD (rO T) hr.le T.f_25 (ad (ax (aj hr.units1) (ac 0) (ac 2) (fun _ _ => rfl)) (ad (ax (aj hr.units1) (ac 1) (ac 2) (fun _ _ => rfl)) (ag)))))) (ak (az (cG))) (aH))) PassesOwn.never) (ak (az (cG))))
theorem GI : aZ P w K mg base (CX1 P w) 71 A.a_4 A.d_4 ["_law_part_here", "_law_low", "_law_high"] (sr K A) :=
 T.f_4.f.okS Gs (FJ K A) (Ih T.1) fun _ _ _ _ _ _ hr =>
 ak (az (tU (ys := ["_law_low", "_law_high"]) (by exact ⟨rfl, by decide +kernel, by decide +kernel, rfl, by decide +kernel, by decide +kernel⟩) (by exact .cons rfl (by first | exact .inl rfl | exact .inr rfl) rfl (.cons rfl (by first | exact .inl rfl | exact .inr rfl) rfl (.nil))) (gm (aD (nk T 70) hr.le T.f_7 (ad (ac 0) (ag)))) (fun C s H fp => qN (ix oLe oLe (ac 1) (ax (aj hr.units1) (ac 0) (ae) (fun _ _ => rfl)) (ac 2))) (fun C s H fp => (ac 0))))
theorem DB : aZ P w K mg base (CX1 P w) 73 A.a_20 A.d_20 ["_law_stamper", "_law_bits_here", "_law_part_here", "_law_key_here"] (oJ K A) :=
 T.f_20.f.okS oN (Co K A) (FU T.1) fun _ _ _ _ _ _ hr =>
 ah (aL 4 oN.nd (cL (ag))) (ah (qX (x_w (gP (aN (bD hr.units150) (ax (aj hr.units1) (ac 2) (ae) (fun _ _ => rfl)) (bM)) (fY (aN (bD hr.units150) (av jQ (ac 3) (av dt (ac 1) (ax (aj hr.units1) (ac 2) (ae) (fun _ _ => rfl)))) (ax (aj hr.units1) (ac 2) (ae) (fun _ _ => rfl)))))) (ak (aQ (aN (bD hr.units150) (av yi (av jQ (ac 3) (av dt (av dt (ac 1) (ax (aj hr.units1) (ac 2) (ae) (fun _ _ => rfl))) (ae))) (ae)) (ae)) (ah (dN (jV PySem.F.plainAttrs_list PySem.F.slot_list_append PySem.F.type_list_append eL (ac 4) (ad (bQ (ad (ax (aj hr.units1) (ac 2) (ae) (fun _ _ => rfl)) (ad (ax (aj hr.units1) (aD (hJ T 70) hr.le T.f_11 (ad (ac 0) (ad (ax (aj hr.units1) (ac 2) (ae) (fun _ _ => rfl)) (ag)))) (ae) (fun _ _ => rfl)) (ag)))) (ag)))) (ak (aL 2 oN.nd (ax (aj hr.units1) (ac 2) (ae) (fun _ _ => rfl))))) (ah (dN (jV PySem.F.plainAttrs_list PySem.F.slot_list_append PySem.F.type_list_append eL (ac 4) (ad (bQ (ad (ax (aj hr.units1) (ac 2) (ae) (fun _ _ => rfl)) (ad (ax (aj hr.units1) (aD (hJ T 70) hr.le T.f_11 (ad (ac 0) (ad (ax (aj hr.units1) (ac 2) (ae) (fun _ _ => rfl)) (ag)))) (ae) (fun _ _ => rfl)) (ag)))) (ag)))) (ak (aL 2 oN.nd (ax (aj hr.units1) (ac 2) (ae) (fun _ _ => rfl))))))) PassesOwn.never) (ak (az (bQ (ad (lE uJ T.z_tuple boot_tuple (ad (ac 4) (ag))) (ad (ax (aj hr.units1) (ax (aj hr.units1) (aD (hJ T 70) hr.le T.f_11 (ad (ac 0) (ad (ac 2) (ag)))) (ae) (fun _ _ => rfl)) (eY (ae)) (fun _ _ => rfl)) (ag)))))))
theorem DD : aZ P w K mg base (CX1 P w) 3 A.a_43 A.d_43 ["bits", "least", "thing"] (oG K A) :=
 T.f_43.f.okS EZ (Ao K A) (Fc T.1) fun _ _ _ _ _ _ hr =>
 ah (aQ (x_w (dD (bA (bw (aY eD T.z_isinstance boot_isinstance (ad (ac 2) (ad (eF T.z_tuple boot_tuple) (ag)))))) (dO (aN (dL hr.units150) (aY cK T.z_len PySem.boot_len (ad (ac 2) (ag))) (ae))))) (ak (az (cG))) (aH)) (ak (az (dA (aD (mj T) hr.le T.f_45 (ad (ax (aj hr.units1) (ac 2) (ae) (fun _ _ => rfl)) (ag))) (dA (mV oLe oLt (ac 1) (ax (aj hr.units1) (ac 2) (ae) (fun _ _ => rfl)) (ac 0)) (fj (aD (oI T) hr.le T.f_42 (ad (ax (aj hr.units1) (ac 2) (ae) (fun _ _ => rfl)) (ag))))))))
theorem EG : aZ P w K mg base (CX1 P w) 4 A.a_30 A.d_30 ["bits", "thing"] (oW K A) :=
 T.f_30.f.okS oV (Dq K A) (DJ T.1) fun _ _ _ _ _ _ hr =>
 ah (aQ (bA (bw (aY eD T.z_isinstance boot_isinstance (ad (ac 1) (ad (eF T.z_tuple boot_tuple) (ag)))))) (ak (az (cG))) (aH)) (ah (aL 2 oV.nd (ae)) (ah (gM 3 oV.nd (gm (ac 1)) (ah (aQ (bA (bw (aD (DD T) hr.le T.f_43 (ad (ac 0) (ad (ac 2) (ad (ac 3) (ag))))))) (ak (az (cG))) (aH)) (ak (aL 2 oV.nd (av bd (ax (aj hr.units1) (ac 3) (ae) (fun _ _ => rfl)) (ae))))) PassesOwn.never) (ak (az (cG)))))
theorem Ge : aZ P w K mg base (CX1 P w) 4 A.a_36 A.d_36 ["bits", "key", "place", "thing"] (pF K A) :=
 T.f_36.f.okS yT (Ab K A) (EA T.1) fun _ _ _ _ _ _ hr =>
 ah (aQ (aN (bD hr.units150) (ac 3) (bQ (ad (bM) (ag)))) (ak (az (dY (bD hr.units150) (ac 2) (ae)))) (aH)) (ah (aL 4 yT.nd (aD (lZ T) hr.le T.f_58 (ad (ac 0) (ad (ac 1) (ad (ac 2) (ag)))))) (ah (aQ (bw (aD (yH T) hr.le T.f_39 (ad (ac 0) (ad (ac 2) (ad (ac 4) (ad (ac 3) (ag))))))) (ak (az (cG))) (aH)) (ah (aQ (bA (bw (aD (yz T) hr.le T.f_37 (ad (ac 0) (ad (ac 2) (ad (ac 4) (ad (ac 3) (ag)))))))) (ak (az (cG))) (aH)) (ah (aQ (aN (bD hr.units150) (ax (aj hr.units1) (ac 3) (ae) (fun _ _ => rfl)) (aD (lZ T) hr.le T.f_58 (ad (ac 0) (ad (ac 1) (ad (ax (aj hr.units1) (ac 3) (ae) (fun _ _ => rfl)) (ag)))))) (ak (az (cG))) (aH)) (ak (az (dA (aD (oI T) hr.le T.f_42 (ad (ax (aj hr.units1) (ac 3) (ae) (fun _ _ => rfl)) (ag))) (fj (aD (oI T) hr.le T.f_42 (ad (ax (aj hr.units1) (ac 3) (ae) (fun _ _ => rfl)) (ag)))))))))))
theorem Ed : aZ P w K mg base (CX1 P w) 5 A.a_41 A.d_41 ["bits", "key", "thing"] (oQ K A) :=
 T.f_41.f.okS xZ (BJ K A) (El T.1) fun _ _ _ _ _ _ hr =>
 ah (aQ (x_w (dD (bA (bw (aY eD T.z_isinstance boot_isinstance (ad (ac 2) (ad (eF T.z_tuple boot_tuple) (ag)))))) (dO (aN (dL hr.units150) (aY cK T.z_len PySem.boot_len (ad (ac 2) (ag))) (ae))))) (ak (az (cG))) (aH)) (ah (aQ (bA (bw (aD (EG T) hr.le T.f_30 (ad (ac 0) (ad (ax (aj hr.units1) (ac 2) (ae) (fun _ _ => rfl)) (ag)))))) (ak (az (cG))) (aH)) (ah (aL 3 xZ.nd (xl (bw (ax (aj hr.units1) (ac 2) (ae) (fun _ _ => rfl))) (av bd (ax (aj hr.units1) (ax (aj hr.units1) (ax (aj hr.units1) (ac 2) (ae) (fun _ _ => rfl)) (eY (ae)) (fun _ _ => rfl)) (ae) (fun _ _ => rfl)) (ae)) (ae))) (ak (az (aD (Ge T) hr.le T.f_36 (ad (ac 0) (ad (ac 1) (ad (ac 3) (ad (ax (aj hr.units1) (ac 2) (ae) (fun _ _ => rfl)) (ag))))))))))
theorem yw : aZ P w K mg base (CX1 P w) 1 A.a_51 A.d_51 ["bits", "key", "depth"] (mh K A) :=
 T.f_51.f.okS EF (Cg K A) (Gf T.1) fun _ _ _ _ _ _ hr =>
 ak (az (av yi (av jQ (ac 1) (av dt (av dt (ac 0) (ac 2)) (ae))) (ae)))
theorem Fb : aZ P w K mg base (CX1 P w) 2 A.a_59 A.d_59 ["bits", "key", "step", "mark"] (oS K A) :=
 T.f_59.f.okS rR (By K A) (Gc T.1) fun _ _ _ _ _ _ hr =>
 ah (aL 4 rR.nd (ax (aj hr.units1) (ac 2) (ae) (fun _ _ => rfl))) (ah (aL 5 rR.nd (aD (lZ T) hr.le T.f_58 (ad (ac 0) (ad (ac 1) (ad (ac 4) (ag)))))) (ah (aQ (aN (bD hr.units150) (aD (yw T) hr.le T.f_51 (ad (ac 0) (ad (ac 1) (ad (ac 4) (ag))))) (ae)) (ak (az (bQ (ad (bM) (ad (ac 4) (ad (ac 5) (ad (ac 3) (ad (ax (aj hr.units1) (ac 2) (ae) (fun _ _ => rfl)) (ag))))))))) (aH)) (ak (az (bQ (ad (bM) (ad (ac 4) (ad (ac 5) (ad (ax (aj hr.units1) (ac 2) (ae) (fun _ _ => rfl)) (ad (ac 3) (ag)))))))))))
theorem yn : aZ P w K mg base (CX1 P w) 6 A.a_55 A.d_55 ["stamper", "bits", "key", "slip"] (mJ K A) :=
 T.f_55.f.okS rH (Aj K A) (Fk T.1) fun _ _ _ _ _ _ hr =>
 ah (aQ (bA (bw (aD (my T) hr.le T.f_38 (ad (ac 1) (ad (ac 2) (ag)))))) (ak (eV)) (aH)) (ah (aQ (bA (bw (aD (Ed T) hr.le T.f_41 (ad (ac 1) (ad (ac 2) (ad (ac 3) (ag))))))) (ak (eV)) (aH)) (ah (aL 4 rH.nd (cL (ad (ax (aj hr.units1) (ac 3) (ae) (fun _ _ => rfl)) (ag)))) (ah (gM 5 rH.nd (DO T.z_reversed (ad (ax (aj hr.units1) (ac 3) (ae) (fun _ _ => rfl)) (ag))) (ak (dN (jV PySem.F.plainAttrs_list PySem.F.slot_list_append PySem.F.type_list_append eL (ac 4) (ad (aD (Fb T) hr.le T.f_59 (ad (ac 1) (ad (ac 2) (ad (ac 5) (ad (fI (gO T) hr.le gq (ac 0) (ad (ax (aj hr.units1) (ac 4) (eY (ae)) (fun _ _ => rfl)) (ag))) (ag)))))) (ag))))) PassesOwn.never) (ak (az (ac 4))))))
theorem yu : aZ P w K mg base (CX1 P w) 7 A.a_54 A.d_54 ["stamper", "bits", "key", "slip"] (lY K A) :=
 T.f_54.f.okS DM (AV K A) (FR T.1) fun _ _ _ _ _ _ hr =>
 ak (az (fI (gO T) hr.le gq (ac 0) (ad (ax (aj hr.units1) (aD (yn T) hr.le T.f_55 (ad (ac 0) (ad (ac 1) (ad (ac 2) (ad (ac 3) (ag)))))) (eY (ae)) (fun _ _ => rfl)) (ag))))
theorem Fy : aZ P w K mg base (CX1 P w) 75 A.a_53 A.d_53 ["stamper", "bits", "low", "high", "paper", "key"] (oU K A) :=
 T.f_53.f.okS kJ (CU K A) (Et T.1) fun _ _ _ _ _ _ hr =>
 ah (aQ (bA (bw (aD (my T) hr.le T.f_38 (ad (ac 1) (ad (ac 5) (ag)))))) (ak (eV)) (aH)) (ah (dN (aD (yQ T) hr.le T.f_33 (ad (ac 1) (ad (ac 2) (ad (ac 3) (ag)))))) (ah (aQ (bA (ix oLe oLe (ac 2) (ac 5) (ac 3))) (ak (eV)) (aH)) (ah (dN (aD (pw T 70) hr.le T.f_32 (ad (ac 1) (ad (ac 2) (ad (ac 3) (ad (ae) (ad (ae) (ad (ac 4) (ag))))))))) (ah (aL 6 kJ.nd (cL (ag))) (ah (aL 7 kJ.nd (ac 4)) (ah (qX (x_w (gP (aN (bD hr.units150) (ax (aj hr.units1) (ac 7) (ae) (fun _ _ => rfl)) (bM)) (fY (aN (bD hr.units150) (aD (lZ T) hr.le T.f_58 (ad (ac 1) (ad (ac 5) (ad (ax (aj hr.units1) (ac 7) (ae) (fun _ _ => rfl)) (ag))))) (ax (aj hr.units1) (ac 7) (ae) (fun _ _ => rfl)))))) (ah (aL 8 kJ.nd (aD (yw T) hr.le T.f_51 (ad (ac 1) (ad (ac 5) (ad (ax (aj hr.units1) (ac 7) (ae) (fun _ _ => rfl)) (ag)))))) (ah (aL 9 kJ.nd (ax (aj hr.units1) (ac 7) (av dt (ae) (ac 8)) (fun _ _ => rfl))) (ah (dN (jV PySem.F.plainAttrs_list PySem.F.slot_list_append PySem.F.type_list_append eL (ac 6) (ad (bQ (ad (ax (aj hr.units1) (ac 7) (ae) (fun _ _ => rfl)) (ad (aD (rW T) hr.le T.f_48 (ad (ac 0) (ad (ac 9) (ad (aD (mF T 70) hr.le T.f_49 (ad (ac 0) (ad (ac 9) (ag)))) (ag))))) (ag)))) (ag)))) (ak (aL 7 kJ.nd (ax (aj hr.units1) (ac 7) (av bd (ae) (ac 8)) (fun _ _ => rfl))))))) PassesOwn.never) (ak (az (bQ (ad (lE uJ T.z_tuple boot_tuple (ad (ac 6) (ag))) (ad (ax (aj hr.units1) (aD (mF T 70) hr.le T.f_49 (ad (ac 0) (ad (ac 7) (ag)))) (eY (ae)) (fun _ _ => rfl)) (ag))))))))))))
theorem Fd : aZ P w K mg base (CX1 P w) 1 A.a_18 A.d_18 ["_law_found", "_law_due"] (pf K A) :=
 T.f_18.f.okS Fp (Dk K A) (Ec T.1) fun _ _ _ _ _ _ hr =>
 ah (aQ (aN sX (ac 1) (fO)) (ak (az (dY sX (ac 0) (fO)))) (aH)) (ak (az (dA (aY eD T.z_isinstance boot_isinstance (ad (ac 0) (ad (eF T.z_str boot_str) (ag)))) (fj (dY (bD hr.units150) (ac 0) (ac 1))))))
theorem Fv : aZ P w K mg base (CX1 P w) 1 A.a_56 A.d_56 ["key", "slip"] (pj K A) :=
 T.f_56.f.okS ym (Bi K A) (ED T.1) fun _ _ _ _ _ _ hr =>
 ah (aL 2 ym.nd (ax (aj hr.units1) (ac 1) (ae) (fun _ _ => rfl))) (ak (az (xl (x_w (gP (aN (bD hr.units150) (ax (aj hr.units1) (ac 2) (ae) (fun _ _ => rfl)) (bM)) (fY (aN (bD hr.units150) (ax (aj hr.units1) (ac 2) (ae) (fun _ _ => rfl)) (ac 0))))) (ax (aj hr.units1) (ac 2) (ae) (fun _ _ => rfl)) (fO))))
theorem Ey : aZ P w K mg base (CX1 P w) 8 A.a_52 A.d_52 ["stamper", "bits", "mark", "key", "slip"] (oM K A) :=
 T.f_52.f.okS yK (CN K A) (Gg T.1) fun _ _ _ _ _ _ hr =>
 ah (aL 5 yK.nd (aD (yu T) hr.le T.f_54 (ad (ac 0) (ad (ac 1) (ad (ac 3) (ad (ac 4) (ag))))))) (ah (aQ (aN (dL hr.units150) (ac 5) (ac 2)) (ak (eV)) (aH)) (ak (az (aD (Fv T) hr.le T.f_56 (ad (ac 3) (ad (ac 4) (ag)))))))
theorem sG : aZ P w K mg base (CX1 P w) 71 A.a_28 A.d_28 ["_law_tree", "_law_key_here"] (iJ K A) :=
 T.f_28.f.okS yN (AQ K A) (Fj T.1) fun _ _ _ _ _ _ hr =>
 ah (Ct 2 3 yN.nd (gm (aD (nk T 70) hr.le T.f_7 (ad (ac 0) (ag)))) (ak (aQ (aN (bD hr.units150) (ac 2) (ac 1)) (ak (az (ac 3))) (aH))) PassesOwn.never) (ak (az (fO)))
theorem yM : aZ P w K mg base (CX1 P w) 143 A.a_19 A.d_19 ["_law_stamper", "_law_bits_here", "_law_mark_here", "_law_ends", "_law_key_here", "_law_tree"] (jB K A) :=
 T.f_19.f.okS mm (BG K A) (FF T.1) fun _ _ _ _ _ _ hr =>
 ah (aL 6 mm.nd (aD (xt T 70) hr.le T.f_3 (ad (ac 0) (ad (ac 1) (ad (ac 3) (ad (ae) (ad (ae) (ad (ac 5) (ag))))))))) (ah (aQ (aN (dL hr.units150) (aD (EI T) hr.le T.f_61 (ad (ac 0) (ad (ac 1) (ad (ax (aj hr.units1) (ac 3) (ae) (fun _ _ => rfl)) (ad (ax (aj hr.units1) (ac 3) (ae) (fun _ _ => rfl)) (ad (ac 6) (ag))))))) (ac 2)) (ak (az (fO))) (aH)) (ah (aL 7 mm.nd (aD (DN T) hr.le T.f_60 (ad (ac 0) (ad (ac 1) (ad (ac 2) (ad (ax (aj hr.units1) (ac 3) (ae) (fun _ _ => rfl)) (ad (ax (aj hr.units1) (ac 3) (ae) (fun _ _ => rfl)) (ad (ac 6) (ag))))))))) (ah (aQ (bA (bw (aD (Ff T) hr.le T.f_17 (ad (ac 7) (ad (aD (GI T) hr.le T.f_4 (ad (ac 5) (ad (ax (aj hr.units1) (ac 3) (ae) (fun _ _ => rfl)) (ad (ax (aj hr.units1) (ac 3) (ae) (fun _ _ => rfl)) (ag))))) (ag)))))) (ak (az (fO))) (aH)) (ah (aL 8 mm.nd (aD (DB T) hr.le T.f_20 (ad (ac 0) (ad (ac 1) (ad (ac 5) (ad (ac 4) (ag))))))) (ah (aQ (aN (dL hr.units150) (aD (yu T) hr.le T.f_54 (ad (ac 0) (ad (ac 1) (ad (ac 4) (ad (ac 8) (ag)))))) (ac 2)) (ak (az (fO))) (aH)) (ah (aQ (aN (dL hr.units150) (aD (Fy T) hr.le T.f_53 (ad (ac 0) (ad (ac 1) (ad (ax (aj hr.units1) (ac 3) (ae) (fun _ _ => rfl)) (ad (ax (aj hr.units1) (ac 3) (ae) (fun _ _ => rfl)) (ad (ac 6) (ad (ac 4) (ag)))))))) (ac 8)) (ak (az (fO))) (aH)) (ah (aQ (bA (bw (aD (Fd T) hr.le T.f_18 (ad (aD (Ey T) hr.le T.f_52 (ad (ac 0) (ad (ac 1) (ad (ac 2) (ad (ac 4) (ad (ac 8) (ag))))))) (ad (aD (sG T) hr.le T.f_28 (ad (ac 5) (ad (ac 4) (ag)))) (ag)))))) (ak (az (fO))) (aH)) (ah (aL 9 mm.nd (aD (sj T) hr.le T.f_62 (ad (ac 0) (ad (ac 1) (ad (ax (aj hr.units1) (ac 3) (ae) (fun _ _ => rfl)) (ad (ax (aj hr.units1) (ac 3) (ae) (fun _ _ => rfl)) (ad (ac 6) (ag)))))))) (ak (az (cL (ad (ac 9) (ad (aD (yn T) hr.le T.f_55 (ad (ac 0) (ad (ac 1) (ad (ac 4) (ad (ac 8) (ag)))))) (ag))))))))))))))
theorem EL : aZ P w K mg base (CX1 P w) 3 A.a_34 A.d_34 ["stamper", "terms"] (kB K A) :=
 T.f_34.f.okS pd (AA K A) (Ga T.1) fun _ _ _ _ _ _ hr =>
 ah (aL 2 pd.nd (ro)) (ah (gM 3 pd.nd (gm (ac 1)) (ah (aL 4 pd.nd (jV PySem.F.plainAttrs_dict PySem.F.slot_dict_setdefault PySem.F.type_dict_setdefault (nO hr.units1) (ac 2) (ad (fI (gO T) hr.le gq (ac 0) (ad (ac 3) (ag))) (ad (ac 3) (ag))))) (ak (aQ (aN (dL hr.units150) (ac 4) (ac 3)) (ak (az (bQ (ad (ac 4) (ad (ac 3) (ag)))))) (aH)))) PassesOwn.never) (ak (az (fO))))
theorem Hw : aZ P w K mg base (CX1 P w) 3 A.a_5 A.d_5 ["_law_found", "_law_one", "_law_other"] (qd K A) :=
 T.f_5.f.okS Hk (Ef K A) (Gr T.1) fun _ _ _ _ _ _ hr =>
 ah (aQ (x_w (dD (bA (bw (aY eD T.z_isinstance boot_isinstance (ad (ac 0) (ad (eF T.z_tuple boot_tuple) (ag)))))) (dO (aN (dL hr.units150) (aY cK T.z_len PySem.boot_len (ad (ac 0) (ag))) (ae))))) (ak (az (cG))) (aH)) (ak (az (dA (aD (rO T) hr.le T.f_25 (ad (ax (aj hr.units1) (ac 0) (ae) (fun _ _ => rfl)) (ad (ac 1) (ag)))) (fj (aD (rO T) hr.le T.f_25 (ad (ax (aj hr.units1) (ac 0) (ae) (fun _ _ => rfl)) (ad (ac 2) (ag))))))))
theorem Fg : aZ P w K mg base (CX1 P w) 144 A.a_27 A.d_27 ["_law_bits_here", "_law_tree", "_law_path", "_law_one", "_law_other", "_law_key_here", "_law_ends", "_law_cell"] (kx K A) :=
 T.f_27.f.okS eJ (Bp K A) (FP T.1) fun _ _ _ _ _ _ hr =>
 ah (aL 8 eJ.nd (aD (Ev T) hr.le T.f_23 (ad (av bF (ac 7) (ae)) (ag)))) (ah (aL 9 eJ.nd (ax (aj hr.units1) (aD (hJ T 70) hr.le T.f_11 (ad (ac 8) (ad (ac 3) (ag)))) (ae) (fun _ _ => rfl))) (ah (aL 10 eJ.nd (ax (aj hr.units1) (aD (hJ T 70) hr.le T.f_11 (ad (ac 8) (ad (ac 4) (ag)))) (ae) (fun _ _ => rfl))) (ah (aQ (aN (HZ hr.units150) (ax (aj hr.units1) (ac 10) (eY (ae)) (fun _ _ => rfl)) (ac 9)) (ah (xX 3 4 eJ.nd rfl (ad (ac 4) (ad (ac 3) (ag)))) (ak (xX 9 10 eJ.nd rfl (ad (ac 10) (ad (ac 9) (ag)))))) (aH)) (ah (aL 11 eJ.nd (aD (Fe T) hr.le T.f_15 (ad (ac 8) (ad (ax (aj hr.units1) (ac 9) (eY (ae)) (fun _ _ => rfl)) (ad (ax (aj hr.units1) (ac 10) (eY (ae)) (fun _ _ => rfl)) (ag)))))) (ah (aL 12 eJ.nd (aD (rP T 70) hr.le T.f_29 (ad (ac 1) (ad (ac 2) (ad (ac 3) (ag)))))) (ah (aL 13 eJ.nd (aD (rP T 70) hr.le T.f_29 (ad (ac 1) (ad (ac 2) (ad (ac 4) (ag)))))) (ah (aL 14 eJ.nd (ax (aj hr.units1) (aD (hJ T 70) hr.le T.f_11 (ad (ac 11) (ad (ac 12) (ag)))) (ae) (fun _ _ => rfl))) (ah (aL 15 eJ.nd (aD (yM T) hr.le T.f_19 (ad (ac 11) (ad (ac 0) (ad (ac 14) (ad (ax (aj hr.units1) (ac 6) (ae) (fun _ _ => rfl)) (ad (ac 5) (ad (ac 12) (ag))))))))) (ah (aL 16 eJ.nd (aD (yM T) hr.le T.f_19 (ad (ac 11) (ad (ac 0) (ad (ac 14) (ad (ax (aj hr.units1) (ac 6) (ae) (fun _ _ => rfl)) (ad (ac 5) (ad (ac 13) (ag))))))))) (ah (aQ (x_w (dD (aN sX (ac 15) (fO)) (dO (aN sX (ac 16) (fO))))) (ak (az (cG))) (aH)) (ah (aQ (aN (bD hr.units150) (aD (sG T) hr.le T.f_28 (ad (ac 12) (ad (ac 5) (ag)))) (aD (sG T) hr.le T.f_28 (ad (ac 13) (ad (ac 5) (ag))))) (ak (az (cG))) (aH)) (ah (gM 17 eJ.nd (jE T.z_range (ad (ae) (ag))) (ah (aL 18 eJ.nd (aD (EL T) hr.le T.f_34 (ad (ac 11) (ad (av bd (ax (aj hr.units1) (ac 15) (av bF (ac 17) (ae)) (fun _ _ => rfl)) (ax (aj hr.units1) (ac 16) (av dj (ac 17) (ae)) (fun _ _ => rfl))) (ag))))) (ak (aQ (bA (bw (aD (Hw T) hr.le T.f_5 (ad (ac 18) (ad (ax (aj hr.units1) (ac 9) (eY (ae)) (fun _ _ => rfl)) (ad (ax (aj hr.units1) (ac 10) (eY (ae)) (fun _ _ => rfl)) (ag))))))) (ak (az (cG))) (aH)))) PassesOwn.never) (ak (az (cG)))))))))))))))
theorem Er : aZ P w K mg base (CX1 P w) 145 A.a_46 A.d_46 ["_law_script"] (oA K A) :=
 T.f_46.f.okS fg (CD K A) (DV T.1) fun _ _ _ _ _ _ hr =>
 ah (aL 1 fg.nd (aD (Ii T) hr.le T.f_2 (ad (aD (lI T) hr.le T.f_0 (ad (ac 0) (ad (ae) (ag)))) (ag)))) (ah (aL 2 fg.nd (av dt (av gJ (ae) (ac 1)) (ae))) (ah (aL 3 fg.nd (aD (oD T 70) hr.le T.f_12 (ad (aD (lI T) hr.le T.f_0 (ad (ac 0) (ad (ae) (ag)))) (ad (ac 1) (ad (ae) (ad (ac 2) (ad (ae) (ad (ae) (ad (av bd (ae) (av bF (aD (lI T) hr.le T.f_0 (ad (ac 0) (ad (ae) (ag)))) (ae))) (ag)))))))))) (ah (aL 4 fg.nd (aD (sY T 70) hr.le T.f_21 (ad (ac 3) (ad (ae) (ad (ae) (ad (bQ (ag)) (ag))))))) (ah (gM 5 fg.nd (gm (av bd (jk kd (ac 0) (il (ae)) (il (ae))) (cL (ad (aD (lI T) hr.le T.f_0 (ad (ac 0) (ad (ae) (ag)))) (ag))))) (ah (CC 6 7 8 fg.nd rfl (ax (aj hr.units1) (ac 4) (av bF (ac 5) (aY cK T.z_len PySem.boot_len (ad (ac 4) (ag)))) (fun _ _ => rfl))) (ah (aL 9 fg.nd (av bF (av cj (ac 5) (ae)) (ae))) (ah (aL 10 fg.nd (aD (DZ T) hr.le T.f_14 (ad (ac 3) (ad (ac 8) (ag))))) (ah (aL 11 fg.nd (aD (oD T 70) hr.le T.f_12 (ad (ac 9) (ad (ac 1) (ad (ae) (ad (ac 2) (ad (ac 6) (ad (ac 7) (ad (av bF (ac 9) (ae)) (ag)))))))))) (ah (uX (ys := []) 12 fg.nd (by exact ⟨rfl, by decide +kernel, by decide +kernel, rfl, by decide +kernel, by decide +kernel⟩) (by exact .nil) (gm (av bd (aD (nk T 70) hr.le T.f_7 (ad (ac 10) (ag))) (aD (nk T 70) hr.le T.f_7 (ad (ac 11) (ag))))) (fun C s H fp => AL) (fun C s H fp => (ax (aj hr.units1) (ac 0) (ae) (fun _ _ => rfl)))) (ah (dN (jV PySem.F.plainAttrs_list PySem.F.slot_list_append PySem.F.type_list_append eL (ac 12) (ad (aD (Dd T) hr.le T.f_6 (ad (ac 1) (ad (ac 9) (ad (cL (ag)) (ag))))) (ag)))) (ah (aL 13 fg.nd (ax (aj hr.units1) (ac 12) (av bF (av dj (ac 9) (ae)) (aY cK T.z_len PySem.boot_len (ad (ac 12) (ag)))) (fun _ _ => rfl))) (ah (aL 14 fg.nd (cL (ad (aD (yp T) hr.le T.f_22 (ad (ac 1) (ad (ac 13) (ad (aD (lI T) hr.le T.f_0 (ad (ac 0) (ad (ae) (ag)))) (ag))))) (ag)))) (ah (dN (jV PySem.F.plainAttrs_list PySem.F.slot_list_append PySem.F.type_list_append eL (ac 14) (ad (aD (yp T) hr.le T.f_22 (ad (ac 1) (ad (ac 13) (ad (aD (lI T) hr.le T.f_0 (ad (ac 0) (ad (ae) (ag)))) (ag))))) (ag)))) (ak (aQ (bA (bw (aD (Fg T) hr.le T.f_27 (ad (ac 1) (ad (ac 3) (ad (ac 8) (ad (ac 10) (ad (ac 11) (ad (ac 13) (ad (ac 14) (ad (aD (lI T) hr.le T.f_0 (ad (ac 0) (ad (ae) (ag)))) (ag)))))))))))) (ak (az (cG))) (aH)))))))))))) PassesOwn.never) (ak (az (cG)))))))
omit T
def rV (P : Program) (w : World) (K : W.Frag) (mg : Str → Option Value) (fa : Addr) : Prop := ∃ (fd : FuncData) (tabs : List (Addr × Addr)) (sp : Sp), (∀ (s : Shared) (v : Value), BindsTo s fd ⟨[v], []⟩ [("_law_script", v)]) ∧ W.noTabs K = true ∧ (∀ t ∈ tabs, ∃ y ∈ (["_law_sure", "_law_planted"] : List Str), W.tabIn K y = some t) ∧ (∀ base : Heap, K.In base → base.Ns mainGlobals mg → BM mg base → (∀ t ∈ tabs, W.CodeHd base t.1 t.2) → aZ P w K mg base (CX1 P w) 145 fa fd ["_law_script"] sp) ∧ ∀ (H : Hp) (a : Addr) (ns : List Int), ns.length ≤ 63 → (∀ t ∈ tabs, H t.2 = some (.tbl #[])) → SqL K H a (ns.map V.int) → sp [.ref a] H (fun v _ => v = .bl true) fun _ _ _ => False
theorem Bh (T : Txt K mg A) (nt : W.noTabs K = true) (tb_23 : W.tabIn K "_law_sure" = some (A.k_23, A.t_23)) (tb_15 : W.tabIn K "_law_planted" = some (A.k_15, A.t_15)) (tdn : ([A.t_23, A.t_15] : List Addr).Nodup) : rV P w K mg A.a_46 := by
 refine ⟨A.d_46, [(A.k_23, A.t_23), (A.k_15, A.t_15)], oA K A, T.f_46.f.bt, nt, ?_, fun base _ _ B C => ?_, fun H a ns hl hO hS => ⟨a, ns, rfl, hS, hl, ⟨hO (A.k_23, A.t_23) (by simp), hO (A.k_15, A.t_15) (by simp), tdn⟩, fun _ => rfl⟩⟩
 · intro t ht
   simp only [List.mem_cons, List.not_mem_nil, or_false] at ht
   rcases ht with rfl | rfl
   · exact ⟨"_law_sure", by simp, tb_23⟩
   · exact ⟨"_law_planted", by simp, tb_15⟩
 · exact Er ⟨T, B, C (A.k_23, A.t_23) (by simp), C (A.k_15, A.t_15) (by simp)⟩
theorem De {h : Heap} {fa : Addr} (X : K.In h) (G : h.Ns mainGlobals mg) (hfa : mg "law" = some (.ref fa)) {x_2 x_0 x_10 x_9 x_8 x_26 x_1 x_12 x_21 x_14 x_7 x_6 x_22 x_23 x_11 x_15 x_29 x_3 x_45 x_38 x_33 x_57 x_47 x_42 x_35 x_44 x_58 x_39 x_37 x_40 x_32 x_31 x_48 x_49 x_62 x_61 x_50 x_60 x_13 x_25 x_17 x_4 x_20 x_43 x_30 x_36 x_41 x_51 x_59 x_55 x_54 x_53 x_18 x_56 x_52 x_28 x_19 x_34 x_5 x_27 x_46 : Addr} {d0 d1 d2 d3 d4 d5 d6 d7 d8 d9 d10 d11 d12 d13 d14 d15 d16 d17 d18 d19 d20 d21 d22 d23 d24 d25 d26 d27 d28 d29 d30 d31 d32 d33 d34 d35 d36 d37 d38 d39 d40 d41 d42 d43 d44 d45 d46 d47 d48 d49 d50 d51 d52 d53 d54 d55 d56 d57 d58 d59 d60 : FuncData} {tc0 : Tok}
  (h0 : Fa K "_law_bits" "_law_bits" s_2 x_2 d0) (h1 : Fa K "_law_at" "_law_at" s_0 x_0 d1) (h2 : Fa K "_law_number" "_law_number" wF x_10 d2) (h3 : Fa K "_law_meets" "_law_meets" s_9 x_9 d3) (h4 : Fa K "_law_mark" "_law_mark" s_8 x_8 d4) (h5 : Fa K "_law_text" "_law_text" wC x_26 d5) (h6 : Fa K "_law_begin" "_law_begin" s_1 x_1 d6) (h7 : Fa K "_law_part" "_law_part" wj x_12 d7) (h8 : Fa K "_law_spots" "_law_spots" wB x_21 d8) (h9 : Fa K "_law_part_at" "_law_part_at" vI x_14 d9) (h10 : Fa K "_law_leaves" "_law_leaves" s_7 x_7 d10) (h11 : Fa K "_law_key" "_law_key" s_6 x_6 d11) (h12 : Fa K "_law_stretch_round" "_law_stretch_round" vV x_22 d12) (h13 : Fa K "_law_sure" "_law_sure" ld x_23 d13) (tb_23 : (W.tabIn K "_law_sure").isSome = true) (h14 : Fa K "_law_open" "_law_open" xv x_11 d14) (h15 : Fa K "_law_planted" "_law_planted" lf x_15 d15) (tb_15 : (W.tabIn K "_law_planted").isSome = true) (h16 : Fa K "_law_with" "_law_with" wU x_29 d16) (h17 : Fa K "_law_cut" "_law_cut" s_3 x_3 d17) (h18 : Fa K "is_whole" "is_whole" xo x_45 d18) (h19 : Fa K "is_key" "is_key" xw x_38 d19) (h20 : Fa K "check_stretch" "check_stretch" xH x_33 d20) (h21 : Fa K "span" "span" vy x_57 d21) (h22 : Fa K "meets" "meets" vU x_47 d22) (h23 : Fa K "is_stamp" "is_stamp" vX x_42 d23) (h24 : Fa K "is_cut" "is_cut" wO x_35 d24) (h25 : Fa K "is_value" "is_value" wP x_44 d25) (h26 : Fa K "start" "start" wt x_58 d26) (h27 : Fa K "is_leaf" "is_leaf" vq x_39 d27) (h28 : Fa K "is_fork" "is_fork" vG x_37 d28) (h29 : Fa K "is_part" "is_part" vO x_40 d29) (h30 : Fa K "check_part" "check_part" xB x_32 d30) (h31 : Fa K "check_paper" "check_paper" vK x_31 d31) (h32 : Fa K "part_mark" "part_mark" xE x_48 d32) (h33 : Fa K "part_terms" "part_terms" wX x_49 d33) (h34 : Fa K "stretch_terms" "stretch_terms" wq x_62 d34) (h35 : Fa K "stretch_mark" "stretch_mark" xz x_61 d35) (h36 : Fa K "rows_within" "rows_within" xg x_50 d36) (h37 : Fa K "stretch_answer" "stretch_answer" wp x_60 d37) (h38 : Fa K "_law_part_alike" "_law_part_alike" xN x_13 d38) (h39 : Fa K "_law_term_alike" "_law_term_alike" vE x_25 d39) (h40 : Fa K "_law_rows_alike" "_law_rows_alike" wg x_17 d40) (h41 : Fa K "_law_inner" "_law_inner" s_4 x_4 d41) (h42 : Fa K "_law_slip_in" "_law_slip_in" xU x_20 d42) (h43 : Fa K "is_step" "is_step" wJ x_43 d43) (h44 : Fa K "are_steps" "are_steps" wN x_30 d44) (h45 : Fa K "is_end" "is_end" vt x_36 d45) (h46 : Fa K "is_slip" "is_slip" wH x_41 d46) (h47 : Fa K "side" "side" vv x_51 d47) (h48 : Fa K "step_term" "step_term" wG x_59 d48) (h49 : Fa K "slip_terms" "slip_terms" xm x_55 d49) (h50 : Fa K "slip_mark" "slip_mark" vR x_54 d50) (h51 : Fa K "slip_from" "slip_from" xn x_53 d51) (h52 : Fa K "_law_same" "_law_same" xj x_18 d52) (h53 : Fa K "slip_value" "slip_value" wE x_56 d53) (h54 : Fa K "slip_answer" "slip_answer" xW x_52 d54) (h55 : Fa K "_law_value" "_law_value" wZ x_28 d55) (h56 : Fa K "_law_shown" "_law_shown" vk x_19 d56) (h57 : Fa K "clash" "clash" xL x_34 d57) (h58 : Fa K "_law_is_pair" "_law_is_pair" s_5 x_5 d58) (h59 : Fa K "_law_trees_right" "_law_trees_right" wf x_27 d59) (h60 : Fa K "law" "law" vo x_46 d60) (z_bool : W.nsIn K mainGlobals "bool" = some none) (z_int : W.nsIn K mainGlobals "int" = some none) (z_isinstance : W.nsIn K mainGlobals "isinstance" = some none) (z_len : W.nsIn K mainGlobals "len" = some none) (z_list : W.nsIn K mainGlobals "list" = some none) (z_max : W.nsIn K mainGlobals "max" = some none) (z_min : W.nsIn K mainGlobals "min" = some none) (z_range : W.nsIn K mainGlobals "range" = some none) (z_reversed : W.nsIn K mainGlobals "reversed" = some none) (z_str : W.nsIn K mainGlobals "str" = some none) (z_tuple : W.nsIn K mainGlobals "tuple" = some none) (c_MOST_SIGNS : W.nsIn K mainGlobals "MOST_SIGNS" = some (some (.int 60 tc0))) (nt : W.noTabs K = true) (td : nS K ["_law_sure", "_law_planted"] = true) : rV P w K mg fa := by
 cases hfa.symm.trans (W.mg_of X G h60.m)
 obtain ⟨⟨z_23, t_23⟩, tb_23⟩ := Option.isSome_iff_exists.mp tb_23
 obtain ⟨⟨z_15, t_15⟩, tb_15⟩ := Option.isSome_iff_exists.mp tb_15
 have tdn : ([t_23, t_15] : List Addr).Nodup := xT (by unfold nS at td; simp only [List.map_cons, List.map_nil, tb_23, tb_15, Option.map_some] at td; exact of_decide_eq_true td)
 exact Bh (A := ⟨x_2, d0, x_0, d1, x_10, d2, x_9, d3, x_8, d4, x_26, d5, x_1, d6, x_12, d7, x_21, d8, x_14, d9, x_7, d10, x_6, d11, x_22, d12, x_23, d13, x_11, d14, x_15, d15, x_29, d16, x_3, d17, x_45, d18, x_38, d19, x_33, d20, x_57, d21, x_47, d22, x_42, d23, x_35, d24, x_44, d25, x_58, d26, x_39, d27, x_37, d28, x_40, d29, x_32, d30, x_31, d31, x_48, d32, x_49, d33, x_62, d34, x_61, d35, x_50, d36, x_60, d37, x_13, d38, x_25, d39, x_17, d40, x_4, d41, x_20, d42, x_43, d43, x_30, d44, x_36, d45, x_41, d46, x_51, d47, x_59, d48, x_55, d49, x_54, d50, x_53, d51, x_18, d52, x_56, d53, x_52, d54, x_28, d55, x_19, d56, x_34, d57, x_5, d58, x_27, d59, fa, d60, z_23, t_23, z_15, t_15⟩) ⟨h0.fm1 X G, h1.fm2 X G, h2.fm3 X G, h3.fm5 X G, h4.fm1 X G, h5.fm1 X G, h6.fm6 X G, h7.fm7 X G, h8.fm4 X G, h9.fm2 X G, h10.fm1 X G, h11.fm3 X G, h12.fm3 X G, h13.fm1 X G, h14.fm2 X G, h15.fm3 X G, h16.fm3 X G, h17.fm6 X G, h18.fm1 X G, h19.fm2 X G, h20.fm3 X G, h21.fm3 X G, h22.fm5 X G, h23.fm1 X G, h24.fm1 X G, h25.fm1 X G, h26.fm3 X G, h27.fm4 X G, h28.fm4 X G, h29.fm6 X G, h30.fm6 X G, h31.fm4 X G, h32.fm3 X G, h33.fm2 X G, h34.fm5 X G, h35.fm5 X G, h36.fm3 X G, h37.fm6 X G, h38.fm2 X G, h39.fm2 X G, h40.fm2 X G, h41.fm3 X G, h42.fm4 X G, h43.fm3 X G, h44.fm2 X G, h45.fm4 X G, h46.fm3 X G, h47.fm3 X G, h48.fm4 X G, h49.fm4 X G, h50.fm4 X G, h51.fm6 X G, h52.fm2 X G, h53.fm2 X G, h54.fm5 X G, h55.fm2 X G, h56.fm6 X G, h57.fm2 X G, h58.fm3 X G, h59.fm8 X G, h60.fm1 X G, W.mg_none_of X G z_bool, W.mg_none_of X G z_int, W.mg_none_of X G z_isinstance, W.mg_none_of X G z_len, W.mg_none_of X G z_list, W.mg_none_of X G z_max, W.mg_none_of X G z_min, W.mg_none_of X G z_range, W.mg_none_of X G z_reversed, W.mg_none_of X G z_str, W.mg_none_of X G z_tuple, ⟨_, W.mg_of X G c_MOST_SIGNS⟩, h13.code X G tb_23, h15.code X G tb_15⟩ nt tb_23 tb_15 tdn
theorem Gq {l : W.OpenLaw} {q : Program} {loose : List Str} {XP : (Str → Option Value) → Heap → Prop} {YP : World → Heap → Prop} {d : DefRec} {K : Params → W.Frag} (hn : l.most = some 63) (hdf : d.params.defaults = [])
  (hY : ∀ (w : World) (h : Heap), YP w h → (K w.params).In h) (hq : ∀ y ∈ (["_law_sure", "_law_planted"] : List Str), ((PyProof.Rows.recsOf q).find? fun e => e.name == y).isSome = true)
  (F : ∀ (w : World) (mg : Str → Option Value) (fa : Addr) (h : Heap), (K w.params).In h → h.Ns mainGlobals mg → mg d.name = some (.ref fa) → rV l.prog w (K w.params) mg fa) :
  W.WalkO q loose XP YP l.row.toRowW d [] (fun f vs => PySem.call f vs) :=
 L2.wQ (n := 63) (k := 145) (x := "_law_script") (CX := fun w => CX1 l.prog w) hn (by decide) hdf ⟨rfl, by decide, by decide⟩ hY hq F fun _ _ _ _ _ ⟨_, _, _, _, _, z⟩ => z
end Rs
def PySem.W.Fast.tw14400239765809664924 : Unit := ()
def PySem.W.Fast.tw11426797354386294628 : Unit := ()
def PySem.W.Fast.tw3593625134286299114 : Unit := ()
def PySem.W.Fast.tw1746655517674336976 : Unit := ()
def PySem.W.Fast.tw7505574463299566265 : Unit := ()
def PySem.W.Fast.tw15293544777675440480 : Unit := ()
def PySem.W.Fast.tw1716453213817521360 : Unit := ()
def PySem.W.Fast.tw13555115807041830559 : Unit := ()
def PySem.W.Fast.tw8285830124794538125 : Unit := ()
def PySem.W.Fast.tw4601016141931578524 : Unit := ()
def PySem.W.Fast.tw7246464139382423106 : Unit := ()
def PySem.W.Fast.tw10695762024106492111 : Unit := ()
def PySem.W.Fast.tw1622391095156106571 : Unit := ()
def PySem.W.Fast.tw9077607276808641310 : Unit := ()
def PySem.W.Fast.tw10192787662901841532 : Unit := ()
def PySem.W.Fast.tw4516439264982157779 : Unit := ()
def PySem.W.Fast.tw12336821911322130331 : Unit := ()
def PySem.W.Fast.tw9063920092514688646 : Unit := ()
def PySem.W.Fast.tw1189354735549980395 : Unit := ()
def PySem.W.Fast.tw14393794272464538004 : Unit := ()
def PySem.W.Fast.tw7381757623466740285 : Unit := ()
def PySem.W.Fast.tw3124109473019652374 : Unit := ()
def PySem.W.Fast.tw8541276564059236779 : Unit := ()
def PySem.W.Fast.tw9191043950572353027 : Unit := ()
def PySem.W.Fast.tw14782855611105488133 : Unit := ()
def PySem.W.Fast.tw386095764776975785 : Unit := ()
def PySem.W.Fast.tw6132049298547915442 : Unit := ()
def PySem.W.Fast.tw2594706954804760116 : Unit := ()
def PySem.W.Fast.tw7697077719795340555 : Unit := ()
def PySem.W.Fast.tw1915514487698116157 : Unit := ()
def PySem.W.Fast.tw1238336856912417965 : Unit := ()
def PySem.W.Fast.tw13920331429379625602 : Unit := ()
def PySem.W.Fast.tw7656289076153446524 : Unit := ()
def PySem.W.Fast.tw13234577092863444920 : Unit := ()
def PySem.W.Fast.tw9817460006520582132 : Unit := ()
def PySem.W.Fast.tw10655197718274380261 : Unit := ()
def PySem.W.Fast.tw16791615594466360570 : Unit := ()
def PySem.W.Fast.tw9795556650787447890 : Unit := ()
def PySem.W.Fast.tw2961576409284053297 : Unit := ()
def PySem.W.Fast.tw7226672939071071378 : Unit := ()
def PySem.W.Fast.tw15780437485095152006 : Unit := ()
def PySem.W.Fast.tw3059703869037663598 : Unit := ()
def PySem.W.Fast.tw8358202257461633741 : Unit := ()
def PySem.W.Fast.tw9304451867756044124 : Unit := ()
def PySem.W.Fast.tw1406612533625538466 : Unit := ()
def PySem.W.Fast.tw9696078075487080853 : Unit := ()
def PySem.W.Fast.tw3024098111764250775 : Unit := ()
def PySem.W.Fast.tw7253742409400896554 : Unit := ()
def PySem.W.Fast.tw11644843562351191354 : Unit := ()
def PySem.W.Fast.tw6739000866262803384 : Unit := ()
def PySem.W.Fast.tw15561142387591181756 : Unit := ()
def PySem.W.Fast.tw12621127540725820410 : Unit := ()
def PySem.W.Fast.tw13582825191174006847 : Unit := ()
def PySem.W.Fast.tw5663724599266556771 : Unit := ()
def PySem.W.Fast.tw9530461274908041797 : Unit := ()
def PySem.W.Fast.tw1338964589388701703 : Unit := ()
def PySem.W.Fast.tw13831471545261799306 : Unit := ()
def PySem.W.Fast.tw8721467657282654974 : Unit := ()
def PySem.W.Fast.tw3380499768181396366 : Unit := ()
def PySem.W.Fast.tw18154716849911708441 : Unit := ()
def PySem.W.Fast.tw8844533617672388296 : Unit := ()
def PySem.W.Fast.tw2618866942253286725 : Unit := ()
def PySem.W.Fast.tw3065100292371360882 : Unit := ()
def PySem.W.Fast.tw6059510298033523394 : Unit := ()
def PySem.W.Fast.tw17202266477801847975 : Unit := ()
def PySem.W.Fast.tw9057061119374173667 : Unit := ()
def PySem.W.Fast.tw9089721880282280427 : Unit := ()
def PySem.W.Fast.tw7911485478682523163 : Unit := ()
def PySem.W.Fast.tw11388415316180130460 : Unit := ()
def PySem.W.Fast.tw11233722108212588906 : Unit := ()
def PySem.W.Fast.tw15145232576793575607 : Unit := ()
def PySem.W.Fast.tw8779215255437678751 : Unit := ()
def PySem.W.Fast.tw13012535131541297071 : Unit := ()
def PySem.W.Fast.tw15230435750699613052 : Unit := ()
def PySem.W.Fast.tw10963531852905937345 : Unit := ()
def PySem.W.Fast.tw16644894291527205878 : Unit := ()
def PySem.W.Fast.tw16895178966884434879 : Unit := ()
def PySem.W.Fast.tw15483176052784065297 : Unit := ()
def PySem.W.Fast.tw16742181637977908690 : Unit := ()
def PySem.W.Fast.tw15385666359726055089 : Unit := ()
def PySem.W.Fast.tw8901480234566019044 : Unit := ()
def PySem.W.Fast.tw12687359793435955024 : Unit := ()
def PySem.W.Fast.tw905368290116566592 : Unit := ()
def PySem.W.Fast.tw3029466514764784874 : Unit := ()
def PySem.W.Fast.tw17959597964691257643 : Unit := ()
def PySem.W.Fast.tw11254692168246930647 : Unit := ()
def PySem.W.Fast.tw10566996148777595382 : Unit := ()
def PySem.W.Fast.tw9460877821691892713 : Unit := ()
def PySem.W.Fast.tw16713090600333611122 : Unit := ()
def PySem.W.Fast.tw17867813518213052544 : Unit := ()
def PySem.W.Fast.tw10391354951178979903 : Unit := ()
def PySem.W.Fast.tw15863410252484431918 : Unit := ()
def PySem.W.Fast.tw11132006031612812233 : Unit := ()
def PySem.W.Fast.tw10663916788858846377 : Unit := ()
def PySem.W.Fast.tw2111489337852406666 : Unit := ()
def PySem.W.Fast.tw11365311841084189095 : Unit := ()
def PySem.W.Fast.tw2756897655297593585 : Unit := ()
def PySem.W.Fast.tw2197171843609226116 : Unit := ()
def PySem.W.Fast.tw2672957540547266977 : Unit := ()
def PySem.W.Fast.tw18057870344729562668 : Unit := ()
def PySem.W.Fast.tw7267491964144699240 : Unit := ()
def PySem.W.Fast.tw7715162428573107534 : Unit := ()
def PySem.W.Fast.tw16204633426542715828 : Unit := ()
def PySem.W.Fast.tw13326053711803824498 : Unit := ()
def PySem.W.Fast.tw9981845784528037547 : Unit := ()
def PySem.W.Fast.tw14907054865305281451 : Unit := ()
def PySem.W.Fast.tw2063899307194165599 : Unit := ()
def PySem.W.Fast.tw9464217562269817090 : Unit := ()
def PySem.W.Fast.tw4970968872161601825 : Unit := ()
def PySem.W.Fast.tw17781691648237961279 : Unit := ()
def PySem.W.Fast.tw18404307309353635679 : Unit := ()
def PySem.W.Fast.tw16264230512623245261 : Unit := ()
def PySem.W.Fast.tw5344465495157771138 : Unit := ()
def PySem.W.Fast.tw4852775859326355022 : Unit := ()
def PySem.W.Fast.tw11217156575497921511 : Unit := ()
def PySem.W.Fast.tw2548074165781067651 : Unit := ()
def PySem.W.Fast.tw13609988223117482140 : Unit := ()
def PySem.W.Fast.tw16853333447560186901 : Unit := ()
def PySem.W.Fast.tw14004354971590360181 : Unit := ()
def PySem.W.Fast.tw15641613297326744499 : Unit := ()
def PySem.W.Fast.tw7169008963900529654 : Unit := ()
def PySem.W.Fast.tw6543334785217223334 : Unit := ()
def PySem.W.Fast.tw8199306402861625299 : Unit := ()
def PySem.W.Fast.tw1543274138878867268 : Unit := ()
def PySem.W.Fast.tw15519813620140411951 : Unit := ()
def PySem.W.Fast.tw4035585806057955087 : Unit := ()
def PySem.W.Fast.tw2835864271355902874 : Unit := ()
def PySem.W.Fast.tw18424901234792572413 : Unit := ()
def PySem.W.Fast.tw11671443898440781555 : Unit := ()
def PySem.W.Fast.tw5838385472298307908 : Unit := ()
def PySem.W.Fast.tw17418740830670758036 : Unit := ()
def PySem.W.Fast.tw109634626801221999 : Unit := ()
def PySem.W.Fast.tw3796619830234996817 : Unit := ()
def PySem.W.Fast.tw1094919379377017262 : Unit := ()
def PySem.W.Fast.tw15459211241818310988 : Unit := ()
def PySem.W.Fast.tw16170960418744129859 : Unit := ()
def PySem.W.Fast.tw10125695893555038990 : Unit := ()
def PySem.W.Fast.tw15882127920165955863 : Unit := ()
def PySem.W.Fast.tw5452251743047196084 : Unit := ()
def PySem.W.Fast.tw12906960340896655732 : Unit := ()
def PySem.W.Fast.tw13853689946904191142 : Unit := ()
def PySem.W.Fast.tw16868253045551377100 : Unit := ()
def PySem.W.Fast.tw5464931577140877219 : Unit := ()
def PySem.W.Fast.tw12067773208740036123 : Unit := ()
def PySem.W.Fast.tw16113178156850816911 : Unit := ()
def PySem.W.Fast.tw821112921643593786 : Unit := ()
def PySem.W.Fast.tw1190343067867945265 : Unit := ()
def PySem.W.Fast.tw3329223990845782167 : Unit := ()
def PySem.W.Fast.tw6364913119871765569 : Unit := ()
def PySem.W.Fast.tw3360576639743294953 : Unit := ()
def PySem.W.Fast.tw15665610305686119752 : Unit := ()
def PySem.W.Fast.tw2414202078198217474 : Unit := ()
def PySem.W.Fast.tw13866897658108656403 : Unit := ()
def PySem.W.Fast.tw7244247094069274839 : Unit := ()
def PySem.W.Fast.tw7810773323191404389 : Unit := ()
def PySem.W.Fast.tw15732251178296029088 : Unit := ()
def PySem.W.Fast.tw7189810023182280516 : Unit := ()
def PySem.W.Fast.tw17435783907419094775 : Unit := ()
def PySem.W.Fast.tw9886568704042035727 : Unit := ()
def PySem.W.Fast.tw11616665712843550087 : Unit := ()
def PySem.W.Fast.tw9318623101453918085 : Unit := ()
def PySem.W.Fast.tw14805323748945717381 : Unit := ()
def PySem.W.Fast.tw12389714162948799008 : Unit := ()
open PySem PySem.W PyProof.Rows
set_option maxRecDepth 100000 in
set_option maxHeartbeats 0 in
theorem PySem.Challenge.cw_rootstamp_k38_whole_papers_of_one_mark_a_holds : PySem.Challenge.rw_rootstamp_k38_whole_papers_of_one_mark_a.Holds := by
 w_on; o_law; k_head; (case hw => w_witness2)
 k_fill
 refine Rs.Gq (l := PySem.Challenge.rw_rootstamp_k38_whole_papers_of_one_mark_a) rfl rfl (fun w h Y => by first | exact PySem.W.kIn_of Y | exact PySem.W.km_in_of Y) (by decide +kernel) ?F
 case F =>
  intro w mg fa h KX G hmg
  refine' Rs.De KX G hmg (L2.aW ?a0 ?l0 ?c0 ?k0) (L2.aW ?a1 ?l1 ?c1 ?k1) (L2.aW ?a2 ?l2 ?c2 ?k2) (L2.aW ?a3 ?l3 ?c3 ?k3) (L2.aW ?a4 ?l4 ?c4 ?k4) (L2.aW ?a5 ?l5 ?c5 ?k5) (L2.aW ?a6 ?l6 ?c6 ?k6) (L2.aW ?a7 ?l7 ?c7 ?k7) (L2.aW ?a8 ?l8 ?c8 ?k8) (L2.aW ?a9 ?l9 ?c9 ?k9) (L2.aW ?a10 ?l10 ?c10 ?k10) (L2.aW ?a11 ?l11 ?c11 ?k11) (L2.aW ?a12 ?l12 ?c12 ?k12) (L2.aW ?a13 ?l13 ?c13 ?k13) ?tb_23 (L2.aW ?a14 ?l14 ?c14 ?k14) (L2.aW ?a15 ?l15 ?c15 ?k15) ?tb_15 (L2.aW ?a16 ?l16 ?c16 ?k16) (L2.aW ?a17 ?l17 ?c17 ?k17) (L2.aW ?a18 ?l18 ?c18 ?k18) (L2.aW ?a19 ?l19 ?c19 ?k19) (L2.aW ?a20 ?l20 ?c20 ?k20) (L2.aW ?a21 ?l21 ?c21 ?k21) (L2.aW ?a22 ?l22 ?c22 ?k22) (L2.aW ?a23 ?l23 ?c23 ?k23) (L2.aW ?a24 ?l24 ?c24 ?k24) (L2.aW ?a25 ?l25 ?c25 ?k25) (L2.aW ?a26 ?l26 ?c26 ?k26) (L2.aW ?a27 ?l27 ?c27 ?k27) (L2.aW ?a28 ?l28 ?c28 ?k28) (L2.aW ?a29 ?l29 ?c29 ?k29) (L2.aW ?a30 ?l30 ?c30 ?k30) (L2.aW ?a31 ?l31 ?c31 ?k31) (L2.aW ?a32 ?l32 ?c32 ?k32) (L2.aW ?a33 ?l33 ?c33 ?k33) (L2.aW ?a34 ?l34 ?c34 ?k34) (L2.aW ?a35 ?l35 ?c35 ?k35) (L2.aW ?a36 ?l36 ?c36 ?k36) (L2.aW ?a37 ?l37 ?c37 ?k37) (L2.aW ?a38 ?l38 ?c38 ?k38) (L2.aW ?a39 ?l39 ?c39 ?k39) (L2.aW ?a40 ?l40 ?c40 ?k40) (L2.aW ?a41 ?l41 ?c41 ?k41) (L2.aW ?a42 ?l42 ?c42 ?k42) (L2.aW ?a43 ?l43 ?c43 ?k43) (L2.aW ?a44 ?l44 ?c44 ?k44) (L2.aW ?a45 ?l45 ?c45 ?k45) (L2.aW ?a46 ?l46 ?c46 ?k46) (L2.aW ?a47 ?l47 ?c47 ?k47) (L2.aW ?a48 ?l48 ?c48 ?k48) (L2.aW ?a49 ?l49 ?c49 ?k49) (L2.aW ?a50 ?l50 ?c50 ?k50) (L2.aW ?a51 ?l51 ?c51 ?k51) (L2.aW ?a52 ?l52 ?c52 ?k52) (L2.aW ?a53 ?l53 ?c53 ?k53) (L2.aW ?a54 ?l54 ?c54 ?k54) (L2.aW ?a55 ?l55 ?c55 ?k55) (L2.aW ?a56 ?l56 ?c56 ?k56) (L2.aW ?a57 ?l57 ?c57 ?k57) (L2.aW ?a58 ?l58 ?c58 ?k58) (L2.aW ?a59 ?l59 ?c59 ?k59) (L2.aW ?a60 ?l60 ?c60 ?k60) ?z_bool ?z_int ?z_isinstance ?z_len ?z_list ?z_max ?z_min ?z_range ?z_reversed ?z_str ?z_tuple ?c_MOST_SIGNS ?nt ?td
  case a0 | l0 | c0 | k0 | a1 | l1 | c1 | k1 | a2 | l2 | c2 | k2 | a3 | l3 | c3 | k3 | a4 | l4 | c4 | k4 | a5 | l5 | c5 | k5 | a6 | l6 | c6 | k6 | a7 | l7 | c7 | k7 | a8 | l8 | c8 | k8 | a9 | l9 | c9 | k9 | a10 | l10 | c10 | k10 | a11 | l11 | c11 | k11 | a12 | l12 | c12 | k12 | a13 | l13 | c13 | k13 => k_is
  case tb_23 => kernel_rfl
  case a14 | l14 | c14 | k14 | a15 | l15 | c15 | k15 => k_is
  case tb_15 => kernel_rfl
  case a16 | l16 | c16 | k16 | a17 | l17 | c17 | k17 | a18 | l18 | c18 | k18 | a19 | l19 | c19 | k19 | a20 | l20 | c20 | k20 | a21 | l21 | c21 | k21 | a22 | l22 | c22 | k22 | a23 | l23 | c23 | k23 | a24 | l24 | c24 | k24 | a25 | l25 | c25 | k25 | a26 | l26 | c26 | k26 | a27 | l27 | c27 | k27 | a28 | l28 | c28 | k28 | a29 | l29 | c29 | k29 | a30 | l30 | c30 | k30 | a31 | l31 | c31 | k31 | a32 | l32 | c32 | k32 | a33 | l33 | c33 | k33 | a34 | l34 | c34 | k34 | a35 | l35 | c35 | k35 | a36 | l36 | c36 | k36 | a37 | l37 | c37 | k37 | a38 | l38 | c38 | k38 | a39 | l39 | c39 | k39 | a40 | l40 | c40 | k40 | a41 | l41 | c41 | k41 | a42 | l42 | c42 | k42 | a43 | l43 | c43 | k43 | a44 | l44 | c44 | k44 | a45 | l45 | c45 | k45 | a46 | l46 | c46 | k46 | a47 | l47 | c47 | k47 | a48 | l48 | c48 | k48 | a49 | l49 | c49 | k49 | a50 | l50 | c50 | k50 | a51 | l51 | c51 | k51 | a52 | l52 | c52 | k52 | a53 | l53 | c53 | k53 | a54 | l54 | c54 | k54 | a55 | l55 | c55 | k55 | a56 | l56 | c56 | k56 | a57 | l57 | c57 | k57 | a58 | l58 | c58 | k58 | a59 | l59 | c59 | k59 | a60 | l60 | c60 | k60 | z_bool | z_int | z_isinstance | z_len | z_list | z_max | z_min | z_range | z_reversed | z_str | z_tuple | c_MOST_SIGNS => k_is
  case nt | td => kernel_rfl

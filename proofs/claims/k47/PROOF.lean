import PyProof.Rows.All
import Wide.All
import OpenK.AllK
import Wide.FinOn
import Lean
import PyProof.EqAt
import PyProof.EqKinds
import PyProof.TupleCall
import PyProof.P3In
import KE.KDictLaws
import KE.KTabLook
import KE.KRevIter
import KE.KItemsList
import PyProof.TupleOfGen
import PySem.Challenge.RW_rootstamp_k47_refusals_of_growths
set_option Elab.async false
set_option linter.all false
set_option maxRecDepth 100000
set_option maxHeartbeats 4000000
namespace L2
open PySem PySem.Spec PyProof.Rows
abbrev Key:=Sum Int Str
def jW:Key→Value→Bool
 | .inl k,v=>Value.isInt k v
 | .inr x,v=>Value.isStrOf x v
def Ht (w:World):Key→Int
 | .inl k=>hashInt k
 | .inr x=>hashStr w x
theorem cu : ∀ {k : Key} {v : Value}, jW k v = true → (∃ i t, k = Sum.inl i ∧ v = Value.int i t) ∨ (∃ x t, k = Sum.inr x ∧ v = Value.str x t)
  | .inl i, v, h => by
    obtain ⟨t, e⟩ := Value.isInt_shape (k := i) (v := v) h
    exact .inl ⟨i, t, rfl, e⟩
  | .inr x, v, h => by
    obtain ⟨t, e⟩ := Value.isStrOf_shape (x := x) (v := v) h
    exact .inr ⟨x, t, rfl, e⟩
theorem uI (i:Int) (t:Tok):jW (.inl i) (.int i t)=true:=by simp [jW,Value.isInt]
theorem tV (x:Str) (t:Tok):jW (.inr x) (.str x t)=true:=by simp [jW,Value.isStrOf]
theorem Bl (a b:Int):decide ((Sum.inl a:Key)=Sum.inl b)=(a==b):=by
 by_cases e:a=b
 · subst e;simp
 · have h:¬ (Sum.inl a:Key)=Sum.inl b:=fun q=>e (Sum.inl.inj q)
   rw [decide_eq_false h]
   exact (beq_eq_false_iff_ne.mpr e).symm
theorem CD (a b:Str):decide ((Sum.inr a:Key)=Sum.inr b)=decide (a=b):=by
 by_cases e:a=b
 · subst e;simp
 · have h:¬ (Sum.inr a:Key)=Sum.inr b:=fun q=>e (Sum.inr.inj q)
   rw [decide_eq_false h,decide_eq_false e]
theorem CY (a:Int) (b:Str):decide ((Sum.inl a:Key)=Sum.inr b)=false:=decide_eq_false (fun q=>nomatch q)
theorem BT (a:Str) (b:Int):decide ((Sum.inr a:Key)=Sum.inl b)=false:=decide_eq_false (fun q=>nomatch q)
def cj (prog:Program) (w:World):PySem.KeyKind prog w Key where
 is:=jW
 hash:=Ht w
 inj:=fun v a b ha hb=>by
  rcases cu ha with ⟨i,t,rfl,rfl⟩ | ⟨x,t,rfl,rfl⟩
  · rcases cu hb with ⟨j,u,rfl,e⟩ | ⟨y,u,rfl,e⟩
    · injection e with e1 _;rw [e1]
    · exact nomatch e
  · rcases cu hb with ⟨j,u,rfl,e⟩ | ⟨y,u,rfl,e⟩
    · exact nomatch e
    · injection e with e1 _;rw [e1]
 byValue:=fun k v h=>by
  rcases cu h with ⟨i,t,rfl,rfl⟩ | ⟨x,t,rfl,rfl⟩ <;> rfl
 pyHash:=fun hv h=>by
  rcases cu hv with ⟨i,t,rfl,rfl⟩ | ⟨x,t,rfl,rfl⟩
  · exact wpAny_pyHash_int h
  · exact wpAny_pyHash_str h
 eqBool:=fun hu hv h=>by
  rcases cu hu with ⟨i,t,rfl,rfl⟩ | ⟨x,t,rfl,rfl⟩
  · rcases cu hv with ⟨j,u,rfl,rfl⟩ | ⟨y,u,rfl,rfl⟩
    · rw [Bl] at h;exact wpAny_eqBool_int h
    · rw [CY] at h;exact SeqAt.EqAt.int_str i t y u _ _ _ _ h
  · rcases cu hv with ⟨j,u,rfl,rfl⟩ | ⟨y,u,rfl,rfl⟩
    · rw [BT] at h;exact SeqAt.EqAt.str_int x t j u _ _ _ _ h
    · rw [CD] at h;exact wpAny_eqBool_str h
 «strs»:=fun k x t v h=>by
  rcases cu h with ⟨i,u,rfl,e⟩ | ⟨y,u,rfl,e⟩
  · exact nomatch e
  · injection e with e1 _
    subst e1
    cases v <;> rfl
theorem qt (prog:Program) (w:World) (i:Int) (t:Tok):(cj prog w).is (.inl i) (.int i t)=true:=uI i t
theorem qu (prog:Program) (w:World) (x:Str) (t:Tok):(cj prog w).is (.inr x) (.str x t)=true:=tV x t
end L2
namespace L2
open PySem PySem.Spec PyProof.Rows
inductive V where
 | non | bl (b:Bool) | int (i:Int) | str (x:Str) | byt (b:Array UInt8) | flt (b:UInt64) | ref (a:Addr) | ty (n:String)
 deriving DecidableEq
def aX:V→Value→Prop
 | .non,u=>u=Value.none
 | .bl b,u=>u=Value.bool b
 | .int i,u=>∃ t,u=Value.int i t
 | .str x,u=>∃ t,u=Value.str x t
 | .byt b,u=>∃ t,u=Value.bytes b t
 | .flt b,u=>∃ t,u=Value.float b t
 | .ref a,u=>u=Value.ref a
 | .ty n,u=>u=Value.type n
abbrev aS:List V→List Value→Prop:=Paired aX
theorem aS.length {xs:List V} {us:List Value} (r:aS xs us):xs.length=us.length:=Paired.length r
theorem aS.get : ∀ {xs : List V} {us : List Value} {i : Nat} {x : V}, aS xs us → xs[i]? = some x → ∃ u, us[i]? = some u ∧ aX x u
  | _, _, _, _, .nil, e => by simp at e
  | _, _, 0, _, .cons r _, e => by simp at e; subst e; exact ⟨_, rfl, r⟩
  | _, _, i + 1, x, .cons _ t, e => by
    obtain ⟨u, h1, h2⟩ := aS.get (i := i) (x := x) t (by simpa using e)
    exact ⟨u, by simpa using h1, h2⟩
theorem aS.set {x:V} {u:Value} (r:aX x u):∀ {xs:List V} {us:List Value} (i:Nat),aS xs us→aS (xs.set i x) (us.set i u)
 | _,_,_,.nil=> .nil
 | _,_,0,.cons _ t=> .cons r t
 | _,_,i+1,.cons q t=> .cons q (aS.set r i t)
theorem aS.append:∀ {xs ys:List V} {us ws:List Value},aS xs us→aS ys ws→aS (xs++ys) (us++ws)
 | _,_,_,_,.nil,s=>s
 | _,_,_,_,.cons r t,s=> .cons r (aS.append t s)
theorem aS.take:∀ {xs:List V} {us:List Value} (n:Nat),aS xs us→aS (xs.take n) (us.take n)
 | _,_,0,_=> .nil
 | _,_,_+1,.nil=> .nil
 | _,_,n+1,.cons r t=> .cons r (aS.take n t)
theorem aS.drop:∀ {xs:List V} {us:List Value} (n:Nat),aS xs us→aS (xs.drop n) (us.drop n)
 | _,_,0,r=>r
 | _,_,_+1,.nil=> .nil
 | _,_,n+1,.cons _ t=>aS.drop n t
def cB:Option V→Option Value→Prop
 | some v,some u=>aX v u
 | none,none=>True
 | _,_=>False
def KV {κ:Type}:List (κ×V)→List (κ×Value)→Prop:=Paired fun (p:κ×V) (q:κ×Value)=>p.1=q.1∧aX p.2 q.2
def kV:Key→V
 | .inl i=> .int i
 | .inr x=> .str x
inductive HO where
 | lst (xs:List V)
 | tup (xs:List V)
 | dK (kvs:List (Key×V)) | dT (kvs:List (List Key×V))
 | set (S:Int→Bool) (n:Nat)
 | ins (C dx:Addr) (fs:List (Str×V))
 | own (x:Addr)
 | xd (fs:List (Str×V))
 | met (f x:Addr)
 | rng (lo hi:Int)
 | frz (o:Obj) (u:HO)
 | tbl (ps:Array Value)
 | ext (φ:Heap→Prop)
abbrev Hp:=Addr→Option HO
def upd (H:Hp) (a:Addr) (o:HO):Hp:=fun b=>if b=a then some o else H b
theorem ai {H:Hp} {a:Addr} {o:HO}:upd H a o a=some o:=by unfold upd;rw [if_pos rfl]
theorem aq {H:Hp} {a b:Addr} {o:HO} (h:b≠a):upd H a o b=H b:=by unfold upd;rw [if_neg h]
theorem eR {H:Hp} {a:Addr} {o u:HO}:upd (upd H a o) a u=upd H a u:=by
 funext b;unfold upd;split <;> rfl
theorem bH {H:Hp} {a b:Addr} {o u:HO} (h:H a=some o) (h':H b=some u) (d:o≠u):a≠b:=by
 intro e;subst e;rw [h] at h';exact d (Option.some.inj h')
theorem ay {H:Hp} {a b:Addr} {o:HO} (h:H a=some o) (h':H b=none):a≠b:=by
 intro e;subst e;rw [h] at h';cases h'
section
variable (P:Program) (w:World)
def ba (H:Hp) (h:Heap) (a:Addr):HO→Prop
 | .lst xs=>xs.length≤sizeLine∧∃ (its:List Value) (n:Nat),aS xs its∧h.get? a=some { cls:=.type "list",data:=.seq its.toArray n }
 | .tup xs=>xs.length≤sizeLine∧∃ its:List Value,aS xs its∧IsTup h a its.toArray
 | .dK kvs=>kvs.length≤sizeLine∧(a==sysModules)=false∧∃ vs,KV kvs vs∧h.DictOf (cj P w) a vs
 | .dT kvs=>kvs.length≤sizeLine∧(a==sysModules)=false∧∃ xs:List (List Key×Addr×Value),
  Paired (fun (p:List Key×V) (q:List Key×Addr×Value)=>p.1=q.1∧H q.2.1=some (.tup (p.1.map kV))∧aX p.2 q.2.2) kvs xs∧
  ∃ o es ep,h.get? a=some o∧o.ExactDict∧o.data=.dict es ep∧es.toList=xs.map (entryOfKey (tupleKind (cj P w)))∧(xs.map (·.1)).Nodup
 | .set S n=>h.SetOf (intKind P w) a S n
 | .ins C dx fs=>H dx=some (.own a)∧fs.length≤1000∧dx≠a∧h.get? a=some (W.instObj C dx)∧
  ∃ mA,h.Ns1 dx mA∧(∀ f,cB (fs.lookup f) (mA f))∧PySem.Within mA (fs.map (·.1))
 | .own _=>∃ o,h.get? a=some o
 | .xd fs=>∃ mA,h.Ns1 a mA∧∀ f,cB (fs.lookup f) (mA f)
 | .rng lo hi=>∃ t u v,h.get? a=some { cls:=.type "range",data:=.fields #[.int lo t,.int hi u,.int 1 v] }
 | .frz o u=>h.get? a=some o∧ba H h a u
 | .tbl ps=>h.get? a=some { cls:=.none,data:=.fields ps }
 | .met f x=>h.get? a=some (W.methodObj (.ref f) (.ref x))
 | .ext φ=>φ h∧(∃ o,h.get? a=some o)∧∀ h1 h2:Heap,φ h1→(∀ o,h1.get? a=some o→h2.get? a=some o)→φ h2
def HOk (H:Hp) (h:Heap):Prop:=∀ a o,H a=some o→ba P w H h a o
end
section
variable {P:Program} {w:World} {H H':Hp} {h h':Heap} {a:Addr} {o:HO}
theorem ba.lt (x:ba P w H h a o):a<h.objs.size:=by
 cases o with
 | lst xs=>obtain ⟨_,_,_,_,e⟩:=x;exact Heap.lt_size e
 | tup xs=>obtain ⟨_,_,_,p⟩:=x;exact p.lt
 | dK kvs=>obtain ⟨_,_,_,_,o,_,_,e,_⟩:=x;exact Heap.lt_size e
 | dT kvs=>obtain ⟨_,_,_,_,o,_,_,e,_⟩:=x;exact Heap.lt_size e
 | set S n=>obtain ⟨o,_,_,_,e,_⟩:=x;exact Heap.lt_size e
 | ins C dx fs=>obtain ⟨_,_,_,e,_⟩:=x;exact Heap.lt_size e
 | own y=>obtain ⟨_,e⟩:=x;exact Heap.lt_size e
 | xd fs=>obtain ⟨_,⟨_,_,_,e,_⟩,_⟩:=x;exact Heap.lt_size e
 | rng lo hi=>obtain ⟨_,_,_,e⟩:=x;exact Heap.lt_size e
 | frz ob u=>obtain ⟨e,_⟩:=x;exact Heap.lt_size e
 | tbl ps=>exact Heap.lt_size (show h.get? a=some _ from x)
 | met f y=>exact Heap.lt_size (show h.get? a=some _ from x)
 | ext φ=>obtain ⟨_,⟨_,e⟩,_⟩:=x;exact Heap.lt_size e
theorem Paired.mapP {α β:Type} {F G:α→β→Prop}:∀ {l₁:List α} {l₂:List β},Paired F l₁ l₂→(∀ a b,F a b→G a b)→Paired G l₁ l₂
 | _,_,.nil,_=> .nil
 | _,_,.cons r t,f=> .cons (f _ _ r) (Paired.mapP t f)
theorem ba.stay (x : ba P w H h a o) (k : ∀ b u, (b = a ∨ H b = some (.own a)) → h.get? b = some u → h'.get? b = some u)
    (ho : ∀ b, H b = some (.own a) → H' b = some (.own a)) (ht : ∀ b xs, H b = some (.tup xs) → H' b = some (.tup xs)) : ba P w H' h' a o := by
  induction o with
  | lst xs => obtain ⟨z, its, n, r, e⟩ := x; exact ⟨z, its, n, r, k _ _ (.inl rfl) e⟩
  | tup xs => obtain ⟨z, its, r, ob, e, c⟩ := x; exact ⟨z, its, r, ob, k _ _ (.inl rfl) e, c⟩
  | dK kvs => obtain ⟨z, y, vs, r, ob, es, ep, e, c⟩ := x; exact ⟨z, y, vs, r, ob, es, ep, k _ _ (.inl rfl) e, c⟩
  | dT kvs =>
    obtain ⟨z, y, xs, r, ob, es, ep, e, c⟩ := x
    exact ⟨z, y, xs, Paired.mapP r fun p q z => ⟨z.1, ht _ _ z.2.1, z.2.2⟩, ob, es, ep, k _ _ (.inl rfl) e, c⟩
  | set S n => obtain ⟨ob, es, ep, t, e, c⟩ := x; exact ⟨ob, es, ep, t, k _ _ (.inl rfl) e, c⟩
  | ins C dx fs =>
    obtain ⟨d, z, ne, e, mA, ⟨od, es, ep, e2, c⟩, r⟩ := x
    exact ⟨ho _ d, z, ne, k _ _ (.inl rfl) e, mA, ⟨od, es, ep, k _ _ (.inr d) e2, c⟩, r⟩
  | own y => obtain ⟨ob, e⟩ := x; exact ⟨ob, k _ _ (.inl rfl) e⟩
  | xd fs => obtain ⟨mA, ⟨od, es, ep, e, c⟩, r⟩ := x; exact ⟨mA, ⟨od, es, ep, k _ _ (.inl rfl) e, c⟩, r⟩
  | rng lo hi => obtain ⟨t, u, v, e⟩ := x; exact ⟨t, u, v, k _ _ (.inl rfl) e⟩
  | frz ob u ih => obtain ⟨e, q⟩ := x; exact ⟨k _ _ (.inl rfl) e, ih q⟩
  | tbl ps =>
    have e : h.get? a = some { cls := .none, data := .fields ps } := x
    show h'.get? a = some { cls := .none, data := .fields ps }
    exact k a _ (.inl rfl) e
  | met f y =>
    have e : h.get? a = some (W.methodObj (.ref f) (.ref y)) := x
    show h'.get? a = some (W.methodObj (.ref f) (.ref y))
    exact k a _ (.inl rfl) e
  | ext φ => obtain ⟨p, ⟨o, e⟩, st⟩ := x; exact ⟨st _ _ p fun o q => k _ _ (.inl rfl) q, ⟨o, k _ _ (.inl rfl) e⟩, st⟩
theorem HOk.lt (x:HOk P w H h) (e:H a=some o):a<h.objs.size:=(x a o e).lt
theorem HOk.fresh (x:HOk P w H h) (e:h.objs.size≤a):H a=none:=by
 cases q:H a with
 | none=>rfl
 | some u=>exact absurd (Nat.lt_of_lt_of_le (x.lt q) e) (Nat.lt_irrefl _)
theorem HOk.kept (x:HOk P w H h) (k:∀ b u,h.get? b=some u→h'.get? b=some u):HOk P w H h':=fun a o e=>
 (x a o e).stay (fun b u _ q=>k b u q) (fun _ q=>q) fun _ _ q=>q
theorem HOk.laid (x:HOk P w H h) (k:∀ b u,h.get? b=some u→h'.get? b=some u) (hp:h.objs.size≤a) (new:ba P w (upd H a o) h' a o):HOk P w (upd H a o) h':=fun b u e=>by
 have hn:=x.fresh hp
 by_cases hb:b=a
 · subst hb;rw [ai] at e;cases e;exact new
 · rw [aq hb] at e
   exact (x b u e).stay (fun c v _ q=>k c v q) (fun c q=>by rw [aq (ay q hn)];exact q) fun c xs q=>by rw [aq (ay q hn)];exact q
end
def Rd (H:Hp) (a:Addr) (u:HO):Prop:=H a=some u∨∃ o,H a=some (.frz o u)
theorem Rd.ok {P:Program} {w:World} {H:Hp} {h:Heap} {a:Addr} {u:HO} (r:Rd H a u) (x:HOk P w H h):ba P w H h a u:=by
 rcases r with r | ⟨o,r⟩
 · exact x a u r
 · obtain ⟨_,q⟩:=x a _ r
   exact q
def Mut:Option HO→Prop
 | some (.lst _)=>True
 | some (.dK _)=>True
 | some (.dT _)=>True
 | some (.set _ _)=>True
 | some (.ins _ _ _)=>True
 | some (.ext _)=>True
 | _=>False
section
variable {P:Program} {w:World} {H:Hp} {h h':Heap} {x e:Addr} {o':HO}
theorem HOk.write (ok:HOk P w H h) (mu:Mut (H x)) (he:e=x∨H e=some (.own x)) (k:∀ b u,b≠e→h.get? b=some u→h'.get? b=some u) (heo:∃ u,h'.get? e=some u)
   (new:ba P w (upd H x o') h' x o'):HOk P w (upd H x o') h':=fun b u q=>by
 have nown:∀ c y,H c=some (.own y)→c≠x:=fun c y r z=>by subst z;rw [r] at mu;exact mu
 have ntup:∀ c xs,H c=some (.tup xs)→c≠x:=fun c xs r z=>by subst z;rw [r] at mu;exact mu
 by_cases hb:b=x
 · subst hb;rw [ai] at q;cases q;exact new
 · rw [aq hb] at q
   by_cases hbe:b=e
   · have q':H b=some (.own x):=by
       rcases he with z | z
       · exact absurd (hbe.trans z) hb
       · rw [hbe];exact z
     rw [q] at q';cases q'
     obtain ⟨v,hv⟩:=heo
     exact ⟨v,by rw [hbe];exact hv⟩
   · refine (ok b u q).stay (fun c v hc r=>k c v ?_ r) (fun c r=>by rw [aq (nown c b r)];exact r) fun c xs r=>by rw [aq (ntup c xs r)];exact r
     rcases hc with rfl | hc
     · exact hbe
     · rintro rfl
       rcases he with z | z
       · exact nown c b hc z
       · rw [hc] at z;cases z;exact hb rfl
end
structure Un (fs ex:List Addr) (H H':Hp) (h h':Heap):Prop where
 keep:∀ b o,h.get? b=some o→H b=none→b∉fs→b∉ex→h'.get? b=some o
 slot:∀ b o,h.get? b=some o→H b=none→b∈fs→b∉ex→∃ sl,h'.get? b=some { o with slots:=sl }
 free:∀ b o,h.get? b=some o→H b=none→b∉ex→H' b=none
 there:∀ b o,h.get? b=some o→b∉ex→∃ o',h'.get? b=some o'
 tups:∀ b xs,H b=some (.tup xs)→H' b=some (.tup xs)
 frzs:∀ b o u,H b=some (.frz o u)→H' b=some (.frz o u)
 tbls:∀ b ps,H b=some (.tbl ps)→∃ more,H' b=some (.tbl (ps++more))
section
variable {fs fs' ex ex':List Addr} {H H1 H2:Hp} {h h1 h2 h':Heap} {a x e:Addr} {o:HO}
theorem Un.any (u:Un fs ex H H1 h h1) {b:Addr} {ob:Obj} (q:h.get? b=some ob) (n:H b=none) (hx:b∉ex):∃ sl,h1.get? b=some { ob with slots:=sl }:=by
 by_cases hb:b∈fs
 · exact u.slot b ob q n hb hx
 · exact ⟨ob.slots,u.keep b ob q n hb hx⟩
theorem Un.trans (a:Un fs ex H H1 h h1) (b:Un fs ex H1 H2 h1 h2):Un fs ex H H2 h h2 where
 keep:=fun c ob q n hc hx=>b.keep c ob (a.keep c ob q n hc hx) (a.free c ob q n hx) hc hx
 slot:=fun c ob q n hc hx=>by
  obtain ⟨sl,e1⟩:=a.slot c ob q n hc hx
  obtain ⟨sl',e2⟩:=b.slot c _ e1 (a.free c ob q n hx) hc hx
  exact ⟨sl',e2⟩
 free:=fun c ob q n hx=>by
  obtain ⟨o',e1⟩:=a.there c ob q hx
  exact b.free c o' e1 (a.free c ob q n hx) hx
 there:=fun c ob q hx=>by
  obtain ⟨o',e1⟩:=a.there c ob q hx
  exact b.there c o' e1 hx
 tups:=fun c xs q=>b.tups c xs (a.tups c xs q)
 frzs:=fun c ob xs q=>b.frzs c ob xs (a.frzs c ob xs q)
 tbls:=fun c ps q=>by
  obtain ⟨m1,e1⟩:=a.tbls c ps q
  obtain ⟨m2,e2⟩:=b.tbls c _ e1
  exact ⟨m1++m2,by rw [e2,Array.append_assoc]⟩
theorem Un.kept (k:∀ b u,h.get? b=some u→h'.get? b=some u):Un fs ex H H h h':=
 ⟨fun b ob q _ _ _=>k b ob q,fun b ob q _ _ _=>⟨ob.slots,k b ob q⟩,fun _ _ _ n _=>n,fun b ob q _=>⟨ob,k b ob q⟩,fun _ _ q=>q,fun _ _ _ q=>q,fun _ ps q=>⟨#[],by rw [q];simp⟩⟩
theorem Un.refl:Un fs ex H H h h:=Un.kept fun _ _ q=>q
theorem Un.laid (k:∀ b u,h.get? b=some u→h'.get? b=some u) (hp:h.objs.size≤a) (hn:H a=none):Un fs ex H (upd H a o) h h' where
 keep:=fun b u q _ _ _=>k b u q
 slot:=fun b u q _ _ _=>⟨u.slots,k b u q⟩
 free:=fun b u q n _=>by rw [aq (Nat.ne_of_lt (Nat.lt_of_lt_of_le (Heap.lt_size q) hp))];exact n
 there:=fun b u q _=>⟨u,k b u q⟩
 tups:=fun b xs q=>by rw [aq (ay q hn)];exact q
 frzs:=fun b u xs q=>by rw [aq (ay q hn)];exact q
 tbls:=fun b ps q=>⟨#[],by rw [aq (ay q hn),q];simp⟩
theorem Un.write (mu:Mut (H x)) (he:e=x∨H e=some (.own x)) (k:∀ b u,b≠e→h.get? b=some u→h'.get? b=some u) (heo:∃ u,h'.get? e=some u):Un fs ex H (upd H x o) h h':=by
 have hx:∀ b,H b=none→b≠x:=fun b n z=>by subst z;rw [n] at mu;exact mu
 have hb:∀ b,H b=none→b≠e:=fun b n z=>by
   subst z
   rcases he with r | r
   · exact hx b n r
   · rw [n] at r;cases r
 have hm:∀ b u,H b=some u→¬ Mut (some u)→b≠x:=fun b u q nm z=>by subst z;rw [q] at mu;exact nm mu
 refine ⟨fun b u q n _ _=>k b u (hb b n) q,fun b u q n _ _=>⟨u.slots,k b u (hb b n) q⟩,fun b u q n _=>by rw [aq (hx b n)];exact n,fun b u q _=>?_,
   fun b xs q=>by rw [aq (hm b _ q fun z=>z)];exact q,fun b u xs q=>by rw [aq (hm b _ q fun z=>z)];exact q,fun b ps q=>⟨#[],by rw [aq (hm b _ q fun z=>z),q];simp⟩⟩
 by_cases hbe:b=e
 · subst hbe;exact heo
 · exact ⟨u,k b u hbe q⟩
end
def trk (h:Heap) (H:Hp):List Addr:=(List.range h.objs.size).filter fun a=>(H a).isSome
def gC (h:Heap) (H:Hp):Heap:=W.hideAll h (trk h H)
theorem uN (h:Heap) (H:Hp):(gC h H).objs.size=h.objs.size:=W.hideAll_size _ _
theorem xp {h:Heap} {H:Hp} {b:Addr} {o:Obj} (e:h.get? b=some o) (n:H b=none):(gC h H).get? b=some o:=
 W.hideAll_get _ e fun hm=>by
  have q:(H b).isSome=true:=(List.mem_filter.mp hm).2
  rw [n] at q;simp at q
theorem zK {h : Heap} {H : Hp} {b : Addr} {o : Obj} (e : (gC h H).get? b = some o) : h.get? b = some o ∧ H b = none := by
  have e' : h.get? b = some o := W.of_hideAll (trk h H) e
  refine ⟨e', ?_⟩
  cases q : H b with
  | none => rfl
  | some x =>
    have hm : b ∈ trk h H := List.mem_filter.mpr ⟨List.mem_range.mpr (Heap.lt_size e'), by simp [q]⟩
    have z : (gC h H).get? b = none := W.hideAll_none (trk h H) hm
    rw [z] at e; cases e
def zd (g h:Heap) (L:Addr):List (Addr×Obj):=(List.range h.objs.size).filterMap fun a=>if a=L∨(g.get? a).isSome=true then none else (h.get? a).map fun o=>(a,o)
def cq (g h:Heap) (L d:Addr):List (Addr×Obj):=(zd g h L).filter fun p=>decide (p.1≠d)
end L2
namespace L2
open PySem PySem.Spec PyProof.Rows
structure Mod (K:W.Frag) (mg:Str→Option Value) (base:Heap):Prop where
 kin:K.In base
 glob:base.Ns mainGlobals mg
 blt:∃ mb,base.Ns builtinsNs mb∧∀ x:Str,x≠ "__name__" →mb x=bootBuiltins x
 nolimit:base.NoLimit
set_option genInjectivity false in
set_option genSizeOf false in
structure Cx where
 prog:Program
 w:World
 K:W.Frag
 mg:Str→Option Value
 base:Heap
 A:Around
 N:List Str
 s₀:Shared
 H₀:Hp
 env:Env
 outer:List Env
 stack:List Env
 ex:List Addr
 fn:Str→Bool
 calm:Bool
 pn:List (Addr×Obj)
 xe:Value→Shared→Prop
def frs (l:List Env):List Addr:=l.filterMap (·.frame)
abbrev Cx.fs (X:Cx):List Addr:=frs X.outer
def Vis (sc:Scope) (x:Str):Prop:=sc.names.lookup x=some .local∨sc.names.lookup x=some .cell∨sc.names.lookup x=some .free
def Loc (sc:Scope) (x:Str):Prop:=sc.names.lookup x=some .local∨sc.names.lookup x=some .cell
def BN (env:Env) (h:Heap) (m:Str→Option Value) (x:Str) (u:Value):Prop:=
 (env.kindOf x=some .local∧m x=some u)∨((env.kindOf x=some .cell∨env.kindOf x=some .free)∧∃ c,env.cells.lookup x=some c∧h.IsCell c (some u))
set_option genInjectivity false in
set_option genSizeOf false in
structure Cx.Ok (X:Cx):Prop where
 mod:Mod X.K X.mg X.base
 kind:X.env.scope.kind=.function
 glob:X.env.globals=mainGlobals
 blt:X.env.builtins=builtinsNs
 above:X.s₀.heap.objs.size≤X.env.locals
 inj:∀ x y c,X.env.cells.lookup x=some c→X.env.cells.lookup y=some c→x=y
 has:∀ x,(X.env.kindOf x=some .cell∨X.env.kindOf x=some .free)→∃ c,X.env.cells.lookup x=some c
 cab:∀ x c,X.fn x=true→X.env.cells.lookup x=some c→X.s₀.heap.objs.size≤c
 hd:X.calm=true→X.A.handled=none
 frames:X.A.frames=some X.stack
 stk:X.stack=X.outer∨(X.stack=X.env::X.outer∧X.env.frame=some X.env.locals)
 exf:∀ b∈X.ex,b≠X.env.locals∧∀ x c,X.env.cells.lookup x=some c→c≠b
 bs:∀ b o,X.base.get? b=some o→X.s₀.heap.get? b=some o∧X.H₀ b=none
 bsz:X.base.objs.size≤X.s₀.heap.objs.size
 noex:∀ b o,X.base.get? b=some o→b∉X.ex
 exfs:∀ b∈X.ex,b∉X.fs
 funs:X.s₀.heap.FunFrames X.base X.outer
 frf:∀ b∈X.fs,X.H₀ b=none
structure Inv (X:Cx) (pins:List (Addr×Obj)) (σ:List (Option V)) (H:Hp) (s:Shared):Prop where
 ok:X.Ok
 os:s.os=X.s₀.os
 bare:AllBare s.gens
 base:Un X.fs X.ex X.H₀ H X.s₀.heap s.heap
 loc:∃ m,s.heap.Ns X.env.locals m∧∀ (i:Nat) (x:Str) (v:V),X.N[i]?=some x→σ[i]?=some (some v)→Vis X.env.scope x→∃ u,aX v u∧BN X.env s.heap m x u
 cell:∀ x c,X.env.cells.lookup x=some c→∃ v,s.heap.IsCell c v
 free:H X.env.locals=none
 freeC:∀ x c,X.env.cells.lookup x=some c→H c=none
 pin:∀ p∈X.pn++pins,s.heap.get? p.1=some p.2∧H p.1=none∧p.1≠X.env.locals∧p.1∉X.fs∧∀ v,p.2.data≠ .cell v
 hok:HOk X.prog X.w H s.heap
 len:σ.length=X.N.length
section
variable {X:Cx} {pins:List (Addr×Obj)} {σ:List (Option V)} {H H':Hp} {s:Shared} {h':Heap}
theorem Cx.Ok.nofr (ok:X.Ok) {b:Addr} {o:Obj} (e:X.base.get? b=some o):b∉X.fs:=fun hb=>by
 have:=(ok.funs.mem hb).1
 rw [e] at this;cases this
theorem Inv.bs (I:Inv X pins σ H s):∀ b o,X.base.get? b=some o→s.heap.get? b=some o∧H b=none:=fun b o e=>
 ⟨I.base.keep b o (I.ok.bs b o e).1 (I.ok.bs b o e).2 (I.ok.nofr e) (I.ok.noex b o e),I.base.free b o (I.ok.bs b o e).1 (I.ok.bs b o e).2 (I.ok.noex b o e)⟩
theorem Inv.bk (I:Inv X pins σ H s):∀ b o,X.base.get? b=some o→s.heap.get? b=some o:=fun b o e=>(I.bs b o e).1
theorem Inv.mod (I:Inv X pins σ H s):Mod X.K X.mg X.base:=I.ok.mod
theorem Inv.kIn (I:Inv X pins σ H s):X.K.In s.heap:=I.ok.mod.kin.keeps I.bk
theorem Inv.lt (I:Inv X pins σ H s):X.env.locals<s.heap.objs.size:=let ⟨_,hn,_⟩:=I.loc;hn.lt
theorem Inv.sz (I:Inv X pins σ H s):X.s₀.heap.objs.size≤s.heap.objs.size:=Nat.le_trans I.ok.above (Nat.le_of_lt I.lt)
theorem Inv.nofs (I:Inv X pins σ H s) {a:Addr} (h:s.heap.objs.size≤a):a∉X.fs:=fun hb=>by
 obtain ⟨_,o,ho,_⟩:=I.ok.funs.mem hb
 exact absurd (Nat.lt_of_lt_of_le (Heap.lt_size ho) (Nat.le_trans I.sz h)) (Nat.lt_irrefl _)
theorem Inv.cne (I:Inv X pins σ H s):∀ x c,X.env.cells.lookup x=some c→c≠X.env.locals:=fun x c e z=>by
 obtain ⟨v,o,ho,hd⟩:=I.cell x c e
 obtain ⟨m,⟨o',es,ep,ho',hd',_⟩,_⟩:=I.loc
 rw [z,ho'] at ho;cases ho;rw [hd'] at hd;cases hd
theorem Inv.funs (I : Inv X pins σ H s) : s.heap.FunFrames X.base X.outer := by
  have all : ∀ (l : List Env), (∀ b ∈ frs l, b ∈ X.fs) → X.s₀.heap.FunFrames X.base l → s.heap.FunFrames X.base l := by
    intro l
    induction l with
    | nil => intro _ _; trivial
    | cons env r ih =>
      intro hs hl
      obtain ⟨hk, ⟨L, o, hf, hn, ho, hd⟩, hr⟩ := hl
      have hL : L ∈ X.fs := hs L (by unfold frs; rw [List.filterMap_cons, hf]; exact List.mem_cons_self)
      obtain ⟨sl, e⟩ := I.base.slot L o ho (I.ok.frf L hL) hL fun z => I.ok.exfs L z hL
      exact ⟨hk, ⟨L, _, hf, hn, e, hd⟩, ih (fun b hb => hs b (by unfold frs; rw [List.filterMap_cons, hf]; exact List.mem_cons_of_mem _ hb)) hr⟩
  exact all X.outer (fun _ hb => hb) I.ok.funs
theorem Inv.stack (I:Inv X pins σ H s):s.heap.FunFrames X.base X.stack:=by
 rcases I.ok.stk with e | ⟨e,hf⟩
 · rw [e];exact I.funs
 · rw [e]
   obtain ⟨m,hn,_⟩:=I.loc
   refine .cons (by rw [I.ok.kind];decide) hf hn ?_ I.funs
   exact Heap.get?_none_of_le (Nat.le_trans I.ok.bsz I.ok.above)
theorem Inv.stkSub (I:Inv X pins σ H s):∀ b∈frs X.stack,b∈X.env.locals::X.fs:=fun b hb=>by
 rcases I.ok.stk with e | ⟨e,hf⟩
 · rw [e] at hb;exact List.mem_cons_of_mem _ hb
 · rw [e] at hb
   unfold frs at hb
   rw [List.filterMap_cons,hf] at hb
   exact hb
theorem Inv.stkFree (I:Inv X pins σ H s):∀ b∈frs X.stack,H b=none:=fun b hb=>by
 rcases List.mem_cons.mp (I.stkSub b hb) with e | hb
 · rw [e];exact I.free
 · obtain ⟨_,o,ho,_⟩:=I.ok.funs.mem hb
   exact I.base.free b o ho (I.ok.frf b hb) fun z=>I.ok.exfs b z hb
theorem Inv.step {g':Array GenState} {t':Nat} {d':Drawn} {ch:List Addr} (I:Inv X pins σ H s)
   (hch:∀ b∈ch,(b∈X.ex∨X.s₀.heap.objs.size≤b)∧b≠X.env.locals∧(∀ x c,X.env.cells.lookup x=some c→c≠b)∧∀ p∈X.pn++pins,p.1≠b)
   (keep:∀ b o,b≠X.env.locals→b∉X.fs→b∉ch→s.heap.get? b=some o→H b=none→h'.get? b=some o)
   (slot:∀ b o,b≠X.env.locals→b∈X.fs→b∉ch→s.heap.get? b=some o→H b=none→∃ sl,h'.get? b=some { o with slots:=sl }) (free:∀ b o,b∉ch→s.heap.get? b=some o→H b=none→H' b=none)
   (there:∀ b o,b∉ch→s.heap.get? b=some o→∃ o',h'.get? b=some o')
   (tups:∀ b xs,H b=some (.tup xs)→H' b=some (.tup xs)) (frzs:∀ b o u,H b=some (.frz o u)→H' b=some (.frz o u)) (tbls:∀ b ps,H b=some (.tbl ps)→∃ more,H' b=some (.tbl (ps++more)))
   (ns:∀ m,s.heap.Ns X.env.locals m→h'.Ns X.env.locals m) (hok:HOk X.prog X.w H' h') (hg:AllBare g'):
   Inv X pins σ H' { s with heap:=h',gens:=g',drawn:=d',toks:=t' }:=by
 have neL:∀ b o,X.s₀.heap.get? b=some o→b≠X.env.locals:=fun b o e=>Nat.ne_of_lt (Nat.lt_of_lt_of_le (Heap.lt_size e) I.ok.above)
 have neC:∀ b o,X.s₀.heap.get? b=some o→b∉X.ex→b∉ch:=fun b o e hx hb=>by
   rcases (hch b hb).1 with z | z
   · exact hx z
   · exact absurd (Nat.lt_of_lt_of_le (Heap.lt_size e) z) (Nat.lt_irrefl _)
 have cellK:∀ x c,X.env.cells.lookup x=some c→∀ v,s.heap.IsCell c v→h'.IsCell c v:=fun x c e v ⟨o,ho,hd⟩=>by
   have nch:c∉ch:=fun z=>(hch c z).2.2.1 x c e rfl
   by_cases hc:c∈X.fs
   · obtain ⟨sl,q⟩:=slot c o (I.cne x c e) hc nch ho (I.freeC x c e)
     exact ⟨_,q,hd⟩
   · exact ⟨o,keep c o (I.cne x c e) hc nch ho (I.freeC x c e),hd⟩
 refine ⟨I.ok,I.os,hg,⟨fun b o e n hb hx=>?_,fun b o e n hb hx=>?_,fun b o e n hx=>?_,fun b o e hx=>?_,fun b xs e=>tups b xs (I.base.tups b xs e),fun b o xs e=>frzs b o xs (I.base.frzs b o xs e),fun b ps e=>?_⟩,?_,fun x c e=>?_,?_,fun x c e=>?_,fun p hp=>?_,hok,I.len⟩
 · exact keep b o (neL b o e) hb (neC b o e hx) (I.base.keep b o e n hb hx) (I.base.free b o e n hx)
 · obtain ⟨sl,e1⟩:=I.base.slot b o e n hb hx
   obtain ⟨sl',e2⟩:=slot b _ (neL b o e) hb (neC b o e hx) e1 (I.base.free b o e n hx)
   exact ⟨sl',e2⟩
 · obtain ⟨o',e1⟩:=I.base.there b o e hx
   exact free b o' (neC b o e hx) e1 (I.base.free b o e n hx)
 · obtain ⟨o',e1⟩:=I.base.there b o e hx
   exact there b o' (neC b o e hx) e1
 · obtain ⟨m1,e1⟩:=I.base.tbls b ps e
   obtain ⟨m2,e2⟩:=tbls b _ e1
   exact ⟨m1++m2,by rw [e2,Array.append_assoc]⟩
 · obtain ⟨m,hn,hl⟩:=I.loc
   refine ⟨m,ns m hn,fun i x v e1 e2 e3=>?_⟩
   obtain ⟨u,r,l⟩:=hl i x v e1 e2 e3
   refine ⟨u,r,?_⟩
   rcases l with l | ⟨k,c,e,z⟩
   · exact .inl l
   · exact .inr ⟨k,c,e,cellK x c e _ z⟩
 · obtain ⟨v,z⟩:=I.cell x c e
   exact ⟨v,cellK x c e v z⟩
 · obtain ⟨m,⟨o,_,_,ho,_⟩,_⟩:=I.loc
   exact free _ o (fun z=>(hch _ z).2.1 rfl) ho I.free
 · obtain ⟨v,o,ho,hd⟩:=I.cell x c e
   exact free c o (fun z=>(hch c z).2.2.1 x c e rfl) ho (I.freeC x c e)
 · obtain ⟨e,n,ne,nf,d⟩:=I.pin p hp
   have nch:p.1∉ch:=fun z=>(hch p.1 z).2.2.2 p hp rfl
   exact ⟨keep p.1 p.2 ne nf nch e n,free p.1 p.2 nch e n,ne,nf,d⟩
theorem Inv.un {t':Nat} (I:Inv X pins σ H s) (u:Un X.fs [] H H' s.heap h') (hok:HOk X.prog X.w H' h'):Inv X pins σ H' { s with heap:=h',toks:=t' }:=by
 obtain ⟨m,⟨o,es,ep,ho,r⟩,_⟩:=id I.loc
 obtain ⟨sl,hL⟩:=u.any ho I.free (by simp)
 exact I.step (g':=s.gens) (d':=s.drawn) (ch:=[]) (fun _ z=>nomatch z) (fun b o _ hb _ e n=>u.keep b o e n hb (by simp)) (fun b o _ hb _ e n=>u.slot b o e n hb (by simp)) (fun b o _ e n=>u.free b o e n (by simp)) (fun b o _ e=>u.there b o e (by simp)) u.tups u.frzs u.tbls (fun m' hm=>by
  obtain ⟨o',es',ep',ho',r'⟩:=hm
  rw [ho] at ho';cases ho'
  exact ⟨_,es',ep',hL,r'⟩) hok I.bare
theorem Inv.call {g':Array GenState} {t':Nat} {d':Drawn} {ch:List Addr} (I:Inv X pins σ H s) (u:Un (frs X.stack) ch H H' s.heap h') (hok:HOk X.prog X.w H' h') (hg:AllBare g')
  (hch:∀ b∈ch,(b∈X.ex∨X.s₀.heap.objs.size≤b)∧b≠X.env.locals∧(∀ x c,X.env.cells.lookup x=some c→c≠b)∧∀ p∈X.pn++pins,p.1≠b):
  Inv X pins σ H' { s with heap:=h',gens:=g',drawn:=d',toks:=t' }:=by
 obtain ⟨m,⟨o,es,ep,ho,r⟩,_⟩:=id I.loc
 obtain ⟨sl,hL⟩:=u.any ho I.free fun z=>(hch _ z).2.1 rfl
 exact I.step (ch:=ch) hch (fun b o hL hb hc e n=>u.keep b o e n (fun z=>(List.mem_cons.mp (I.stkSub b z)).elim hL hb) hc) (fun b o _ _ hc e n=>u.any e n hc) (fun b o hc e n=>u.free b o e n hc) (fun b o hc e=>u.there b o e hc) u.tups u.frzs u.tbls (fun m' hm=>by
  obtain ⟨o',es',ep',ho',r'⟩:=hm
  rw [ho] at ho';cases ho'
  exact ⟨_,es',ep',hL,r'⟩) hok hg
theorem Inv.turned {t':Nat} {it:Addr} (I:Inv X pins σ H s) (k:∀ b o,b≠it→s.heap.get? b=some o→h'.get? b=some o) (hn:H it=none) (hL:it≠X.env.locals)
   (h1:it∈X.ex∨X.s₀.heap.objs.size≤it) (h2:∀ x c,X.env.cells.lookup x=some c→c≠it) (h3:∀ p∈X.pn++pins,p.1≠it):Inv X pins σ H { s with heap:=h',toks:=t' }:=by
 have nit:∀ b u,H b=some u→b≠it:=fun b u e z=>by rw [z,hn] at e;cases e
 refine I.step (g':=s.gens) (d':=s.drawn) (ch:=[it]) (fun b hb=>?_) (fun b o _ _ hc e _=>k b o (fun z=>hc (by simp [z])) e) (fun b o _ _ hc e _=>⟨o.slots,k b o (fun z=>hc (by simp [z])) e⟩) (fun _ _ _ _ n=>n)
   (fun b o hc e=>⟨o,k b o (fun z=>hc (by simp [z])) e⟩) (fun _ _ e=>e) (fun _ _ _ e=>e) (fun b ps e=>⟨#[],by rw [e];simp⟩) (fun m hm=>?_) (fun b u e=>?_) I.bare
 · have e:b=it:=by simpa using hb
   subst e
   exact ⟨h1,hL,h2,h3⟩
 · obtain ⟨o,es,ep,ho,r⟩:=hm
   exact ⟨o,es,ep,k _ o (Ne.symm hL) ho,r⟩
 · refine (I.hok b u e).stay (fun c v hc q=>k c v ?_ q) (fun _ q=>q) fun _ _ q=>q
   rcases hc with z | z
   · rw [z];exact nit b u e
   · exact nit c _ z
theorem Inv.tok (I:Inv X pins σ H s) (t:Nat):Inv X pins σ H { s with toks:=t }:=I.un (h':=s.heap) (t':=t) Un.refl I.hok
theorem Inv.kept {t':Nat} (I:Inv X pins σ H s) (k:∀ b u,s.heap.get? b=some u→h'.get? b=some u):Inv X pins σ H { s with heap:=h',toks:=t' }:=I.un (Un.kept k) (I.hok.kept k)
theorem Inv.laid {a:Addr} {o:HO} {t':Nat} (I:Inv X pins σ H s) (k:∀ b u,s.heap.get? b=some u→h'.get? b=some u) (hp:s.heap.objs.size≤a) (new:ba X.prog X.w (upd H a o) h' a o):
 Inv X pins σ (upd H a o) { s with heap:=h',toks:=t' }:=I.un (Un.laid k hp (I.hok.fresh hp)) (I.hok.laid k hp new)
theorem Inv.write {x e:Addr} {o:HO} {t':Nat} (I:Inv X pins σ H s) (mu:Mut (H x)) (he:e=x∨H e=some (.own x)) (k:∀ b u,b≠e→s.heap.get? b=some u→h'.get? b=some u) (heo:∃ u,h'.get? e=some u)
 (new:ba X.prog X.w (upd H x o) h' x o):Inv X pins σ (upd H x o) { s with heap:=h',toks:=t' }:=I.un (Un.write mu he k heo) (I.hok.write mu he k heo new)
theorem Inv.pins_of {pins':List (Addr×Obj)} (I:Inv X pins σ H s) (h:∀ p∈pins',s.heap.get? p.1=some p.2∧H p.1=none∧p.1≠X.env.locals∧p.1∉X.fs∧∀ v,p.2.data≠ .cell v):Inv X pins' σ H s:=
 ⟨I.ok,I.os,I.bare,I.base,I.loc,I.cell,I.free,I.freeC,fun p hp=>(List.mem_append.mp hp).elim (fun z=>I.pin p (List.mem_append_left _ z)) (h p),I.hok,I.len⟩
theorem kT {N:List Str} (hN:N.Nodup) {i j:Nat} {x:Str} (a:N[i]?=some x) (b:N[j]?=some x):i=j:=by
 obtain ⟨h1,e1⟩:=List.getElem?_eq_some_iff.mp a
 obtain ⟨h2,e2⟩:=List.getElem?_eq_some_iff.mp b
 exact (List.getElem_inj hN).mp (e1.trans e2.symm)
theorem mY {M:Model} {A:Around} {E:Value→Shared→Prop} {i:Nat} {x:Str} {v:V} {u:Value} {Q:Unit→Shared→Prop} (I:Inv X pins σ H s) (hN:X.N.Nodup) (hi:X.N[i]?=some x) (hx:Loc X.env.scope x) (r:aX v u)
   (h:∀ s',Inv X pins (σ.set i (some v)) H s'→(∃ a,Heap.SameBut a s.heap s'.heap∧(a=X.env.locals∨X.env.cells.lookup x=some a))→Q () s') (hf:X.fn x=true∨X.env.scope.names.lookup x=some .local:=by first | exact .inl rfl | exact .inr rfl | assumption):wpAny M A (storeName X.env x u) Q E s:=by
 obtain ⟨m,hn,hl⟩:=id I.loc
 have hcls:(X.env.scope.kind==.class||(X.env.scope.kind==.module&&X.env.locals !=X.env.globals))=false:=by rw [I.ok.kind];rfl
 have hiσ:i<σ.length:=by rw [I.len];exact (List.getElem?_eq_some_iff.mp hi).1
 have cne:=I.cne
 have tracked:∀ {a:Addr} {h':Heap},(∃ o,s.heap.get? a=some o∧H a=none)→Heap.SameBut a s.heap h'→HOk X.prog X.w H h':=fun {a h'} ha hs b ob e=>by
   obtain ⟨_,_,hfree⟩:=ha
   refine (I.hok b ob e).stay (fun c w' hc q=>(hs.2 c ?_).trans q) (fun _ q=>q) fun _ _ q=>q
   rintro rfl
   rcases hc with rfl | hc
   · rw [hfree] at e;cases e
   · rw [hfree] at hc;cases hc
 rcases hx with hk | hk
 · refine wpAny_storeName_local hk hn (fun h' hn' hs=>?_) hcls
   obtain ⟨oL,_,_,hoL,_⟩:=id hn
   refine h _ ⟨I.ok,I.os,I.bare,⟨fun b o e n hb hx=>?_,fun b o e n hb hx=>?_,I.base.free,fun b o e hx=>?_,I.base.tups,I.base.frzs,I.base.tbls⟩,⟨_,hn',fun j y v' e1 e2 e3=>?_⟩,fun y c e=>?_,I.free,I.freeC,fun p hp=>?_,tracked ⟨oL,hoL,I.free⟩ hs,by simpa using I.len⟩ ⟨_,hs,.inl rfl⟩
   · exact (hs.2 b (Nat.ne_of_lt (Nat.lt_of_lt_of_le (Heap.lt_size e) I.ok.above))).trans (I.base.keep b o e n hb hx)
   · obtain ⟨sl,e1⟩:=I.base.slot b o e n hb hx
     exact ⟨sl,(hs.2 b (Nat.ne_of_lt (Nat.lt_of_lt_of_le (Heap.lt_size e) I.ok.above))).trans e1⟩
   · obtain ⟨o',e1⟩:=I.base.there b o e hx
     exact ⟨o',(hs.2 b (Nat.ne_of_lt (Nat.lt_of_lt_of_le (Heap.lt_size e) I.ok.above))).trans e1⟩
   · by_cases hj:j=i
     · subst hj
       rw [hi] at e1;cases e1
       rw [List.getElem?_set_self hiσ] at e2
       cases e2
       exact ⟨u,r,.inl ⟨hk,by simp⟩⟩
     · rw [List.getElem?_set_ne (Ne.symm hj)] at e2
       obtain ⟨u',r',q⟩:=hl j y v' e1 e2 e3
       refine ⟨u',r',?_⟩
       rcases q with ⟨k,e⟩ | ⟨k,c,e,z⟩
       · refine .inl ⟨k,?_⟩
         have:y≠x:=fun e=>hj (kT hN e1 (e▸hi))
         simp [this,e]
       · exact .inr ⟨k,c,e,z.sameBut hs (cne y c e)⟩
   · obtain ⟨w',z⟩:=I.cell y c e
     exact ⟨w',z.sameBut hs (cne y c e)⟩
   · obtain ⟨e,n,ne,nf,d⟩:=I.pin p hp
     exact ⟨(hs.2 p.1 ne).trans e,n,ne,nf,d⟩
 · have hfn:X.fn x=true:=by
     rcases hf with z | z
     · exact z
     · rw [z] at hk;cases hk
   obtain ⟨c,hc⟩:=I.ok.has x (.inl hk)
   obtain ⟨w',z⟩:=I.cell x c hc
   refine wpAny_storeName_cell I.ok.kind hk hc z (fun h' hc' hs=>?_)
   obtain ⟨oc,hoc,hocd⟩:=id z
   refine h { s with heap:=h' } ⟨I.ok,I.os,I.bare,⟨fun b o e n hb hx=>?_,fun b o e n hb hx=>?_,I.base.free,fun b o e hx=>?_,I.base.tups,I.base.frzs,I.base.tbls⟩,⟨m,hn.sameBut hs (Ne.symm (cne x c hc)),fun j y v' e1 e2 e3=>?_⟩,fun y c' e=>?_,I.free,I.freeC,fun p hp=>?_,tracked ⟨oc,hoc,I.freeC x c hc⟩ hs,by simpa using I.len⟩ ⟨c,hs,.inr hc⟩
   · exact (hs.2 b (Nat.ne_of_lt (Nat.lt_of_lt_of_le (Heap.lt_size e) (I.ok.cab x c hfn hc)))).trans (I.base.keep b o e n hb hx)
   · obtain ⟨sl,e1⟩:=I.base.slot b o e n hb hx
     exact ⟨sl,(hs.2 b (Nat.ne_of_lt (Nat.lt_of_lt_of_le (Heap.lt_size e) (I.ok.cab x c hfn hc)))).trans e1⟩
   · obtain ⟨o',e1⟩:=I.base.there b o e hx
     exact ⟨o',(hs.2 b (Nat.ne_of_lt (Nat.lt_of_lt_of_le (Heap.lt_size e) (I.ok.cab x c hfn hc)))).trans e1⟩
   · by_cases hj:j=i
     · subst hj
       rw [hi] at e1;cases e1
       rw [List.getElem?_set_self hiσ] at e2
       cases e2
       exact ⟨u,r,.inr ⟨.inl hk,c,hc,hc'⟩⟩
     · rw [List.getElem?_set_ne (Ne.symm hj)] at e2
       obtain ⟨u',r',q⟩:=hl j y v' e1 e2 e3
       refine ⟨u',r',?_⟩
       rcases q with q | ⟨k,c',e,z'⟩
       · exact .inl q
       · refine .inr ⟨k,c',e,z'.sameBut hs ?_⟩
         rintro rfl
         exact hj (kT hN e1 (I.ok.inj _ _ _ e hc▸hi))
   · by_cases hcc:c'=c
     · subst hcc;exact ⟨_,hc'⟩
     · obtain ⟨w2,z2⟩:=I.cell y c' e
       exact ⟨w2,z2.sameBut hs hcc⟩
   · obtain ⟨e,n,ne,nf,d⟩:=I.pin p hp
     refine ⟨(hs.2 p.1 ?_).trans e,n,ne,nf,d⟩
     intro q
     rw [q,hoc] at e
     have q':oc=p.2:=Option.some.inj e
     exact d w' (by rw [← q'];exact hocd)
theorem fu {M:Model} {A:Around} {E:Value→Shared→Prop} {i:Nat} {x:Str} {v:V} {u:Value} {Q:Unit→Shared→Prop} (I:Inv X pins σ H s) (hN:X.N.Nodup) (hi:X.N[i]?=some x) (hx:Loc X.env.scope x) (r:aX v u)
  (h:∀ s',Inv X pins (σ.set i (some v)) H s'→Q () s') (hf:X.fn x=true∨X.env.scope.names.lookup x=some .local:=by first | exact .inl rfl | exact .inr rfl | assumption):wpAny M A (storeName X.env x u) Q E s:=
 mY I hN hi hx r (fun s' I' _=>h s' I') hf
theorem Inv.call' {s':Shared} {ch:List Addr} (I:Inv X pins σ H s) (ho:s'.os=s.os) (u:Un (frs X.stack) ch H H' s.heap s'.heap) (hok:HOk X.prog X.w H' s'.heap) (hg:AllBare s'.gens)
  (hch:∀ b∈ch,(b∈X.ex∨X.s₀.heap.objs.size≤b)∧b≠X.env.locals∧(∀ x c,X.env.cells.lookup x=some c→c≠b)∧∀ p∈X.pn++pins,p.1≠b):Inv X pins σ H' s':=by
 obtain ⟨h',g',d',t',o'⟩:=s'
 have e:o'=s.os:=ho
 subst e
 exact I.call (g':=g') (t':=t') (d':=d') u hok hg hch
end
abbrev XK:=Value→Option Addr→Hp→Prop
abbrev St:=List (Option V)
abbrev VK:=V→Hp→Prop
abbrev TE:=St→Hp→VK→Prop
abbrev TT:=St→Hp→(Bool→Hp→Prop)→Prop
abbrev TA:=St→Hp→(List V→Hp→Prop)→Prop
structure eU where
 nx:St→Hp→Prop
 rt:VK
 bk:St→Hp→Prop:=fun _ _=>False
 ct:St→Hp→Prop:=fun _ _=>False
abbrev TS:=eU→St→Hp→Prop
def EP (X:Cx) (pins:List (Addr×Obj)) (σ:St) (Q:VK) (u:Value) (s':Shared):Prop:=∃ v H',Inv X pins σ H' s'∧aX v u∧Q v H'
def TP (X:Cx) (pins:List (Addr×Obj)) (σ:St) (Q:Bool→Hp→Prop) (b:Bool) (s':Shared):Prop:=∃ H',Inv X pins σ H' s'∧Q b H'
def AP (X:Cx) (pins:List (Addr×Obj)) (σ:St) (Q:List V→Hp→Prop) (us:List Value) (s':Shared):Prop:=∃ vs H',Inv X pins σ H' s'∧aS vs us∧Q vs H'
def SP (X:Cx) (pins:List (Addr×Obj)) (D:eU) (f:Flow) (s':Shared):Prop:=
 match f with
 | .next=>∃ σ' H',Inv X pins σ' H' s'∧D.nx σ' H'
 | .brk=>∃ σ' H',Inv X pins σ' H' s'∧D.bk σ' H'
 | .cont=>∃ σ' H',Inv X pins σ' H' s'∧D.ct σ' H'
 | .ret u=>∃ v σ' H',Inv X pins σ' H' s'∧aX v u∧D.rt v H'
def PE (X:Cx) (e:Expr) (t:TE):Prop:=
 ∀ (pins:List (Addr×Obj)) (s:Shared) (σ:St) (H:Hp) (Q:VK),Inv X pins σ H s→t σ H Q→wpAny (model X.prog X.w) X.A (eval e X.env) (EP X pins σ Q) X.xe s
def PT (X:Cx) (e:Expr) (t:TT):Prop:=
 ∀ (pins:List (Addr×Obj)) (s:Shared) (σ:St) (H:Hp) (Q:Bool→Hp→Prop),Inv X pins σ H s→t σ H Q→wpAny (model X.prog X.w) X.A (isTrue e X.env (eval e X.env)) (TP X pins σ Q) X.xe s
def PW (X:Cx) (e:Expr) (t:TT):Prop:=
 ∀ (whole:Sem Value) (pins:List (Addr×Obj)) (s:Shared) (σ:St) (H:Hp) (Q:Bool→Hp→Prop),Inv X pins σ H s→t σ H Q→wpAny (model X.prog X.w) X.A (isTrue e X.env whole) (TP X pins σ Q) X.xe s
theorem PW.pt {X:Cx} {e:Expr} {t:TT} (h:PW X e t):PT X e t:=h _
def PA (X:Cx) (es:List Expr) (t:TA):Prop:=
 ∀ (pos:Pos) (pins:List (Addr×Obj)) (s:Shared) (σ:St) (H:Hp) (Q:List V→Hp→Prop),Inv X pins σ H s→t σ H Q→wpAny (model X.prog X.w) X.A (spliced (backTo pos (starEach es X.env))) (AP X pins σ Q) X.xe s
def PS (X:Cx) (st:Stmt) (t:TS):Prop:=
 ∀ (pins:List (Addr×Obj)) (s:Shared) (σ:St) (H:Hp) (D:eU),Inv X pins σ H s→t D σ H→wpAny (model X.prog X.w) X.A (exec st X.env) (SP X pins D) X.xe s
def PSs (X:Cx) (st:List Stmt) (t:TS):Prop:=
 ∀ (pins:List (Addr×Obj)) (s:Shared) (σ:St) (H:Hp) (D:eU),Inv X pins σ H s→t D σ H→wpAny (model X.prog X.w) X.A (execs st X.env) (SP X pins D) X.xe s
theorem thn {α:Type} {t:Sem α} {Q Q':α→Shared→Prop} {M:Model} {A:Around} {E:Value→Shared→Prop} {s:Shared} (h:wpAny M A t Q E s) (hQ:∀ a s,Q a s→Q' a s):wpAny M A t Q' E s:=wpAny_mono h hQ fun _ _ x=>x
end L2
namespace L2
open PySem PySem.Spec PyProof.Rows
section
variable {X:Cx}
def GQ (i:Nat):TE:=fun σ H Q=>∃ v,σ[i]?=some (some v)∧Q v H
def tC (v:V):TE:=fun _ H Q=>Q v H
theorem Bo {i:Nat} {x:Str} {pos:Pos} (hN:X.N[i]?=some x) (hv:Vis X.env.scope x) (hd:(x==("__debug__" :Str))=false:=by decide) (hcd:(x==("__classdict__" :Str))=false:=by decide):PE X (.Name x pos) (GQ i):=by
 intro pins s σ H Q I h
 obtain ⟨v,e,h⟩:=h
 obtain ⟨m,hn,hl⟩:=I.loc
 obtain ⟨u,r,l⟩:=hl i x v hN e hv
 have fin:EP X pins σ Q u s:=⟨v,H,I,r,h⟩
 rcases l with ⟨hk,hm⟩ | ⟨hk,c,hc,hcell⟩
 · exact wpAny_Name (wpAny_loadName_local I.ok.kind hk hn hm fin) hd
 · rcases hk with hk | hk
   · exact wpAny_Name (wpAny_loadName_cell I.ok.kind hk hc hcell fin) hd
   · exact wpAny_Name (wpAny_loadName_free I.ok.kind hk hc hcell fin hcd) hd
theorem AE {i j pos}:PE X (.Constant (.int i) j pos) (tC (.int i)):=fun _ _ _ H _ I h=>wpAny_Constant_int ⟨.int i,H,I.tok _,⟨_,rfl⟩,h⟩
theorem Gw {b j pos}:PE X (.Constant (.bool b) j pos) (tC (.bl b)):=fun _ _ _ H _ I h=>Constant_bool ⟨.bl b,H,I,rfl,h⟩
theorem Aa {j pos}:PE X (.Constant .none j pos) (tC .non):=fun _ _ _ H _ I h=>Constant_none ⟨.non,H,I,rfl,h⟩
theorem Ci {x j pos}:PE X (.Constant (.str x) j pos) (tC (.str x)):=fun _ _ _ H _ I h=>Calls.Constant_str ⟨.str x,H,I.tok _,⟨_,rfl⟩,h⟩
def Gl (X:Cx) (x:Str):Prop:=X.env.kindOf x=some .globalImplicit
theorem fm {E:Value→Shared→Prop} {pins:List (Addr×Obj)} {s:Shared} {σ:St} {H:Hp} {x:Str} {u:Value} {pos:Pos} {Q:Value→Shared→Prop} (I:Inv X pins σ H s) (hg:Gl X x) (hm:X.mg x=some u) (h:Q u s)
  (hd:(x==("__debug__" :Str))=false:=by decide):wpAny (model X.prog X.w) X.A (eval (.Name x pos) X.env) Q E s:=
 Calls.Name_function_global I.ok.kind hg (Calls.loadGlobal_global (by rw [I.ok.glob];exact I.mod.glob.keeps I.bk) hm h) hd
theorem gs {E:Value→Shared→Prop} {pins:List (Addr×Obj)} {s:Shared} {σ:St} {H:Hp} {x:Str} {u:Value} {pos:Pos} {Q:Value→Shared→Prop} (I:Inv X pins σ H s) (hg:Gl X x) (hm:X.mg x=none) (hv:bootBuiltins x=some u) (h:Q u s)
  (hn:x≠ "__name__" :=by decide) (hd:(x==("__debug__" :Str))=false:=by decide):wpAny (model X.prog X.w) X.A (eval (.Name x pos) X.env) Q E s:=by
 obtain ⟨mb,h1,h2⟩:=I.mod.blt
 exact Calls.Name_function_global I.ok.kind hg (Calls.loadGlobal_builtin (by rw [I.ok.glob];exact I.mod.glob.keeps I.bk) hm (by rw [I.ok.blt];exact h1.keeps I.bk) ((h2 x hn).trans hv) h) hd
theorem rh {x:Str} {v:V} {u:Value} {pos:Pos} (hg:Gl X x) (hm:X.mg x=some u) (r:aX v u) (hd:(x==("__debug__" :Str))=false:=by decide):PE X (.Name x pos) (tC v):=
 fun _ _ _ H _ I h=>fm I hg hm ⟨v,H,I,r,h⟩ hd
theorem yQ {x:Str} {v:V} {u:Value} {pos:Pos} (hg:Gl X x) (hm:X.mg x=none) (hv:bootBuiltins x=some u) (r:aX v u) (hn:x≠ "__name__" :=by decide) (hd:(x==("__debug__" :Str))=false:=by decide):PE X (.Name x pos) (tC v):=
 fun _ _ _ H _ I h=>gs I hg hm hv ⟨v,H,I,r,h⟩ hn hd
variable {a b:Expr} {ta tb:TE} {pos:Pos}
variable {tA tB':TT} {cq:List Expr}
def dj (t:TT):TT:=fun σ H Q=>t σ H fun c H1=>Q (!c) H1
theorem BL (ha:PT X a tA):PW X (.BoolOp .Or [a] pos) tA:=by
 intro wh pins s σ H Q I h
 refine isTrue_or (thn (ha pins s σ H Q I h) fun c s1 e=>?_)
 cases c with
 | false=>exact isTrue_or_nil e
 | true=>exact e
theorem Ae (ha:PT X a tA):PT X (.UnaryOp .Not a pos) (dj tA):=by
 intro pins s σ H Q I h
 exact isTrue_not (ha pins s σ H (fun c H1=>Q (!c) H1) I h)
theorem CF {op} {t:TE} (h:PE X a t):PE X (.BoolOp op [a] pos) t:=fun pins s σ H Q I hw=>BoolOp_one (h pins s σ H Q I hw)
end
end L2
namespace L2
open PySem PySem.Spec PyProof.Rows
def SqL (K:W.Frag) (H:Hp) (a:Addr) (xs:List V):Prop:=
 Rd H a (.lst xs)∨
  ∃ (o:Obj) (its:Array Value) (n:Nat),K.lookup a=some o∧o.cls=.type "list" ∧o.dict=none∧o.data=.seq its n∧its.size≤sizeLine∧aS xs its.toList
def SqT (K:W.Frag) (H:Hp) (a:Addr) (xs:List V):Prop:=
 Rd H a (.tup xs)∨
  ∃ (o:Obj) (its:Array Value) (n:Nat),K.lookup a=some o∧o.cls=.type "tuple" ∧o.data=.seq its n∧its.size≤sizeLine∧aS xs its.toList
def HC:Value→Option V
 | .none=>some .non
 | .bool b=>some (.bl b)
 | .int i _=>some (.int i)
 | .str x _=>some (.str x)
 | .bytes b _=>some (.byt b)
 | .float b _=>some (.flt b)
 | .ref a=>some (.ref a)
 | .type n=>some (.ty n)
 | _=>none
theorem aX.abs {x:V} {u:Value} (r:aX x u):HC u=some x:=by
 cases x with
 | non=>cases r;rfl
 | bl _=>cases r;rfl
 | int _=>obtain ⟨t,rfl⟩:=r;rfl
 | str _=>obtain ⟨t,rfl⟩:=r;rfl
 | byt _=>obtain ⟨t,rfl⟩:=r;rfl
 | flt _=>obtain ⟨t,rfl⟩:=r;rfl
 | ref _=>cases r;rfl
 | ty _=>cases r;rfl
theorem aX.inj {x y:V} {u:Value} (r:aX x u) (q:aX y u):x=y:=Option.some.inj (r.abs.symm.trans q.abs)
theorem aS.inj:∀ {xs ys:List V} {us:List Value},aS xs us→aS ys us→xs=ys
 | _,_,_,.nil,.nil=>rfl
 | _,_,_,.cons r t,.cons r' t'=>by rw [r.inj r',aS.inj t t']
section
variable {X:Cx} {pins:List (Addr×Obj)} {σ:St} {H:Hp} {s:Shared} {a:Addr} {xs ys:List V}
theorem SqL.of {K:W.Frag} (h:H a=some (.lst xs)):SqL K H a xs:=.inl (.inl h)
theorem SqT.of {K:W.Frag} (h:H a=some (.tup xs)):SqT K H a xs:=.inl (.inl h)
theorem Inv.list (I:Inv X pins σ H s) (h:SqL X.K H a xs):∃ its:List Value,aS xs its∧PlainL s.heap a its.toArray∧xs.length≤sizeLine:=by
 rcases h with h | ⟨o,its,n,hk,hc,hd,hs,hz,r⟩
 · obtain ⟨z,its,n,r,e⟩:=h.ok I.hok
   exact ⟨its,r,⟨_,n,e,rfl,rfl,rfl⟩,z⟩
 · refine ⟨its.toList,r,⟨o,n,I.kIn a o hk,hc,hd,by simpa using hs⟩,?_⟩
   have e:=r.length
   simp only [Array.length_toList] at e
   omega
theorem Inv.tuple (I:Inv X pins σ H s) (h:SqT X.K H a xs):∃ its:List Value,aS xs its∧IsTup s.heap a its.toArray∧xs.length≤sizeLine:=by
 rcases h with h | ⟨o,its,n,hk,hc,hs,hz,r⟩
 · obtain ⟨z,its,r,p⟩:=h.ok I.hok
   exact ⟨its,r,p,z⟩
 · refine ⟨its.toList,r,⟨o,I.kIn a o hk,hc,n,by simpa using hs⟩,?_⟩
   have e:=r.length
   simp only [Array.length_toList] at e
   omega
theorem Inv.list_inj (I:Inv X pins σ H s) (h:SqL X.K H a xs) (h':SqL X.K H a ys):xs=ys:=by
 obtain ⟨its,r,⟨o,n,e,_,_,d⟩,_⟩:=I.list h
 obtain ⟨its',r',⟨o',n',e',_,_,d'⟩,_⟩:=I.list h'
 rw [e] at e';cases e'
 rw [d] at d'
 injection d' with d1 _
 have:its=its':=by simpa using congrArg Array.toList d1
 subst this
 exact r.inj r'
theorem Inv.tuple_inj (I:Inv X pins σ H s) (h:SqT X.K H a xs) (h':SqT X.K H a ys):xs=ys:=by
 obtain ⟨its,r,⟨o,e,_,n,d⟩,_⟩:=I.tuple h
 obtain ⟨its',r',⟨o',e',_,n',d'⟩,_⟩:=I.tuple h'
 rw [e] at e';cases e'
 rw [d] at d'
 injection d' with d1 _
 have:its=its':=by simpa using congrArg Array.toList d1
 subst this
 exact r.inj r'
end
abbrev Cx.wish (X:Cx) (E:Value→Shared→Prop):Cx:={ X with xe:=E }
abbrev Cx.nox (X:Cx):Cx:=X.wish fun _ _=>False
theorem Cx.Ok.wish {X:Cx} (ok:X.Ok) (E:Value→Shared→Prop):(X.wish E).Ok:=
 ⟨ok.mod,ok.kind,ok.glob,ok.blt,ok.above,ok.inj,ok.has,ok.cab,ok.hd,ok.frames,ok.stk,ok.exf,ok.bs,ok.bsz,ok.noex,ok.exfs,ok.funs,ok.frf⟩
theorem Cx.Ok.unwish {X:Cx} {E:Value→Shared→Prop} (ok:(X.wish E).Ok):X.Ok:=
 ⟨ok.mod,ok.kind,ok.glob,ok.blt,ok.above,ok.inj,ok.has,ok.cab,ok.hd,ok.frames,ok.stk,ok.exf,ok.bs,ok.bsz,ok.noex,ok.exfs,ok.funs,ok.frf⟩
section
variable {X:Cx} {pins:List (Addr×Obj)} {σ:St} {H:Hp} {s:Shared} {E:Value→Shared→Prop}
theorem Inv.wish (I:Inv X pins σ H s) (E:Value→Shared→Prop):Inv (X.wish E) pins σ H s:=⟨I.ok.wish E,I.os,I.bare,I.base,I.loc,I.cell,I.free,I.freeC,I.pin,I.hok,I.len⟩
theorem Inv.unwish (I:Inv (X.wish E) pins σ H s):Inv X pins σ H s:=⟨I.ok.unwish,I.os,I.bare,I.base,I.loc,I.cell,I.free,I.freeC,I.pin,I.hok,I.len⟩
theorem SP.unwish {D:eU} {f:Flow} {s':Shared} (h:SP (X.wish E) pins D f s'):SP X pins D f s':=by
 cases f with
 | next=>obtain ⟨σ',H',I,q⟩:=h;exact ⟨σ',H',I.unwish,q⟩
 | brk=>obtain ⟨σ',H',I,q⟩:=h;exact ⟨σ',H',I.unwish,q⟩
 | cont=>obtain ⟨σ',H',I,q⟩:=h;exact ⟨σ',H',I.unwish,q⟩
 | ret u=>obtain ⟨v,σ',H',I,r,q⟩:=h;exact ⟨v,σ',H',I.unwish,r,q⟩
theorem PE.nox {e:Expr} {t:TE} (h:PE X.nox e t):PE X e t:=fun pins s σ H Q I hw=>
 wpAny_mono (h pins s σ H Q (I.wish _) hw) (fun _ _ ⟨v,H',I',r,q⟩=>⟨v,H',I'.unwish,r,q⟩) fun _ _ z=>False.elim z
theorem PSs.nox {st:List Stmt} {t:TS} (h:PSs X.nox st t):PSs X st t:=fun pins s σ H D I hw=>
 wpAny_mono (h pins s σ H D (I.wish _) hw) (fun _ _ q=>q.unwish) fun _ _ z=>False.elim z
end
section
variable {X:Cx} {st:Stmt} {cq:List Stmt} {t u:TS} {e:Expr} {te:TE} {pos:Pos}
def aK:TS:=fun D σ H=>D.nx σ H
def av (t u:TS):TS:=fun D σ H=>t { D with nx:=u D } σ H
theorem zg:PSs X [] aK:=fun _ _ σ H _ I h=>wpAny_execs_nil ⟨σ,H,I,h⟩
theorem vj (h1 : PS X st t) (h2 : PSs X cq u) : PSs X (st :: cq) (av t u) := by
  intro pins s σ H D I h
  refine wpAny_execs_cons (thn (h1 pins s σ H { D with nx := u D } I h) fun f s1 q => ?_)
  cases f with
  | next =>
    obtain ⟨σ', H', I', q⟩ := q
    exact h2 pins s1 σ' H' D I' q
  | ret v => exact q
  | brk => exact q
  | cont => exact q
theorem zC (h1:PS X st t):PSs X [st] t:=by
 intro pins s σ H D I h
 refine wpAny_execs_cons (thn (h1 pins s σ H D I h) fun f s1 q=>?_)
 cases f with
 | next=>exact wpAny_execs_nil q
 | ret v=>exact q
 | brk=>exact q
 | cont=>exact q
theorem Inv.quiet {pins:List (Addr×Obj)} {σ:St} {H:Hp} {s:Shared} (I:Inv X pins σ H s):interactive X.env=false:=by simp [interactive,I.ok.kind]
def cz (te:TE):TS:=fun D σ H=>te σ H fun _ H1=>D.nx σ H1
theorem zr (he:PE X e te) (hs:swapsWith e none pos.line X.env=pure false:=by rfl):PS X (.Expr e pos) (cz te):=by
 intro pins s σ H D I h
 exact wpAny_Expr_any (thn (he pins s σ H _ I h) fun v s1 ⟨x,H1,I1,r1,q1⟩=>⟨σ,H1,I1,q1⟩) I.quiet hs
def aD (te:TE):TS:=fun D σ H=>te σ H D.rt
theorem Au (he:PE X e te):PS X (.Return (some e) pos) (aD te):=by
 intro pins s σ H D I h
 exact wpAny_Return_some (thn (he pins s σ H _ I h) fun v s1 ⟨x,H1,I1,r1,q1⟩=>⟨x,σ,H1,I1,r1,q1⟩)
def jq:TS:=fun _ _ _=>False
theorem wS:PS X st jq:=fun _ _ _ _ _ _ h=>h.elim
end
abbrev TG:=V→St→Hp→(St→Hp→Prop)→Prop
abbrev TGs:=List V→St→Hp→(St→Hp→Prop)→Prop
def PG (X:Cx) (target:Expr) (t:TG):Prop:=
 ∀ (pins:List (Addr×Obj)) (s:Shared) (σ:St) (H:Hp) (v:V) (u:Value) (Q:St→Hp→Prop),Inv X pins σ H s→aX v u→t v σ H Q→
  wpAny (model X.prog X.w) X.A (assign target X.env u) (fun _ s'=>∃ σ' H',Inv X pins σ' H' s'∧Q σ' H') X.xe s
def PGs (X:Cx) (ts:List Expr) (t:TGs):Prop:=
 ∀ (pins:List (Addr×Obj)) (s:Shared) (σ:St) (H:Hp) (vs:List V) (us:List Value) (Q:St→Hp→Prop),Inv X pins σ H s→aS vs us→t vs σ H Q→
  wpAny (model X.prog X.w) X.A (assignInOrder ((assignEach ts X.env).map (·.2)) us) (fun _ s'=>∃ σ' H',Inv X pins σ' H' s'∧Q σ' H') X.xe s
abbrev wG:=V→V→V→Hp→(Hp→Prop)→Prop
def sU (X:Cx) (t:wG):Prop:=
 ∀ (pins:List (Addr×Obj)) (s:Shared) (σ:St) (H:Hp) (o i v:V) (ov iv u:Value) (Q:Hp→Prop),Inv X pins σ H s→aX o ov→aX i iv→aX v u→t o i v H Q→
  wpAny (model X.prog X.w) X.A (setItem ov iv u) (fun _ s'=>∃ H',Inv X pins σ H' s'∧Q H') X.xe s
section
variable {X:Cx} {pos:Pos}
def aw (i:Nat):TG:=fun v σ H Q=>Q (σ.set i (some v)) H
theorem me {i:Nat} {x:Str} (hN:X.N.Nodup) (hi:X.N[i]?=some x) (hx:Loc X.env.scope x) (hf:X.fn x=true∨X.env.scope.names.lookup x=some .local:=by first | exact .inl rfl | exact .inr rfl | assumption):PG X (.Name x pos) (aw i):=by
 intro pins s σ H v u Q I r h
 exact wpAny_assign_Name (fu I hN hi hx r (fun s' I'=>⟨_,H,I',h⟩) hf)
def sd:TGs:=fun vs σ H Q=>vs=[]∧Q σ H
def ja (t:TG) (u:TGs):TGs:=fun vs σ H Q=>∃ v r,vs=v::r∧t v σ H fun σ' H'=>u r σ' H' Q
theorem zk:PGs X [] sd:=by
 intro pins s σ H vs us Q I r h
 obtain ⟨e,h⟩:=h
 subst e
 cases r
 exact assignInOrder_nil ⟨σ,H,I,h⟩
theorem pR {e : Expr} {es : List Expr} {t : TG} {u : TGs} (h1 : PG X e t) (h2 : PGs X es u)
    (hs : (assignEach (e :: es) X.env).map (·.2) = assign e X.env :: (assignEach es X.env).map (·.2) := by rfl) : PGs X (e :: es) (ja t u) := by
  intro pins s σ H vs us Q I r h
  obtain ⟨v, vr, e1, h⟩ := h
  subst e1
  cases r with
  | cons r rr =>
    rw [hs]
    refine assignInOrder_cons (thn (h1 pins s σ H _ _ _ I r h) fun _ s1 ⟨σ1, H1, I1, q1⟩ => ?_)
    exact h2 pins s1 σ1 H1 _ _ Q I1 rr q1
def sQ (K:W.Frag) (n:Nat) (t:TGs):TG:=fun v σ H Q=>∃ a xs,v=.ref a∧SqT K H a xs∧xs.length=n∧t xs σ H Q
theorem Ca {es:List Expr} {k:Nat} {t:TGs} {n:Nat} (hc:X.calm=true) (h:PGs X es t)
  (hn:(assignEach es X.env).length=n:=by rfl) (hst:(assignEach es X.env).findIdx? (·.1)=none:=by rfl):PG X (.Tuple es k pos) (sQ X.K n t):=by
 intro pins s σ H v u Q I r hw
 obtain ⟨a,xs,e1,hq,hl,hw⟩:=hw
 subst e1
 cases r
 obtain ⟨its,rv,ht,hz⟩:=I.tuple hq
 refine assign_Tuple_tuple (I.ok.hd hc) ht (by simp [hn,←hl,rv.length]) hst fun h' hx=>?_
 have I1:Inv X pins σ H { s with heap:=h' }:=I.kept (t':=s.toks) fun b o e=>hx b o (Nat.ne_of_lt (Heap.lt_size e)) e
 exact h pins _ σ H xs _ Q I1 (by simpa using rv) hw
def rZ (to ti:TE) (t:wG):TG:=fun v σ H Q=>to σ H fun o H1=>ti σ H1 fun i H2=>t o i v H2 fun H3=>Q σ H3
theorem Db {o i : Expr} {to ti : TE} {t : wG} (ho : PE X o to) (hi : PE X i ti) (hs : sU X t)
  (ha : ∀ v, assign (.Subscript o i pos) X.env v = (do
   let ov ← holding [v] (eval o X.env)
   let iv ← holding [v, ov] (eval i X.env)
   standAt pos
   holding [v, ov, iv] (setItem ov iv v)
   release [v, ov, iv] []) := by intro _; rfl) : PG X (.Subscript o i pos) (rZ to ti t) := by
 intro pins s σ H v u Q I r h
 rw [ha]
 refine wpAny_bind (wpAny_holding (thn (ho pins s σ H _ I h) fun ov s1 ⟨x, H1, I1, r1, q1⟩ => ?_))
 refine wpAny_bind (wpAny_holding (thn (hi pins s1 σ H1 _ I1 q1) fun iv s2 ⟨y, H2, I2, r2, q2⟩ => ?_))
 refine wpAny_bind (wpAny_standAt (wpAny_bind (wpAny_holding (thn (hs pins s2 σ H2 x y v ov iv u _ I2 r1 r2 r q2) fun _ s3 ⟨H3, I3, q3⟩ => ?_))))
 exact wpAny_release ⟨σ, H3, I3, q3⟩
def aA (te:TE) (g:TG):TS:=fun D σ H=>te σ H fun x H1=>g x σ H1 D.nx
theorem uz {tg e:Expr} {te:TE} {g:TG} (he:PE X e te) (hg:PG X tg g) (hs:swapsWithSole [tg] e pos.line X.env=pure false:=by rfl) (hw:swappedStores [tg] e X.env=pure none:=by rfl)
  (h1:(assignEach [tg] X.env).map (·.2)=[assign tg X.env]:=by rfl):PS X (.Assign [tg] e pos) (aA te g):=by
 intro pins s σ H D I h
 refine wpAny_Assign_stores (thn (he pins s σ H _ I h) fun v s1 ⟨x,H1,I1,r1,q1⟩=>?_) hs hw
 rw [h1]
 exact thn (hg pins s1 σ H1 x v _ I1 r1 q1) fun _ s2 q=>q
theorem Az {i:Nat} {x:Str} {e:Expr} {te:TE} {pos':Pos} (hN:X.N.Nodup) (hi:X.N[i]?=some x) (hx:Loc X.env.scope x) (he:PE X e te) (hs:swapsWith e (some (.Name x pos')) pos.line X.env=pure false:=by rfl) (hf:X.fn x=true∨X.env.scope.names.lookup x=some .local:=by first | exact .inl rfl | exact .inr rfl | assumption):
  PS X (.Assign [.Name x pos'] e pos) (aA te (aw i)):=by
 intro pins s σ H D I h
 refine wpAny_Assign_Name (thn (he pins s σ H _ I h) fun v s1 ⟨y,H1,I1,r1,q1⟩=>?_) hs
 exact fu I1 hN hi hx r1 (fun s2 I2=>⟨_,H1,I2,q1⟩) hf
end
section
variable {X:Cx} {pos:Pos}
def ii (c:TT) (tb:TS):TS:=fun D σ H=>∃ W:Nat→St→Hp→Prop,(∃ m,W m σ H)∧∀ m σ H,W m σ H→
 c σ H fun b H1=>if b=true then ∃ N:St→Hp→Prop,(∀ σ' H',N σ' H'→∃ m',m'<m∧W m' σ' H')∧tb { D with nx:=N,ct:=N,bk:=D.nx } σ H1 else D.nx σ H1
theorem xn {c : Expr} {body : List Stmt} {tc : TT} {tb : TS} (hp : PassesOwn (model X.prog X.w) X.A X.env X.xe) (hc : PT X c tc) (hb : PSs X body tb) : PS X (.While c body [] pos) (ii tc tb) := by
  intro pins s σ H D I h
  obtain ⟨W, ⟨m0, w0⟩, turn⟩ := h
  refine wpAny_While (codeAny_whileLoop (fun n s' => ∃ σ' H', Inv X pins σ' H' s' ∧ W n σ' H') ?_ m0 ⟨σ, H, I, w0⟩)
  rintro n s1 ⟨σ1, H1, I1, w1⟩
  refine wpAny_passesOwn hp (thn (hc pins s1 σ1 H1 _ I1 (turn n σ1 H1 w1)) fun b s2 ⟨H2, I2, q2⟩ => ?_)
  cases b with
  | true =>
    obtain ⟨N, hN, q2⟩ := q2
    rw [if_pos rfl]
    refine wpAny_passesOwn hp (thn (hb pins s2 σ1 H2 _ I2 q2) fun f s3 q3 => ?_)
    cases f with
    | next =>
      obtain ⟨σ3, H3, I3, n3⟩ := q3
      obtain ⟨m', hm, w3⟩ := hN σ3 H3 n3
      exact ⟨m', hm, σ3, H3, I3, w3⟩
    | cont =>
      obtain ⟨σ3, H3, I3, n3⟩ := q3
      obtain ⟨m', hm, w3⟩ := hN σ3 H3 n3
      exact ⟨m', hm, σ3, H3, I3, w3⟩
    | brk => exact q3
    | ret v => exact q3
  | false =>
    rw [if_neg Bool.false_ne_true]
    exact wpAny_execs_nil ⟨σ1, H2, I2, q2⟩
end
structure It where
 go:Nat→Hp→Prop
 yld:Nat→Hp→V→Hp→Prop
 stop:Nat→Hp→Prop
def jr (X:Cx) (pins:List (Addr×Obj)) (H:Hp) (b:Addr):Prop:=
 H b=none∧b≠X.env.locals∧b∉X.fs∧(b∈X.ex∨X.s₀.heap.objs.size≤b)∧(∀ x c,X.env.cells.lookup x=some c→c≠b)∧∀ p∈X.pn++pins,p.1≠b
theorem Inv.fpOk {X:Cx} {pins:List (Addr×Obj)} {σ:St} {H H':Hp} {s:Shared} {b:Addr} (I:Inv X pins σ H s) (hb:s.heap.objs.size≤b) (hn:H' b=none):jr X pins H' b:=by
 refine ⟨hn,Nat.ne_of_gt (Nat.lt_of_lt_of_le I.lt hb),I.nofs hb,.inr (Nat.le_trans I.sz hb),fun x c e z=>?_,fun p hp z=>?_⟩
 · obtain ⟨v,q⟩:=I.cell x c e
   exact absurd (Nat.lt_of_lt_of_le q.lt (by rw [z];exact hb)) (Nat.lt_irrefl _)
 · exact absurd (Nat.lt_of_lt_of_le (Heap.lt_size (I.pin p hp).1) (by rw [z];exact hb)) (Nat.lt_irrefl _)
structure mE (P:Program) (w:World) (K:W.Frag) (tg:Expr) (J:It) (fp:List Addr) (it:Addr) (tn:Nat→Heap→Prop):Prop where
 mem:it∈fp
 obj:∀ i h,tn i h→∀ b∈fp,∃ o,h.get? b=some o∧∀ v,o.data≠ .cell v
 keep:∀ i h h',tn i h→(∀ b∈fp,∀ o,h.get? b=some o→h'.get? b=some o)→tn i h'
 item:∀ (X:Cx),X.prog=P→X.w=w→X.K=K→X.calm=true→∀ (i:Nat) (pins:List (Addr×Obj)) (s:Shared) (σ:St) (H:Hp) (E:Value→Shared→Prop),Inv X pins σ H s→(∀ b∈fp,jr X pins H b)→tn i s.heap→J.go i H→
  wpAny (model P w) X.A (pyNext (.ref it)) (fun r s1=>∃ u,r=some u∧
   wpAny (model P w) X.A (letOwnedTupleGo tg (.ref it) u) (fun _ s2=>∃ x H',Inv X pins σ H' s2∧aX x u∧J.yld i H x H'∧tn (i+1) s2.heap∧∀ b∈fp,H' b=none) E s1) E s
 done:∀ (X:Cx),X.prog=P→X.w=w→X.K=K→X.calm=true→∀ (i:Nat) (pins:List (Addr×Obj)) (s:Shared) (σ:St) (H:Hp) (E:Value→Shared→Prop),Inv X pins σ H s→(∀ b∈fp,jr X pins H b)→tn i s.heap→J.stop i H→
  wpAny (model P w) X.A (pyNext (.ref it)) (fun r s1=>r=none∧Inv X pins σ H s1) E s
 self:∀ (A:Around) (i:Nat) (s:Shared) (Q:Value→Shared→Prop) (E:Value→Shared→Prop),tn i s.heap→Q (.ref it) s→wpAny (model P w) A (pyIter (.ref it)) Q E s
abbrev TI:=St→Hp→(It→Hp→Prop)→Prop
def PIE (X:Cx) (pins:List (Addr×Obj)) (σ:St) (tg:Expr) (R:It→Hp→Prop) (itv:Value) (s2:Shared):Prop:=
 ∃ (it:Addr) (fp:List Addr) (tn:Nat→Heap→Prop) (J:It) (H':Hp),itv=.ref it∧Inv X pins σ H' s2∧mE X.prog X.w X.K tg J fp it tn∧tn 0 s2.heap∧(∀ b∈fp,jr X pins H' b)∧R J H'
def PI (X:Cx) (tg iter:Expr) (wi:TI):Prop:=
 ∀ (pins:List (Addr×Obj)) (s:Shared) (σ:St) (H:Hp) (R:It→Hp→Prop),Inv X pins σ H s→wi σ H R→
  wpAny (model X.prog X.w) X.A (eval iter X.env) (fun v s1=>wpAny (model X.prog X.w) X.A (pyIter v) (PIE X pins σ tg R) X.xe s1) X.xe s
theorem oJ {M : Model} {A : Around} {E : Value → Shared → Prop} {s : Shared} {tg : Expr} {it : Addr} {u : Value} {o : Obj} {n : String} {vs : Array Value} {Q : Unit → Shared → Prop} (ho : s.heap.get? it = some o) (hc : o.cls = .type n) (hd : o.data = .fields vs)
    (hn : ["enumerate", "zip", "dict_itemiterator", "dict_reverseitemiterator", "odict_iterator", "itertools.zip_longest", "itertools.pairwise"].contains n = false) (hQ : Q () s) : wpAny M A (letOwnedTupleGo tg (.ref it) u) Q E s := by
  unfold letOwnedTupleGo
  cases tg <;> first
    | exact wpAny_pure hQ
    | (cases u <;> first
        | exact wpAny_pure hQ
        | (refine wpAny_bind (wpAny_load ho ?_)
           rw [hc, hd]
           show wpAny M A (if (["enumerate", "zip", "dict_itemiterator", "dict_reverseitemiterator", "odict_iterator", "itertools.zip_longest", "itertools.pairwise"].contains n && vs[0]? == some (rawInt _)) = true then _ else _) Q E s
           rw [if_neg (by intro h; rw [hn, Bool.false_and] at h; cases h)]
           exact wpAny_pure hQ))
def Itl (K:W.Frag) (a:Addr):It:=
 ⟨fun i H=>∃ xs x,SqL K H a xs∧xs[i]?=some x,fun i H x H'=>H'=H∧∀ xs,SqL K H a xs→xs[i]?=some x,fun i H=>∃ xs,SqL K H a xs∧xs.length≤i⟩
def Itt (K:W.Frag) (a:Addr):It:=
 ⟨fun i H=>∃ xs x,SqT K H a xs∧xs[i]?=some x,fun i H x H'=>H'=H∧∀ xs,SqT K H a xs→xs[i]?=some x,fun i H=>∃ xs,SqT K H a xs∧xs.length≤i⟩
def Itr (lo:Int) (n:Nat):It:=⟨fun i _=>i<n,fun i H x H'=>H'=H∧x=.int (lo+i),fun i _=>n≤i⟩
theorem ub {P:Program} {w:World} {K:W.Frag} {tg:Expr} (a it:Addr):mE P w K tg (Itl K a) [it] it (fun i h=>h.IsListIter it a i) where
 mem:=by simp
 obj:=fun i h st b hb=>by
  have e:b=it:=by simpa using hb
  subst e
  obtain ⟨o,e,c,d⟩:=st
  exact ⟨o,e,fun v z=>by rw [d] at z;cases z⟩
 keep:=fun i h h' st k=>st.at fun o e=>k it (by simp) o e
 item:=by
  intro X hP hw hK hc i pins s σ H E I hf st hg
  subst hP hw hK
  obtain ⟨xs,x,hq,hx⟩:=hg
  obtain ⟨its,rv,p,hz⟩:=I.list hq
  obtain ⟨u,hu,ru⟩:=rv.get hx
  obtain ⟨f0,f1,f2,f3,f4,f5⟩:=hf it (by simp)
  refine wpAny_pyNext_list_item st p.isList (x:=u) (by simpa using hu) fun h' st' sb=>?_
  have I1:Inv X pins σ H { s with heap:=h' }:=I.turned (t':=s.toks) (fun b o hb e=>(sb.2 b hb).trans e) f0 f1 f3 f4 f5
  obtain ⟨o,e,c,d⟩:=id st'
  exact ⟨u,rfl,oJ (s:={ s with heap:=h' }) e c d (by decide) ⟨x,H,I1,ru,⟨rfl,fun ys hy=>by rw [I.list_inj hy hq];exact hx⟩,st',fun b hb=>(hf b hb).1⟩⟩
 done:=by
  intro X hP hw hK hc i pins s σ H E I hf st hg
  subst hP hw hK
  obtain ⟨xs,hq,hx⟩:=hg
  obtain ⟨its,rv,p,hz⟩:=I.list hq
  obtain ⟨f0,f1,f2,f3,f4,f5⟩:=hf it (by simp)
  have hl:=rv.length
  exact wpAny_pyNext_list_end (I.ok.hd hc) st p.isList (by simp;omega) fun h' eb=>⟨rfl,I.turned (t':=s.toks) (fun b o hb e=>eb b o hb e) f0 f1 f3 f4 f5⟩
 self:=fun _ _ _ _ _ st h=>wpAny_pyIter_listiter st h
theorem sg {P:Program} {w:World} {K:W.Frag} {tg:Expr} (a it:Addr):mE P w K tg (Itt K a) [it] it (fun i h=>h.IsTupleIter it a i) where
 mem:=by simp
 obj:=fun i h st b hb=>by
  have e:b=it:=by simpa using hb
  subst e
  obtain ⟨o,e,c,d⟩:=st
  exact ⟨o,e,fun v z=>by rw [d] at z;cases z⟩
 keep:=fun i h h' st k=>st.at fun o e=>k it (by simp) o e
 item:=by
  intro X hP hw hK hc i pins s σ H E I hf st hg
  subst hP hw hK
  obtain ⟨xs,x,hq,hx⟩:=hg
  obtain ⟨its,rv,p,hz⟩:=I.tuple hq
  obtain ⟨u,hu,ru⟩:=rv.get hx
  obtain ⟨f0,f1,f2,f3,f4,f5⟩:=hf it (by simp)
  refine wpAny_pyNext_tuple_item st (show s.heap.IsTuple a its.toArray from p) (x:=u) (by simpa using hu) fun h' st' sb=>?_
  have I1:Inv X pins σ H { s with heap:=h' }:=I.turned (t':=s.toks) (fun b o hb e=>(sb.2 b hb).trans e) f0 f1 f3 f4 f5
  obtain ⟨o,e,c,d⟩:=id st'
  exact ⟨u,rfl,oJ (s:={ s with heap:=h' }) e c d (by decide) ⟨x,H,I1,ru,⟨rfl,fun ys hy=>by rw [I.tuple_inj hy hq];exact hx⟩,st',fun b hb=>(hf b hb).1⟩⟩
 done:=by
  intro X hP hw hK hc i pins s σ H E I hf st hg
  subst hP hw hK
  obtain ⟨xs,hq,hx⟩:=hg
  obtain ⟨its,rv,p,hz⟩:=I.tuple hq
  obtain ⟨f0,f1,f2,f3,f4,f5⟩:=hf it (by simp)
  have hl:=rv.length
  exact wpAny_pyNext_tuple_end (I.ok.hd hc) st (show s.heap.IsTuple a its.toArray from p) (by simp;omega) fun h' eb=>⟨rfl,I.turned (t':=s.toks) (fun b o hb e=>eb b o hb e) f0 f1 f3 f4 f5⟩
 self:=fun _ _ _ _ _ st h=>wpAny_pyIter_tupleiter st h
theorem sI {P:Program} {w:World} {K:W.Frag} {tg:Expr} (it:Addr) (lo:Int) (n:Nat):mE P w K tg (Itr lo n) [it] it (fun i h=>IsRangeIter h it (lo+(i:Nat)*1) ((n:Int) - (i:Nat)) 1) where
 mem:=by simp
 obj:=fun i h st b hb=>by
  have e:b=it:=by simpa using hb
  subst e
  exact ⟨_,st,fun v z=>by
   have z':Data.fields _=Data.cell v:=z
   cases z'⟩
 keep:=fun i h h' st k=>k it (by simp) _ st
 item:=by
  intro X hP hw hK hc i pins s σ H E I hf st hg
  subst hP hw hK
  obtain ⟨f0,f1,f2,f3,f4,f5⟩:=hf it (by simp)
  have W:=Walks.range (prog:=X.prog) (w:=X.w) (I.ok.hd hc) it lo 1 n
  refine W.item i s _ _ hg st fun v h' tk hv st' kk=>?_
  obtain ⟨t,rfl⟩:=hv
  have I1:Inv X pins σ H { s with heap:=h',toks:=tk }:=I.turned (fun b o hb e=>kk b o (by simpa using hb) e) f0 f1 f3 f4 f5
  refine ⟨_,rfl,oJ (s:={ s with heap:=h',toks:=tk }) (n:= "range_iterator") st' rfl rfl (by decide) ⟨.int (lo+i),H,I1,⟨t,?_⟩,⟨rfl,rfl⟩,st',fun b hb=>(hf b hb).1⟩⟩
  rw [Int.mul_one]
 done:=by
  intro X hP hw hK hc i pins s σ H E I hf st hg
  subst hP hw hK
  obtain ⟨f0,f1,f2,f3,f4,f5⟩:=hf it (by simp)
  exact wpAny_pyNext_range_end (I.ok.hd hc) st (by have:n≤i:=hg;omega) fun h' eb=>⟨rfl,I.turned (t':=s.toks) (fun b o hb e=>eb b o hb e) f0 f1 f3 f4 f5⟩
 self:=fun _ _ _ _ _ st h=>wpAny_pyIter_rangeiter st h
end L2
namespace L2
open PySem PySem.Spec PyProof.Rows
section
variable {X:Cx} {tg:Expr}
theorem qe {pins:List (Addr×Obj)} {σ:St} {H:Hp} {s:Shared} {R:It→Hp→Prop} {E:Value→Shared→Prop} {lo hi:Int} {t u v:Tok} {tk:Nat} (I:Inv X pins σ H s) (h1: -(2^62)≤lo) (h2:lo<2^62) (h3: -(2^62)≤hi) (h4:hi<2^62)
   (q:R (Itr lo (hi - lo).toNat) H):wpAny (model X.prog X.w) X.A (pyIter (.ref s.heap.objs.size)) (PIE X pins σ tg R) E { s with heap:=s.heap.push { cls:=.type "range",data:=.fields #[.int lo t,.int hi u,.int 1 v] },toks:=tk }:=by
 refine wpAny_pyIter_range (IsRange.new ..) (small_one h1 h2 h3 h4) ?_
 have I1:Inv X pins σ H { s with heap:=s.heap.push { cls:=.type "range",data:=.fields #[.int lo t,.int hi u,.int 1 v] },toks:=tk }:=I.kept fun b o e=>Heap.get?_push_of_some _ e
 refine ⟨(s.heap.push { cls:=.type "range",data:=.fields #[.int lo t,.int hi u,.int 1 v] }).objs.size,[(s.heap.push { cls:=.type "range",data:=.fields #[.int lo t,.int hi u,.int 1 v] }).objs.size],_,_,H,rfl,
   I1.kept (t':=tk) fun b o e=>Heap.get?_push_of_some _ e,sI _ lo (hi - lo).toNat,?_,fun b hb=>?_,q⟩
 · have e1:lo+((0:Nat):Int)*1=lo:=by simp
   have e2:(((hi - lo).toNat:Nat):Int) - ((0:Nat):Int)=Builtin.Range.rangeSize lo hi 1:=by rw [rangeSize_one];split <;> omega
   show IsRangeIter _ _ (lo+((0:Nat):Int)*1) ((((hi - lo).toNat:Nat):Int) - ((0:Nat):Int)) 1
   rw [e1,e2]
   exact Heap.get?_push_size _ rfl
 · have e:b=(s.heap.push { cls:=.type "range",data:=.fields #[.int lo t,.int hi u,.int 1 v] }).objs.size:=by simpa using hb
   subst e
   exact I1.fpOk (Nat.le_refl _) (I1.hok.fresh (Nat.le_refl _))
def gJ (ta:TA):TI:=fun σ H R=>ta σ H fun vs H1=>∃ j:Int,vs=[.int j]∧ -(2^62)≤j∧j<2^62∧R (Itr 0 j.toNat) H1
def gH (ta:TA):TI:=fun σ H R=>ta σ H fun vs H1=>∃ i j:Int,vs=[.int i,.int j]∧(-(2^62)≤i∧i<2^62∧ -(2^62)≤j∧j<2^62)∧R (Itr i (j - i).toNat) H1
theorem uK {a : Expr} {ta : TA} {p pos : Pos} (hg : Gl X "range") (hm : X.mg "range" = none) (ha : PA X [a] ta) (hs : starEach [a] X.env = [(false, eval a X.env)] := by rfl) : PI X tg (.Call (.Name "range" p) [a] [] pos) (gJ ta) := by
  intro pins s σ H R I h
  refine Call_ (gs I hg hm boot_range (PyProof.Rows.callWith_type1 (thn (ha pos pins s σ H _ I h) fun us s1 ⟨vs, H1, I1, r1, q1⟩ => ?_) hs rfl))
  obtain ⟨j, e, q1, q2, q⟩ := q1
  subst e
  cases r1 with
  | cons r rr =>
    cases rr
    obtain ⟨t, rfl⟩ := r
    exact call_range_1 (qe I1 (by omega) (by omega) q1 q2 (by simpa using q))
theorem uD {a b : Expr} {ta : TA} {p pos : Pos} (hg : Gl X "range") (hm : X.mg "range" = none) (ha : PA X [a, b] ta) (hs : starEach [a, b] X.env = [(false, eval a X.env), (false, eval b X.env)] := by rfl) (hs2 : starEach [b] X.env = [(false, eval b X.env)] := by rfl) :
    PI X tg (.Call (.Name "range" p) [a, b] [] pos) (gH ta) := by
  intro pins s σ H R I h
  refine Call_ (gs I hg hm boot_range (PyProof.Rows.callWith_type1 (thn (ha pos pins s σ H _ I h) fun us s1 ⟨vs, H1, I1, r1, q1⟩ => ?_) (by rw [hs, hs2]) (by rw [hs2]; rfl)))
  obtain ⟨i, j, e, ⟨q1, q2, q3, q4⟩, q⟩ := q1
  subst e
  cases r1 with
  | cons r rr =>
    cases rr with
    | cons r' rr =>
      cases rr
      obtain ⟨t, rfl⟩ := r
      obtain ⟨t', rfl⟩ := r'
      exact call_range_2 (qe I1 q1 q2 q3 q4 q)
def gQ (wi:TI) (g:TG) (tb:TS):TS:=fun D σ H=>wi σ H fun J H1=>∃ W:Nat→Nat→St→Hp→Prop,(∃ m,W 0 m σ H1)∧∀ i m σ H,W i m σ H→
 (J.stop i H∧D.nx σ H)∨(J.go i H∧∃ N:St→Hp→Prop,(∀ σ' H',N σ' H'→∃ m',m'<m∧W (i+1) m' σ' H')∧∀ x H',J.yld i H x H'→g x σ H' fun σ2 H2=>tb { D with nx:=N,ct:=N,bk:=D.nx } σ2 H2)
def jk (fp:List Addr) (h:Heap):List (Addr×Obj):=fp.filterMap fun b=>(h.get? b).map fun o=>(b,o)
theorem fT {fp:List Addr} {h:Heap} {b:Addr} {o:Obj} (hb:b∈fp) (e:h.get? b=some o):(b,o)∈jk fp h:=List.mem_filterMap.mpr ⟨b,hb,by rw [e];rfl⟩
theorem uP {fp : List Addr} {h : Heap} {p : Addr × Obj} (hp : p ∈ jk fp h) : p.1 ∈ fp ∧ h.get? p.1 = some p.2 := by
  obtain ⟨b, hb, e⟩ := List.mem_filterMap.mp hp
  cases q : h.get? b with
  | none => rw [q] at e; cases e
  | some o =>
    rw [q] at e
    have e' : (b, o) = p := Option.some.inj e
    subst e'
    exact ⟨hb, q⟩
theorem Inv.pinned {pins:List (Addr×Obj)} {σ:St} {H:Hp} {s:Shared} {fp:List Addr} (I:Inv X pins σ H s) (hf:∀ b∈fp,jr X pins H b) (ho:∀ b∈fp,∃ o,s.heap.get? b=some o∧∀ v,o.data≠ .cell v):Inv X (pins++jk fp s.heap) σ H s:=
 I.pins_of fun p hp=>(List.mem_append.mp hp).elim (fun z=>I.pin p (List.mem_append_right _ z)) fun z=>by
  obtain ⟨hb,e⟩:=uP z
  obtain ⟨f0,f1,f2,_⟩:=hf p.1 hb
  obtain ⟨o,e',d⟩:=ho p.1 hb
  rw [e] at e';cases e'
  exact ⟨e,f0,f1,f2,d⟩
theorem Inv.unpinned {pins pl:List (Addr×Obj)} {σ:St} {H:Hp} {s:Shared} (I:Inv X (pins++pl) σ H s):Inv X pins σ H s:=I.pins_of fun p hp=>I.pin p (List.mem_append_right _ (List.mem_append_left _ hp))
theorem AR {iter:Expr} {body:List Stmt} {wi:TI} {g:TG} {tb:TS} {pos:Pos} (hp:PassesOwn (model X.prog X.w) X.A X.env X.xe) (hc:X.calm=true) (hi:PI X tg iter wi) (hg:PG X tg g) (hb:PSs X body tb)
   (hs:∀ x,foldedSetIterable iter X.env x=pure x:=by intro _;rfl):PS X (.For tg iter body [] pos) (gQ wi g tb):=by
 intro pins s σ H D I h
 refine wpAny_For (thn (hi pins s σ H _ I h) fun v s1 h1=>thn h1 fun itv s2 h2=>?_) hs
 obtain ⟨it,fp,tn,J,H2,e,I2,T,st2,f2,W,⟨m0,w0⟩,turn⟩:=h2
 subst e
 have stat:∀ {H':Hp},(∀ b∈fp,H' b=none)→∀ b∈fp,jr X pins H' b:=fun hn b hb=>⟨hn b hb,(f2 b hb).2⟩
 refine codeAny_forLoop_any (fun n s'=>∃ i σ' H',Inv X pins σ' H' s'∧tn i s'.heap∧(∀ b∈fp,H' b=none)∧W i n σ' H') ?_ m0 ⟨0,σ,H2,I2,st2,fun b hb=>(f2 b hb).1,w0⟩
 rintro n s3 ⟨i,σ3,H3,I3,st3,fr3,w3⟩
 rcases turn i n σ3 H3 w3 with ⟨stop,qn⟩ | ⟨go,N,hN,step⟩
 · refine wpAny_passesOwn hp (thn (T.done X rfl rfl rfl hc i pins s3 σ3 H3 X.xe I3 (stat fr3) st3 stop) fun r s4 ⟨hr,I4⟩=>?_)
   subst hr
   exact wpAny_execs_nil ⟨σ3,H3,I4,qn⟩
 · refine wpAny_passesOwn hp (thn (T.item X rfl rfl rfl hc i pins s3 σ3 H3 X.xe I3 (stat fr3) st3 go) fun r s4 ⟨u,hr,h4⟩=>?_)
   subst hr
   refine wpAny_passesOwn hp (thn h4 fun _ s5 ⟨x,H5,I5,r5,y5,st5,fr5⟩=>?_)
   have I5':=I5.pinned (stat fr5) (T.obj _ _ st5)
   refine wpAny_passesOwn hp (thn (hg _ s5 σ3 H5 x u _ I5' r5 (step x H5 y5)) fun _ s6 ⟨σ6,H6,I6,q6⟩=>?_)
   refine wpAny_passesOwn hp (thn (hb _ s6 σ6 H6 _ I6 q6) fun f s7 q7=>?_)
   have again:∀ {σ7:St} {H7:Hp},Inv X (pins++jk fp s5.heap) σ7 H7 s7→N σ7 H7→∃ m,m<n∧∃ i σ' H',Inv X pins σ' H' s7∧tn i s7.heap∧(∀ b∈fp,H' b=none)∧W i m σ' H':=fun {σ7 H7} I7 n7=>by
    obtain ⟨m',hm,w7⟩:=hN σ7 H7 n7
    refine ⟨m',hm,i+1,σ7,H7,I7.unpinned,T.keep _ _ _ st5 fun b hb o e=>(I7.pin (b,o) (List.mem_append_right _ (List.mem_append_right _ (fT hb e)))).1,fun b hb=>?_,w7⟩
    obtain ⟨o,e,d⟩:=T.obj _ _ st5 b hb
    exact (I7.pin (b,o) (List.mem_append_right _ (List.mem_append_right _ (fT hb e)))).2.1
   cases f with
   | next=>obtain ⟨σ7,H7,I7,n7⟩:=q7;exact again I7 n7
   | cont=>obtain ⟨σ7,H7,I7,n7⟩:=q7;exact again I7 n7
   | brk=>obtain ⟨σ7,H7,I7,q7⟩:=q7;exact ⟨σ7,H7,I7.unpinned,q7⟩
   | ret v=>obtain ⟨x7,σ7,H7,I7,r7,q7⟩:=q7;exact ⟨x7,σ7,H7,I7.unpinned,r7,q7⟩
end
theorem pv {K:W.Frag} {a:Addr} {xs:List V} {g:TG} {tb:TS} {D:eU} {σ:St} {H:Hp} (Pv:Nat→St→Hp→Prop) (h0:Pv 0 σ H) (hl:∀ i σ H,i≤xs.length→Pv i σ H→SqL K H a xs)
   (hs:∀ i x σ H,xs[i]?=some x→Pv i σ H→g x σ H fun σ2 H2=>tb { D with nx:=Pv (i+1),ct:=Pv (i+1),bk:=D.nx } σ2 H2) (hd:∀ σ H,Pv xs.length σ H→D.nx σ H):
   ∃ W:Nat→Nat→St→Hp→Prop,(∃ m,W 0 m σ H)∧∀ i m σ H,W i m σ H→
    ((Itl K a).stop i H∧D.nx σ H)∨((Itl K a).go i H∧∃ N:St→Hp→Prop,(∀ σ' H',N σ' H'→∃ m',m'<m∧W (i+1) m' σ' H')∧∀ x H',(Itl K a).yld i H x H'→g x σ H' fun σ2 H2=>tb { D with nx:=N,ct:=N,bk:=D.nx } σ2 H2):=by
 refine ⟨fun i m σ H=>m=xs.length - i∧i≤xs.length∧Pv i σ H,⟨xs.length,by simp,Nat.zero_le _,h0⟩,?_⟩
 rintro i m σ H ⟨rfl,hi,p⟩
 have q:=hl i σ H hi p
 by_cases hlt:i<xs.length
 · refine .inr ⟨⟨xs,xs[i],q,by simp [hlt]⟩,Pv (i+1),fun σ' H' p'=>⟨xs.length - (i+1),by omega,rfl,hlt,p'⟩,fun x H' y=>?_⟩
   obtain ⟨e,y⟩:=y
   subst e
   exact hs i x σ _ (y xs q) p
 · have e:i=xs.length:=by omega
   subst e
   exact .inl ⟨⟨xs,q,Nat.le_refl _⟩,hd σ H p⟩
theorem zH {K:W.Frag} {a:Addr} {xs:List V} {g:TG} {tb:TS} {D:eU} {σ:St} {H:Hp} (Pv:Nat→St→Hp→Prop) (h0:Pv 0 σ H) (hl:∀ i σ H,i≤xs.length→Pv i σ H→SqT K H a xs)
   (hs:∀ i x σ H,xs[i]?=some x→Pv i σ H→g x σ H fun σ2 H2=>tb { D with nx:=Pv (i+1),ct:=Pv (i+1),bk:=D.nx } σ2 H2) (hd:∀ σ H,Pv xs.length σ H→D.nx σ H):
   ∃ W:Nat→Nat→St→Hp→Prop,(∃ m,W 0 m σ H)∧∀ i m σ H,W i m σ H→
    ((Itt K a).stop i H∧D.nx σ H)∨((Itt K a).go i H∧∃ N:St→Hp→Prop,(∀ σ' H',N σ' H'→∃ m',m'<m∧W (i+1) m' σ' H')∧∀ x H',(Itt K a).yld i H x H'→g x σ H' fun σ2 H2=>tb { D with nx:=N,ct:=N,bk:=D.nx } σ2 H2):=by
 refine ⟨fun i m σ H=>m=xs.length - i∧i≤xs.length∧Pv i σ H,⟨xs.length,by simp,Nat.zero_le _,h0⟩,?_⟩
 rintro i m σ H ⟨rfl,hi,p⟩
 have q:=hl i σ H hi p
 by_cases hlt:i<xs.length
 · refine .inr ⟨⟨xs,xs[i],q,by simp [hlt]⟩,Pv (i+1),fun σ' H' p'=>⟨xs.length - (i+1),by omega,rfl,hlt,p'⟩,fun x H' y=>?_⟩
   obtain ⟨e,y⟩:=y
   subst e
   exact hs i x σ _ (y xs q) p
 · have e:i=xs.length:=by omega
   subst e
   exact .inl ⟨⟨xs,q,Nat.le_refl _⟩,hd σ H p⟩
theorem ju {lo:Int} {n:Nat} {g:TG} {tb:TS} {D:eU} {σ:St} {H:Hp} (Pv:Nat→St→Hp→Prop) (h0:Pv 0 σ H)
   (hs:∀ i σ H,i<n→Pv i σ H→g (.int (lo+i)) σ H fun σ2 H2=>tb { D with nx:=Pv (i+1),ct:=Pv (i+1),bk:=D.nx } σ2 H2) (hd:∀ σ H,Pv n σ H→D.nx σ H):
   ∃ W:Nat→Nat→St→Hp→Prop,(∃ m,W 0 m σ H)∧∀ i m σ H,W i m σ H→
    ((Itr lo n).stop i H∧D.nx σ H)∨((Itr lo n).go i H∧∃ N:St→Hp→Prop,(∀ σ' H',N σ' H'→∃ m',m'<m∧W (i+1) m' σ' H')∧∀ x H',(Itr lo n).yld i H x H'→g x σ H' fun σ2 H2=>tb { D with nx:=N,ct:=N,bk:=D.nx } σ2 H2):=by
 refine ⟨fun i m σ H=>m=n - i∧i≤n∧Pv i σ H,⟨n,by simp,Nat.zero_le _,h0⟩,?_⟩
 rintro i m σ H ⟨rfl,hi,p⟩
 by_cases hlt:i<n
 · refine .inr ⟨hlt,Pv (i+1),fun σ' H' p'=>⟨n - (i+1),by omega,rfl,hlt,p'⟩,fun x H' y=>?_⟩
   obtain ⟨e,y⟩:=y
   subst e y
   exact hs i σ _ hlt p
 · have e:i=n:=by omega
   subst e
   exact .inl ⟨Nat.le_refl _,hd σ H p⟩
end L2
namespace L2
open PySem PySem.Spec PyProof.Rows
abbrev R2:=V→V→Hp→VK→Prop
def OpR (X:Cx) (f:Value→Value→Sem Value) (r:R2):Prop:=
 ∀ (pins:List (Addr×Obj)) (s:Shared) (σ:St) (H:Hp) (x y:V) (v u:Value) (Q:VK),Inv X pins σ H s→aX x v→aX y u→r x y H Q→
  wpAny (model X.prog X.w) X.A (f v u) (EP X pins σ Q) X.xe s
def UnR (X:Cx) (f:Value→Sem Value) (r:V→Hp→VK→Prop):Prop:=
 ∀ (pins:List (Addr×Obj)) (s:Shared) (σ:St) (H:Hp) (x:V) (v:Value) (Q:VK),Inv X pins σ H s→aX x v→r x H Q→
  wpAny (model X.prog X.w) X.A (f v) (EP X pins σ Q) X.xe s
def bB (X:Cx) (f:Value) (r:List V→Hp→VK→Prop):Prop:=
 ∀ (pins:List (Addr×Obj)) (s:Shared) (σ:St) (H:Hp) (xs:List V) (us:List Value) (Q:VK),Inv X pins σ H s→aS xs us→r xs H Q→
  wpAny (model X.prog X.w) X.A (call f us) (EP X pins σ Q) X.xe s
def Ig (X:Cx) (r:V→Hp→(Bool→Hp→Prop)→Prop):Prop:=
 ∀ (pins:List (Addr×Obj)) (s:Shared) (σ:St) (H:Hp) (x:V) (v:Value) (Q:Bool→Hp→Prop),Inv X pins σ H s→aX x v→r x H Q→
  wpAny (model X.prog X.w) X.A (truthy v) (TP X pins σ Q) X.xe s
def tOp (r:R2) (ta tb:TE):TE:=fun σ H Q=>ta σ H fun x H1=>tb σ H1 fun y H2=>r x y H2 Q
def tUn (r:V→Hp→VK→Prop) (ta:TE):TE:=fun σ H Q=>ta σ H fun x H1=>r x H1 Q
def rI (C:Int→Int→Prop) (g:Int→Int→V):R2:=fun x y H Q=>∃ i j,x=.int i∧y=.int j∧C i j∧Q (g i j) H
def rI0 (g:Int→Int→V):R2:=fun x y H Q=>∃ i j,x=.int i∧y=.int j∧Q (g i j) H
def rU (g:Int→V):V→Hp→VK→Prop:=fun x H Q=>∃ i,x=.int i∧Q (g i) H
section
variable {X:Cx} {a b c:Expr} {ta tb tc:TE} {pos:Pos}
theorem vR (ha:PE X a ta) (hb:PE X b tb) {pins:List (Addr×Obj)} {s:Shared} {σ:St} {H:Hp} {R:V→V→Hp→Prop} (I:Inv X pins σ H s)
  (h:ta σ H fun x H1=>tb σ H1 fun y H2=>R x y H2) {Q:Value→Shared→Prop} {f:Value→Value→Sem Value}
  (hf:∀ v u s2 x y H2,Inv X pins σ H2 s2→aX x v→aX y u→R x y H2→wpAny (model X.prog X.w) X.A (f v u) Q X.xe s2):
  wpAny (model X.prog X.w) X.A (eval a X.env) (fun v s₁=>wpAny (model X.prog X.w) X.A (eval b X.env) (fun u s₂=>wpAny (model X.prog X.w) X.A (f v u) Q X.xe s₂) X.xe s₁) X.xe s:=by
 refine thn (ha pins s σ H _ I h) fun v s1 ⟨x,H1,I1,r1,q1⟩=>?_
 refine thn (hb pins s1 σ H1 _ I1 q1) fun u s2 ⟨y,H2,I2,r2,q2⟩=>?_
 exact hf v u s2 x y H2 I2 r1 r2 q2
theorem DW {op:Operator} {r:R2} (ho:OpR X (binaryOp op) r) (ha:PE X a ta) (hb:PE X b tb):PE X (.BinOp a op b pos) (tOp r ta tb):=by
 intro pins s σ H Q I h
 exact wpAny_BinOp (vR ha hb I h fun v u s2 x y H2 I2 rx ry q=>ho pins s2 σ H2 x y v u Q I2 rx ry q)
theorem DR {op:UnaryOp} {r:V→Hp→VK→Prop} (ho:UnR X (unaryOp op) r) (ha:PE X a ta):PE X (.UnaryOp op a pos) (tUn r ta):=by
 intro pins s σ H Q I h
 exact UnaryOp_ (thn (ha pins s σ H _ I h) fun v s1 ⟨x,H1,I1,r1,q1⟩=>ho pins s1 σ H1 x v Q I1 r1 q1)
theorem opI {f:Value→Value→Sem Value} {C:Int→Int→Prop} {g:Int→Int→Int}
  (rule:∀ (i j:Int) (t u:Tok) (s:Shared) (Q:Value→Shared→Prop) (E:Value→Shared→Prop),C i j→Q (.int (g i j) s.toks) { s with toks:=s.toks+1 }→wpAny (model X.prog X.w) X.A (f (.int i t) (.int j u)) Q E s):
  OpR X f (rI C fun i j=> .int (g i j)):=by
 intro pins s σ H x y v u Q I rx ry h
 obtain ⟨i,j,rfl,rfl,hc,q⟩:=h
 obtain ⟨t,rfl⟩:=rx
 obtain ⟨t',rfl⟩:=ry
 exact rule i j t t' s _ _ hc ⟨.int (g i j),H,I.tok _,⟨_,rfl⟩,q⟩
theorem BY {f:Value→Value→Sem Value} {g:Int→Int→Int}
  (rule:∀ (i j:Int) (t u:Tok) (s:Shared) (Q:Value→Shared→Prop) (E:Value→Shared→Prop),Q (.int (g i j) s.toks) { s with toks:=s.toks+1 }→wpAny (model X.prog X.w) X.A (f (.int i t) (.int j u)) Q E s):
  OpR X f (rI0 fun i j=> .int (g i j)):=by
 intro pins s σ H x y v u Q I rx ry h
 obtain ⟨i,j,rfl,rfl,q⟩:=h
 obtain ⟨t,rfl⟩:=rx
 obtain ⟨t',rfl⟩:=ry
 exact rule i j t t' s _ _ ⟨.int (g i j),H,I.tok _,⟨_,rfl⟩,q⟩
theorem wo {f:Value→Value→Sem Value} {g:Int→Int→Bool}
  (rule:∀ (i j:Int) (t u:Tok) (s:Shared) (Q:Value→Shared→Prop) (E:Value→Shared→Prop),Q (.bool (g i j)) s→wpAny (model X.prog X.w) X.A (f (.int i t) (.int j u)) Q E s):
  OpR X f (rI0 fun i j=> .bl (g i j)):=by
 intro pins s σ H x y v u Q I rx ry h
 obtain ⟨i,j,rfl,rfl,q⟩:=h
 obtain ⟨t,rfl⟩:=rx
 obtain ⟨t',rfl⟩:=ry
 exact rule i j t t' s _ _ ⟨.bl (g i j),H,I,rfl,q⟩
def AM (i j:Int):Prop:=0≤j∧j≤1000000∧i.natAbs<2^64
theorem Bq:OpR X (binaryOp .Add) (rI0 fun i j=> .int (i+j)):=BY fun _ _ _ _ _ _ _ q=>add_int q
theorem De:OpR X (binaryOp .Sub) (rI0 fun i j=> .int (i - j)):=BY fun _ _ _ _ _ _ _ q=>sub_int q
theorem BE:OpR X (binaryOp .Mod) (rI (fun _ j=>0<j) fun i j=> .int (i%j)):=opI fun i j _ _ _ _ _ hc q=>by
 have h1:(0:Int)<j:=hc
 exact mod_int' (by omega) (by rw [Int.fmod_eq_emod_of_nonneg i (by omega)];exact q)
theorem AD:OpR X (binaryOp .Pow) (rI AM fun i j=> .int (i^j.toNat)):=opI fun _ _ _ _ _ _ _ hc q=>pow_int_small hc.1 hc.2.1 hc.2.2 q
theorem Bc:OpR X (binaryOp .LShift) (rI AM fun i j=> .int (i*2^j.toNat)):=opI fun _ _ _ _ _ _ _ hc q=>lshift_int_small hc.1 hc.2.1 hc.2.2 q
theorem unI {f:Value→Sem Value} {g:Int→Int}
  (rule:∀ (i:Int) (t:Tok) (s:Shared) (Q:Value→Shared→Prop) (E:Value→Shared→Prop),Q (.int (g i) s.toks) { s with toks:=s.toks+1 }→wpAny (model X.prog X.w) X.A (f (.int i t)) Q E s):
  UnR X f (rU fun i=> .int (g i)):=by
 intro pins s σ H x v Q I rx h
 obtain ⟨i,rfl,q⟩:=h
 obtain ⟨t,rfl⟩:=rx
 exact rule i t s _ _ ⟨.int (g i),H,I.tok _,⟨_,rfl⟩,q⟩
theorem As:UnR X (unaryOp .USub) (rU fun i=> .int (-i)):=unI fun _ _ _ _ _ q=>neg_int q
end
def AY:V→V→Bool
 | .non,.non=>true | .non,.int _=>true | .int _,.non=>true | .non,.bl _=>true | .bl _,.non=>true | .non,.str _=>true | .str _,.non=>true
 | .int _,.int _=>true | .bl _,.bl _=>true | .str _,.str _=>true | .byt _,.byt _=>true
 | .int _,.str _=>true | .str _,.int _=>true | .bl _,.str _=>true | .str _,.bl _=>true
 | _,_=>false
def rEq:R2:=fun x y H Q=>AY x y=true∧Q (.bl (decide (x=y))) H
def rNe:R2:=fun x y H Q=>AY x y=true∧Q (.bl (!decide (x=y))) H
theorem qC {i j:Int}:decide (V.int i=V.int j)=(i==j):=by
 rw [Bool.eq_iff_iff]
 simp
theorem uq {i j:Bool}:decide (V.bl i=V.bl j)=(i==j):=by
 rw [Bool.eq_iff_iff]
 simp
theorem qx {i j:Str}:decide (V.str i=V.str j)=(i==j):=by
 rw [Bool.eq_iff_iff]
 simp
theorem qX {i j:Array UInt8}:decide (V.byt i=V.byt j)=(i.toList==j.toList):=by
 rw [Bool.eq_iff_iff]
 cases i
 cases j
 simp
section
variable {X:Cx} {a b c:Expr} {ta tb tc:TE} {pos:Pos}
theorem bp {pins:List (Addr×Obj)} {σ:St} {H:Hp} {s:Shared} {Q:VK} {k k':Bool} (I:Inv X pins σ H s) (q:Q (.bl k) H) (e:k=k'):EP X pins σ Q (.bool k') s:=by
 subst e
 exact ⟨.bl k,H,I,rfl,q⟩
theorem EY : OpR X (compareOp .Eq) rEq := by
  intro pins s σ H x y v u Q I rx ry h
  obtain ⟨hs, q⟩ := h
  cases x with
  | non =>
    cases rx
    cases y with
    | non => cases ry; exact PySem.EqNone.eq_none_none (bp I q (by simp))
    | bl j => cases ry; exact PySem.EqNone.eq_none_bool (bp I q (by simp))
    | int j => obtain ⟨t', rfl⟩ := ry; exact PySem.EqNone.eq_none_int (bp I q (by simp))
    | str j => obtain ⟨t', rfl⟩ := ry; exact PySem.EqNone.eq_none_str (bp I q (by simp))
    | _ => exact absurd (show false = true from hs) Bool.false_ne_true
  | bl i =>
    cases rx
    cases y with
    | non => cases ry; exact PySem.EqNone.eq_bool_none (bp I q (by simp))
    | bl j => cases ry; exact eq_bool (bp I q uq)
    | str j => obtain ⟨t', rfl⟩ := ry; exact PySem.EqMixed.eq_bool_str (bp I q (by simp))
    | _ => exact absurd (show false = true from hs) Bool.false_ne_true
  | int i =>
    obtain ⟨t, rfl⟩ := rx
    cases y with
    | non => cases ry; exact PySem.EqNone.eq_int_none (bp I q (by simp))
    | int j => obtain ⟨t', rfl⟩ := ry; exact eq_int (bp I q qC)
    | str j => obtain ⟨t', rfl⟩ := ry; exact PySem.EqMixed.eq_int_str (bp I q (by simp))
    | _ => exact absurd (show false = true from hs) Bool.false_ne_true
  | str i =>
    obtain ⟨t, rfl⟩ := rx
    cases y with
    | non => cases ry; exact PySem.EqNone.eq_str_none (bp I q (by simp))
    | bl j => cases ry; exact PySem.EqMixed.eq_str_bool (bp I q (by simp))
    | int j => obtain ⟨t', rfl⟩ := ry; exact PySem.EqMixed.eq_str_int (bp I q (by simp))
    | str j => obtain ⟨t', rfl⟩ := ry; exact eq_str (bp I q qx)
    | _ => exact absurd (show false = true from hs) Bool.false_ne_true
  | byt i =>
    obtain ⟨t, rfl⟩ := rx
    cases y with
    | byt j => obtain ⟨t', rfl⟩ := ry; exact W.eq_bytes (bp I q qX)
    | _ => exact absurd (show false = true from hs) Bool.false_ne_true
  | _ => cases y <;> exact absurd (show false = true from hs) Bool.false_ne_true
theorem Fs : OpR X (compareOp .NotEq) rNe := by
  intro pins s σ H x y v u Q I rx ry h
  obtain ⟨hs, q⟩ := h
  cases x with
  | non =>
    cases rx
    cases y with
    | non => cases ry; exact PySem.EqNone.ne_none_none (bp I q (by simp))
    | bl j => cases ry; exact PySem.EqNone.ne_none_bool (bp I q (by simp))
    | int j => obtain ⟨t', rfl⟩ := ry; exact PySem.EqNone.ne_none_int (bp I q (by simp))
    | str j => obtain ⟨t', rfl⟩ := ry; exact PySem.EqNone.ne_none_str (bp I q (by simp))
    | _ => exact absurd (show false = true from hs) Bool.false_ne_true
  | bl i =>
    cases rx
    cases y with
    | non => cases ry; exact PySem.EqNone.ne_bool_none (bp I q (by simp))
    | bl j => cases ry; exact ne_bool (bp I q (congrArg not uq))
    | str j => obtain ⟨t', rfl⟩ := ry; exact PySem.EqMixed.ne_bool_str (bp I q (by simp))
    | _ => exact absurd (show false = true from hs) Bool.false_ne_true
  | int i =>
    obtain ⟨t, rfl⟩ := rx
    cases y with
    | non => cases ry; exact PySem.EqNone.ne_int_none (bp I q (by simp))
    | int j => obtain ⟨t', rfl⟩ := ry; exact ne_int (bp I q (congrArg not qC))
    | str j => obtain ⟨t', rfl⟩ := ry; exact PySem.EqMixed.ne_int_str (bp I q (by simp))
    | _ => exact absurd (show false = true from hs) Bool.false_ne_true
  | str i =>
    obtain ⟨t, rfl⟩ := rx
    cases y with
    | non => cases ry; exact PySem.EqNone.ne_str_none (bp I q (by simp))
    | bl j => cases ry; exact PySem.EqMixed.ne_str_bool (bp I q (by simp))
    | int j => obtain ⟨t', rfl⟩ := ry; exact PySem.EqMixed.ne_str_int (bp I q (by simp))
    | str j => obtain ⟨t', rfl⟩ := ry; exact ne_str (bp I q (congrArg not qx))
    | _ => exact absurd (show false = true from hs) Bool.false_ne_true
  | byt i =>
    obtain ⟨t, rfl⟩ := rx
    cases y with
    | byt j => obtain ⟨t', rfl⟩ := ry; exact W.ne_bytes (bp I q (congrArg not qX))
    | _ => exact absurd (show false = true from hs) Bool.false_ne_true
  | _ => cases y <;> exact absurd (show false = true from hs) Bool.false_ne_true
theorem Eb:OpR X (compareOp .Lt) (rI0 fun i j=> .bl (decide (i<j))):=wo fun _ _ _ _ _ _ _ q=>lt_int q
theorem Ev:OpR X (compareOp .LtE) (rI0 fun i j=> .bl (decide (i≤j))):=wo fun _ _ _ _ _ _ _ q=>le_int q
theorem EA:OpR X (compareOp .Gt) (rI0 fun i j=> .bl (decide (j<i))):=wo fun _ _ _ _ _ _ _ q=>gt_int q
theorem Aj:OpR X (compareOp .Is) (fun x y H Q=>y=.non∧Q (.bl (decide (x=.non))) H):=by
 intro pins s σ H x y v u Q I rx ry h
 obtain ⟨rfl,q⟩:=h
 cases ry
 refine is_none_gen (bp I q ?_)
 cases x <;> first
  | (cases rx;rfl)
  | (obtain ⟨t,rfl⟩:=rx;rfl)
theorem OpR.or {f:Value→Value→Sem Value} {r r':R2} (h:OpR X f r) (h':OpR X f r'):OpR X f (fun x y H Q=>r x y H Q∨r' x y H Q):=by
 intro pins s σ H x y v u Q I rx ry q
 rcases q with q | q
 · exact h pins s σ H x y v u Q I rx ry q
 · exact h' pins s σ H x y v u Q I rx ry q
theorem la (b:Expr) {op:CmpOp} (h:op≠ .In:=by decide) (h2:op≠ .NotIn:=by decide):behindInMarks op b=false:=by
 have e1:(op==CmpOp.In)=false:=by cases op <;> first | rfl | exact absurd rfl h
 have e2:(op==CmpOp.NotIn)=false:=by cases op <;> first | rfl | exact absurd rfl h2
 cases b <;> simp [behindInMarks,e1,e2]
theorem yX {op:CmpOp} {r:R2} (ho:OpR X (compareOp op) r) (ha:PE X a ta) (hb:PE X b tb) (hm:behindInMarks op b=false):PE X (.Compare a [op] [b] pos) (tOp r ta tb):=by
 intro pins s σ H Q I h
 exact wpAny_Compare1 (vR ha hb I h fun v u s2 x y H2 I2 rx ry q=>ho pins s2 σ H2 x y v u Q I2 rx ry q) hm
def Br (K:W.Frag) (x:V) (H:Hp) (k:Bool):Prop:=
 match x with
 | .non=>k=false
 | .bl b=>k=b
 | .int i=>k=(i !=0)
 | .str y=>y.length≤sizeLine∧k=((y.length:Int) !=0)
 | .byt y=>y.size≤sizeLine∧k=((y.size:Int) !=0)
 | .ref p=>(∃ xs,SqL K H p xs∧k= !xs.isEmpty)∨(∃ xs,SqT K H p xs∧k= !xs.isEmpty)∨∃ kvs,H p=some (.dK kvs)∧k= !kvs.isEmpty
 | _=>False
theorem rR {κ:Type} {kvs:List (κ×V)} {vs:List (κ×Value)} (r:KV kvs vs):(!vs.isEmpty)= !kvs.isEmpty:=by
 cases r <;> rfl
theorem lB {xs:List V} {its:List Value} (r:aS xs its):(!its.toArray.isEmpty)= !xs.isEmpty:=by
 cases r <;> simp
theorem iu:(sizeLine:Nat)<2^63:=by rw [sizeLine_eq];decide
theorem Af : Ig X (fun x H Q => ∃ k, Br X.K x H k ∧ Q k H) := by
  intro pins s σ H x v Q I rx h
  obtain ⟨k, e, q⟩ := h
  have hl := iu
  have hs : sizeLine = 16777216 := sizeLine_eq
  cases x with
  | non =>
    cases rx
    have e' : k = false := e
    subst e'
    exact truthy_none ⟨H, I, q⟩
  | bl b =>
    cases rx
    have e' : k = b := e
    subst e'
    exact wpAny_truthy_bool ⟨H, I, q⟩
  | int i =>
    obtain ⟨t, rfl⟩ := rx
    have e' : k = (i != 0) := e
    subst e'
    exact PySem.P.truthy_int ⟨H, I, q⟩
  | str y =>
    obtain ⟨t, rfl⟩ := rx
    obtain ⟨hy, e'⟩ : y.length ≤ sizeLine ∧ k = ((y.length : Int) != 0) := e
    subst e'
    exact PySem.P.truthy_str (by omega) ⟨H, I.tok _, q⟩
  | byt y =>
    obtain ⟨t, rfl⟩ := rx
    obtain ⟨hy, e'⟩ : y.size ≤ sizeLine ∧ k = ((y.size : Int) != 0) := e
    subst e'
    exact W.truthy_bytes (by omega) ⟨H, I.tok _, q⟩
  | ref p =>
    cases rx
    have e' : (∃ xs, SqL X.K H p xs ∧ k = !xs.isEmpty) ∨ (∃ xs, SqT X.K H p xs ∧ k = !xs.isEmpty) ∨ ∃ kvs, H p = some (.dK kvs) ∧ k = !kvs.isEmpty := e
    rcases e' with ⟨xs, hx, e'⟩ | ⟨xs, hx, e'⟩ | ⟨kvs, hx, e'⟩
    · subst e'
      obtain ⟨its, r, pl, hz⟩ := I.list hx
      have hlen := r.length
      exact wpAny_truthy_list pl.isList (by simp only [List.size_toArray]; omega) ⟨H, I.tok _, by rw [lB r]; exact q⟩
    · subst e'
      obtain ⟨its, r, pl, hz⟩ := I.tuple hx
      have hlen := r.length
      exact truthy_tuple pl (by simp only [List.size_toArray]; omega) ⟨H, I.tok _, by rw [lB r]; exact q⟩
    · subst e'
      obtain ⟨hz, hS, vs, r, m⟩ : kvs.length ≤ sizeLine ∧ (p == sysModules) = false ∧ ∃ vs, KV kvs vs ∧ s.heap.DictOf (cj X.prog X.w) p vs := I.hok p _ hx
      have hlen : kvs.length = vs.length := Paired.length r
      exact wpAny_truthy_dict hS m (by omega) ⟨H, I.tok _, by rw [rR r]; exact q⟩
  | _ => exact (show False from e).elim
theorem sP:OpR X (binaryOp .Add) (fun x y H Q=>∃ i j,x=.str i∧y=.str j∧i.length+j.length≤sizeLine∧Q (.str (i++j)) H):=by
 intro pins s σ H x y v u Q I rx ry h
 obtain ⟨i,j,rfl,rfl,hz,q⟩:=h
 obtain ⟨t,rfl⟩:=rx
 obtain ⟨t',rfl⟩:=ry
 exact add_str (fun t' tk=>⟨.str (i++j),H,I.tok _,⟨_,rfl⟩,q⟩) hz
theorem fD {x:V} {us:List Value} (r:aS [x] us):∃ u,us=[u]∧aX x u:=by
 cases r with
 | cons r1 r2=>cases r2;exact ⟨_,rfl,r1⟩
theorem lN {x y : V} {us : List Value} (r : aS [x, y] us) : ∃ u w', us = [u, w'] ∧ aX x u ∧ aX y w' := by
  cases r with
  | cons r1 r2 =>
    cases r2 with
    | cons r3 r4 => cases r4; exact ⟨_, _, rfl, r1, r3⟩
theorem uk (hc:X.calm=true):bB X (.builtin "max") (fun xs H Q=>∃ i j,xs=[.int i,.int j]∧Q (.int (if j>i then j else i)) H):=by
 intro pins s σ H xs us Q I r h
 obtain ⟨i,j,rfl,q⟩:=h
 obtain ⟨u,w',rfl,⟨t,rfl⟩,⟨t',rfl⟩⟩:=lN r
 refine max_two_ints (I.ok.hd hc) fun h' tk k=>⟨_,H,I.kept k,?_,q⟩
 by_cases hj:j>i
 · rw [if_pos hj,if_pos hj];exact ⟨_,rfl⟩
 · rw [if_neg hj,if_neg hj];exact ⟨_,rfl⟩
theorem ux (hc:X.calm=true):bB X (.builtin "min") (fun xs H Q=>∃ i j,xs=[.int i,.int j]∧Q (.int (if j<i then j else i)) H):=by
 intro pins s σ H xs us Q I r h
 obtain ⟨i,j,rfl,q⟩:=h
 obtain ⟨u,w',rfl,⟨t,rfl⟩,⟨t',rfl⟩⟩:=lN r
 refine min_two_ints (I.ok.hd hc) fun h' tk k=>⟨_,H,I.kept k,?_,q⟩
 by_cases hj:j<i
 · rw [if_pos hj,if_pos hj];exact ⟨_,rfl⟩
 · rw [if_neg hj,if_neg hj];exact ⟨_,rfl⟩
theorem pE:bB X (.type "str") (fun xs H Q=>∃ i,xs=[.int i]∧i.natAbs.log2<1920∧Q (.str (toString i)) H):=by
 intro pins s σ H xs us Q I r h
 obtain ⟨i,rfl,hz,q⟩:=h
 obtain ⟨u,rfl,t,rfl⟩:=fD r
 exact PySem.P.str_of_int hz ⟨.str _,H,I.tok _,⟨_,rfl⟩,q⟩
def HN (K:W.Frag) (x:V) (H:Hp) (n:Nat):Prop:=
 match x with
 | .str y=>y.length≤sizeLine∧n=y.length
 | .byt y=>y.size≤sizeLine∧n=y.size
 | .ref p=>(∃ xs,SqL K H p xs∧n=xs.length)∨∃ xs,SqT K H p xs∧n=xs.length
 | _=>False
theorem kO : bB X (.builtin "len") (fun xs H Q => ∃ x n, xs = [x] ∧ HN X.K x H n ∧ Q (.int n) H) := by
  intro pins s σ H xs us Q I r h
  obtain ⟨x, n, rfl, e, q⟩ := h
  obtain ⟨u, rfl, rx⟩ := fD r
  have hl := iu
  have hs : sizeLine = 16777216 := sizeLine_eq
  cases x with
  | str y =>
    obtain ⟨t, rfl⟩ := rx
    obtain ⟨hy, e'⟩ : y.length ≤ sizeLine ∧ n = y.length := e
    subst e'
    exact len_str (by omega) ⟨.int _, H, I.tok _, ⟨_, rfl⟩, q⟩
  | byt y =>
    obtain ⟨t, rfl⟩ := rx
    obtain ⟨hy, e'⟩ : y.size ≤ sizeLine ∧ n = y.size := e
    subst e'
    exact W.len_bytes (by omega) ⟨.int _, H, I.tok _, ⟨_, rfl⟩, q⟩
  | ref p =>
    cases rx
    have e' : (∃ xs, SqL X.K H p xs ∧ n = xs.length) ∨ ∃ xs, SqT X.K H p xs ∧ n = xs.length := e
    rcases e' with ⟨xs, hx, e'⟩ | ⟨xs, hx, e'⟩
    · subst e'
      obtain ⟨its, r', pl, hz⟩ := I.list hx
      have hlen := r'.length
      exact Calls.call_len_list pl.isList (by simp only [List.size_toArray]; omega) ⟨.int xs.length, H, I.tok _, ⟨_, by simp only [List.size_toArray]; rw [hlen]⟩, q⟩
    · subst e'
      obtain ⟨its, r', pl, hz⟩ := I.tuple hx
      have hlen := r'.length
      exact len_tuple pl (by simp only [List.size_toArray]; omega) ⟨.int xs.length, H, I.tok _, ⟨_, by simp only [List.size_toArray]; rw [hlen]⟩, q⟩
  | _ => exact (show False from e).elim
end
end L2
namespace L2
open PySem PySem.Spec PyProof.Rows
structure kN (h:Heap) (x dx C:Addr) (mA:Str→Option Value):Prop where
 obj:h.get? x=some (W.instObj C dx)
 ns:h.Ns1 dx mA
 ne:dx≠x
theorem uR {h:Heap} {dx:Addr} {mA:Str→Option Value} (n:h.Ns1 dx mA):∃ od,h.get? dx=some od∧∀ name,W.lookIn name od=some (mA name):=by
 obtain ⟨o,es,ep,ho,hd,hk,_,hm⟩:=n
 refine ⟨o,ho,fun name=>?_⟩
 have e:=hm name
 unfold nsFind findBy at e
 rw [← Array.find?_toList] at e
 unfold W.lookIn
 rw [hd]
 dsimp only
 split
 · rename_i y q
   rw [q] at e
   exact congrArg some e
 · rename_i q
   rw [q] at e
   have a:es.toList.any (·.refKey)=false:=by
    rw [List.any_eq_false]
    intro y hy
    obtain ⟨z,t,hkey⟩:=hk y (Array.mem_toList_iff.mp hy)
    simp [DictEntry.refKey,hkey]
   have a':¬ es.toList.any (·.refKey)=true:=by rw [a];exact Bool.false_ne_true
   rw [if_neg a']
   exact congrArg some e
theorem kN.look {h:Heap} {x dx C:Addr} {mA:Str→Option Value} (I:kN h x dx C mA):∃ od,W.InstAt h x (W.instObj C dx) C (some od)∧∀ name,W.lookIn name od=some (mA name):=
 let ⟨od,ho,hl⟩:=uR I.ns
 ⟨od,⟨I.obj,rfl,rfl,ho⟩,hl⟩
section
variable {prog:Program} {w:World} {A:Around} {E:Value→Shared→Prop} {s:Shared} {K:W.Frag} {x dx C f:Addr} {mA:Str→Option Value} {name:Str} {v:Value}
theorem yW {expr:Bool} {Q:Value→Shared→Prop} (X:K.In s.heap) (I:kN s.heap x dx C mA) (hg:W.plainGet K C name=true) (hh:W.hasDictIn K C=true)
  (ha:W.findIn K (.ref C) name=some none) (hv:mA name=some v) (hv':W.handedIn v=true) (h:Q v { s with toks:=s.toks+1 }):
  wpAny (model prog w) A (getAttr (.ref x) name expr) Q E s:=by
 obtain ⟨od,J,hl⟩:=I.look
 exact W.get_value X J (W.plainGet_of hg).1 (W.findObj_own hh ha rfl (by rw [hl,hv])) hv' h
theorem wa {pl:Sem Bool} {Q:Value×List Value→Shared→Prop} (X:K.In s.heap) (I:kN s.heap x dx C mA) (hg:W.plainGet K C name=true)
  (hf:W.findIn K (.ref C) name=some (some (.ref f))) (ht:W.isFn K (.ref f)=true) (hv:mA name=none) (h:Q (.ref f,[.ref x]) s):
  wpAny (model prog w) A (getMethod (.ref x) name pl) Q E s:=by
 obtain ⟨od,J,hl⟩:=I.look
 exact W.method_fn X J (W.plainGet_of hg).1 (W.plainGet_of hg).2 hf (beq_iff_eq.mp ht) (by show (W.lookIn name od).map (·.isSome)=some false;rw [hl,hv];rfl) h
theorem zm {ns:List Str} {Q:Unit→Shared→Prop} (X:K.In s.heap) (I:kN s.heap x dx C mA)
  (hs:W.findIn K (.ref C) "__setattr__" =some (some (.builtin "object.__setattr__"))) (hp:W.plainOver K C=true) (ht:W.takerIn K C name=some none) (hh:W.hasDictIn K C=true)
  (hw:PySem.Within mA ns) (hsz:ns.length≤sizeLine)
  (h:∀ h',kN h' x dx C (fun y=>if y=name then some v else mA y)→Heap.SameBut dx s.heap h'→Q () { s with heap:=h',toks:=s.toks+2 }):
  wpAny (model prog w) A (setAttr (.ref x) name v) Q E s:=by
 obtain ⟨od,J,hl⟩:=I.look
 refine W.set_plain X J hs (W.osa_open (s:={ s with toks:=s.toks+1 }) (r:=none) X J hp ht fun b=>?_)
 obtain ⟨cd,hc,hd'⟩:=W.any_some hh
 have hx:s.heap.get? x=some ⟨.ref C,some dx,.plain,#[]⟩:=I.obj
 refine wpAny_bind (wpAny_pure (wpAny_bind (wpAny_bind (wpAny_loadPart hx (wpAny_bind (W.Looks.here (s:={ s with toks:=s.toks+1 }) (W.looks_clsIn X hc) ?_))))))
 rw [hd']
 refine wpAny_pure (a:=some dx) (wpAny_bind (wpAny_pure (wpAny_bind ?_)))
 refine wpAny_nsSet1 (s:={ s with toks:=s.toks+1 }) I.ns fun h' hn2 hs2=>?_
 obtain ⟨oD,esD,epD,hoD,hdD,hcD⟩:=hn2.count (PySem.Within.cons name v hw)
 refine wpAny_bind (wpAny_lookBehind hoD (by rw [hdD];exact pastItsLine_dict (Nat.le_trans hcD (by rw [List.length_cons];omega))) ?_)
 exact wpAny_pure (h _ ⟨(hs2.2 _ (Ne.symm I.ne)).trans I.obj,hn2,I.ne⟩ hs2)
theorem uT {R : Result → Shared → Prop} {vs : List Value} {kw : List (Str × Value)} (X : K.In s.heap) (hm : W.makesIn K C = true)
  (hi : W.findIn K (.ref C) "__init__" = some (some (.ref f))) (hf : W.typeIn K (.ref f) = some (.type "function"))
  (h : codeAny (model prog w) (A.under (.builtin "type.__call__" ⟨.ref C :: vs, kw⟩)) (.call (.ref f) ⟨.ref (s.heap.objs.size + 1) :: vs, kw⟩) (W.InitBack (s.heap.objs.size + 1) R)
   { s with heap := (s.heap.push W.emptyDict).push (W.instObj C s.heap.objs.size) }) :
  codeAny (model prog w) A (.call (.ref C) ⟨vs, kw⟩) R s := by
 obtain ⟨hh, g, d, t, os⟩ := s
 exact W.make_core (W.makes_of X hm) (W.looks_findIn X hi) (fun self => W.bind_fn X self hf) (.inl rfl) h
end
def dH (f:Str) (v:V):List (Str×V)→List (Str×V)
 | []=>[(f,v)]
 | (g,x)::r=>if g=f then (g,v)::r else (g,x)::dH f v r
theorem gN (f g : Str) (v : V) : ∀ fs : List (Str × V), (dH f v fs).lookup g = if g = f then some v else fs.lookup g
  | [] => by
    show List.lookup g [(f, v)] = _
    by_cases h : g = f
    · have hb : (g == f) = true := beq_iff_eq.mpr h
      simp only [List.lookup, hb, if_pos h]
    · have hb : (g == f) = false := beq_eq_false_iff_ne.mpr h
      simp only [List.lookup, hb, if_neg h]
  | (k, x) :: r => by
    have ih := gN f g v r
    rw [show dH f v ((k, x) :: r) = (if k = f then (k, v) :: r else (k, x) :: dH f v r) from rfl]
    by_cases hk : k = f
    · rw [if_pos hk]
      by_cases h : g = k
      · have hb : (g == k) = true := beq_iff_eq.mpr h
        simp only [List.lookup, hb, if_pos (h.trans hk)]
      · have hb : (g == k) = false := beq_eq_false_iff_ne.mpr h
        simp only [List.lookup, hb, if_neg (fun e : g = f => h (e.trans hk.symm))]
    · rw [if_neg hk]
      by_cases h : g = k
      · have hb : (g == k) = true := beq_iff_eq.mpr h
        simp only [List.lookup, hb, if_neg (fun e : g = f => hk (h.symm.trans e))]
      · have hb : (g == k) = false := beq_eq_false_iff_ne.mpr h
        simp only [List.lookup, hb]
        exact ih
theorem jm (f : Str) (v : V) : ∀ fs : List (Str × V), f ∈ (dH f v fs).map (·.1) ∧ ∀ g, g ∈ fs.map (·.1) → g ∈ (dH f v fs).map (·.1)
  | [] => ⟨by simp [dH], fun g h => by simp at h⟩
  | (k, x) :: r => by
    obtain ⟨i1, i2⟩ := jm f v r
    rw [show dH f v ((k, x) :: r) = (if k = f then (k, v) :: r else (k, x) :: dH f v r) from rfl]
    by_cases hk : k = f
    · rw [if_pos hk]
      subst hk
      exact ⟨by simp, fun g h => by simpa using h⟩
    · rw [if_neg hk]
      refine ⟨?_, fun g h => ?_⟩
      · rw [List.map_cons]
        exact List.mem_cons_of_mem _ i1
      · rw [List.map_cons] at h ⊢
        rcases List.mem_cons.mp h with e | e
        · exact List.mem_cons.mpr (.inl e)
        · exact List.mem_cons_of_mem _ (i2 g e)
theorem kr (f : Str) (v : V) : ∀ fs : List (Str × V), (dH f v fs).length ≤ fs.length + 1
  | [] => by simp [dH]
  | (k, x) :: r => by
    have ih := kr f v r
    rw [show dH f v ((k, x) :: r) = (if k = f then (k, v) :: r else (k, x) :: dH f v r) from rfl]
    by_cases hk : k = f
    · rw [if_pos hk, List.length_cons, List.length_cons]; omega
    · rw [if_neg hk, List.length_cons, List.length_cons]; omega
theorem cB.some_of {v:V} {o:Option Value} (r:cB (some v) o):∃ u,o=some u∧aX v u:=by
 cases o with
 | none=>exact (show False from r).elim
 | some u=>exact ⟨u,rfl,r⟩
theorem cB.none_of {o:Option Value} (r:cB none o):o=none:=by
 cases o with
 | none=>rfl
 | some u=>exact (show False from r).elim
theorem ul {v:V} {u:Value} (r:aX v u):W.handedIn u=true:=by
 cases v with
 | non=>cases (show u=Value.none from r);rfl
 | bl b=>cases (show u=Value.bool b from r);rfl
 | int i=>obtain ⟨t,e⟩:=(show ∃ t,u=Value.int i t from r);cases e;rfl
 | str x=>obtain ⟨t,e⟩:=(show ∃ t,u=Value.str x t from r);cases e;rfl
 | byt b=>obtain ⟨t,e⟩:=(show ∃ t,u=Value.bytes b t from r);cases e;rfl
 | flt b=>obtain ⟨t,e⟩:=(show ∃ t,u=Value.float b t from r);cases e;rfl
 | ref a=>cases (show u=Value.ref a from r);rfl
 | ty n=>cases (show u=Value.type n from r);rfl
section
variable {P:Program} {w:World} {H H':Hp} {h h':Heap} {a C dx:Addr} {fs fs':List (Str×V)}
theorem ie (hok:HOk P w H h) (e:H a=some (.ins C dx fs)):∃ mA,kN h a dx C mA∧(∀ f,cB (fs.lookup f) (mA f))∧PySem.Within mA (fs.map (·.1))∧fs.length≤1000∧H dx=some (.own a):=by
 obtain ⟨d,z,ne,ob,mA,n,r,q⟩:=(show ba P w H h a (.ins C dx fs) from hok a _ e)
 exact ⟨mA,⟨ob,n,ne⟩,r,q,z,d⟩
end
structure Cls (K:W.Frag) (C:Addr):Prop where
 pg:W.plainGet K C Str.empty=true
 hd:W.hasDictIn K C=true
 po:W.plainOver K C=true
 sa:W.findIn K (.ref C) "__setattr__" =some (some (.builtin "object.__setattr__"))
theorem Cls.get {K:W.Frag} {C:Addr} (c:Cls K C) (f:Str):W.plainGet K C f=true:=c.pg
def dB (K:W.Frag) (C:Addr) (f:Str):Prop:=W.findIn K (.ref C) f=some none
theorem dB.taker {K:W.Frag} {C:Addr} {f:Str} (n:dB K C f):W.takerIn K C f=some none:=by
 unfold W.takerIn
 rw [show W.findIn K (.ref C) f=some none from n]
 rfl
structure fN (K:W.Frag) (C:Addr) (m:Str) (f:Addr):Prop where
 at_:W.findIn K (.ref C) m=some (some (.ref f))
 fn:W.isFn K (.ref f)=true
 kp:W.keepIn K (.ref f)=true
section
variable {X:Cx} {pins:List (Addr×Obj)} {σ:St} {H:Hp} {s:Shared} {a C dx:Addr} {fs:List (Str×V)} {f:Str} {v:V} {A:Around} {E:Value→Shared→Prop}
theorem li {b:Bool} {Q:Value→Shared→Prop} (I:Inv X pins σ H s) (e:H a=some (.ins C dx fs)) (c:Cls X.K C) (n:dB X.K C f) (l:fs.lookup f=some v)
  (h:∀ u s',Inv X pins σ H s'→aX v u→Q u s'):wpAny (model X.prog X.w) A (getAttr (.ref a) f b) Q E s:=by
 obtain ⟨mA,O,r,_,_,_⟩:=ie I.hok e
 obtain ⟨u,hu,ru⟩:=cB.some_of (v:=v) (o:=mA f) (by rw [← l];exact r f)
 exact yW I.kIn O (c.get f) c.hd n hu (ul ru) (h u _ (I.tok _) ru)
theorem lm {m:Str} {g:Addr} {pl:Sem Bool} {Q:Value×List Value→Shared→Prop} (I:Inv X pins σ H s) (e:H a=some (.ins C dx fs)) (c:Cls X.K C) (k:fN X.K C m g) (l:fs.lookup m=none)
  (h:Q (.ref g,[.ref a]) s):wpAny (model X.prog X.w) A (getMethod (.ref a) m pl) Q E s:=by
 obtain ⟨mA,O,r,_,_,_⟩:=ie I.hok e
 have hn:mA m=none:=cB.none_of (by rw [← l];exact r m)
 exact wa I.kIn O (c.get m) k.at_ k.fn hn h
theorem sr {y:V} {u:Value} {Q:Unit→Shared→Prop} (I:Inv X pins σ H s) (e:H a=some (.ins C dx fs)) (c:Cls X.K C) (n:dB X.K C f) (hl:fs.length<1000) (ry:aX y u)
   (h:∀ s',Inv X pins σ (upd H a (.ins C dx (dH f y fs))) s'→Q () s'):wpAny (model X.prog X.w) A (setAttr (.ref a) f u) Q E s:=by
 obtain ⟨mA,O,r,wi,_,ho⟩:=ie I.hok e
 have hz:(fs.map (·.1)).length≤sizeLine:=by rw [List.length_map,sizeLine_eq];omega
 refine zm I.kIn O c.sa c.po n.taker c.hd wi hz fun h' O' sb=>h _ ?_
 have hd:∃ o,h'.get? dx=some o:=let ⟨o,_,_,e',_⟩:=O'.ns;⟨o,e'⟩
 refine I.write (x:=a) (e:=dx) (by rw [e];exact True.intro) (.inr ho) (fun b q hb z=>(sb.2 b hb).trans z) hd ?_
 refine ⟨by rw [aq O.ne];exact ho,?_,O.ne,O'.obj,_,O'.ns,fun g=>?_,fun g hg=>?_⟩
 · have:=kr f y fs;omega
 · show cB ((dH f y fs).lookup g) (if g=f then some u else mA g)
   rw [gN]
   by_cases q:g=f
   · rw [if_pos q,if_pos q];exact ry
   · rw [if_neg q,if_neg q];exact r g
 · by_cases q:g=f
   · rw [q];exact (jm f y fs).1
   · refine (jm f y fs).2 g (wi g fun z=>hg ?_)
     show (if g=f then some u else mA g)=none
     rw [if_neg q];exact z
theorem Inv.made (I:Inv X pins σ H s):Inv X pins σ (upd (upd H s.heap.objs.size (.own (s.heap.objs.size+1))) (s.heap.objs.size+1) (.ins C s.heap.objs.size []))
  { s with heap:=(s.heap.push W.emptyDict).push (W.instObj C s.heap.objs.size) }:=by
 have e1:(s.heap.push W.emptyDict).get? s.heap.objs.size=some W.emptyDict:=Heap.get?_push_size s.heap rfl
 have e2:((s.heap.push W.emptyDict).push (W.instObj C s.heap.objs.size)).get? (s.heap.objs.size+1)=some (W.instObj C s.heap.objs.size):=by
  have:=Heap.get?_push_size (s.heap.push W.emptyDict) (o:=W.instObj C s.heap.objs.size) rfl
  rwa [Heap.size_push] at this
 have e3:(s.heap.push W.emptyDict).Ns s.heap.objs.size (fun _=>none):=⟨W.emptyDict,#[],_,e1,rfl,(fun e he=>absurd he (by simp)),fun _=>rfl⟩
 have I1:=I.laid (a:=s.heap.objs.size) (o:=.own (s.heap.objs.size+1)) (h':=s.heap.push W.emptyDict) (t':=s.toks) (fun b u q=>Heap.get?_push_of_some _ q) (Nat.le_refl _) ⟨_,e1⟩
 refine I1.laid (a:=s.heap.objs.size+1) (o:=.ins C s.heap.objs.size []) (t':=s.toks) (fun b u q=>Heap.get?_push_of_some _ q) (Nat.le_of_eq (Heap.size_push _ _)) ?_
 have ne:s.heap.objs.size≠s.heap.objs.size+1:=Nat.ne_of_lt (Nat.lt_succ_self _)
 refine ⟨by rw [aq ne,ai],Nat.zero_le _,ne,e2,fun _=>none,(Heap.Ns1.of_empty e3).at fun o q=>Heap.get?_push_of_some _ q,fun _=>True.intro,fun y hy=>absurd rfl hy⟩
theorem zI {prog:Program} {w:World} {env:Env} {e:Expr} {f:Str} {pos:Pos} {s:Shared} {Q:Value→Shared→Prop} (hb:attributeBase e f env (eval e env)=eval e env)
  (h:wpAny (model prog w) A (eval e env) (fun o s₁=>wpAny (model prog w) A (getAttr o f true) Q E s₁) E s):wpAny (model prog w) A (eval (.Attribute e f pos) env) Q E s:=
 Attribute_any_ h (by rw [arm_eval_Attribute,hb])
end
def fz (K:W.Frag) (ta:TE) (f:Str):TE:=fun σ H Q=>ta σ H fun x H1=>∃ a C dx fs v,x=.ref a∧H1 a=some (.ins C dx fs)∧Cls K C∧dB K C f∧fs.lookup f=some v∧Q v H1
def mL (K:W.Frag) (ta tv:TE) (f:Str):TS:=fun D σ H=>tv σ H fun y H1=>ta σ H1 fun x H2=>∃ a C dx fs,x=.ref a∧H2 a=some (.ins C dx fs)∧Cls K C∧dB K C f∧fs.length<1000∧
 D.nx σ (upd H2 a (.ins C dx (dH f y fs)))
section
variable {X:Cx} {o e value:Expr} {f:Str} {pos pos' tpos:Pos} {ta tv:TE}
theorem BR (he:PE X e ta) (hb:attributeBase e f X.env (eval e X.env)=eval e X.env):PE X (.Attribute e f pos) (fz X.K ta f):=by
 intro pins s σ H Q I h
 refine zI hb (thn (he pins s σ H _ I h) fun u s1 ⟨x,H1,I1,rx,a,C,dx,fs,v,ex,ea,c,n,l,q⟩=>?_)
 subst ex
 obtain rfl:u=Value.ref a:=rx
 exact li I1 ea c n l fun u' s2 I2 ru=>⟨v,H1,I2,ru,q⟩
theorem Cg (ha:PE X o ta) (hv:PE X value tv) (hs:swapsWith value (some (.Attribute o f pos')) pos.line X.env=pure false):PS X (.Assign [.Attribute o f pos'] value pos) (mL X.K ta tv f):=by
 intro pins s σ H D I h
 refine plainObj_wpAny_Assign_Attribute (thn (hv pins s σ H _ I h) fun u s1 ⟨y,H1,I1,ry,q⟩=>thn (ha pins s1 σ H1 _ I1 q) fun ov s2 ⟨x,H2,I2,rx,a,C,dx,fs,ex,ea,c,n,l,q2⟩=>?_) hs
 subst ex
 obtain rfl:ov=Value.ref a:=rx
 exact sr I2 ea c n l ry fun s3 I3=>⟨σ,_,I3,q2⟩
end
section
variable {X:Cx} {pins:List (Addr×Obj)} {σ:St} {H:Hp} {s:Shared} {A:Around} {E:Value→Shared→Prop} {Q:Value→Shared→Prop} {c:Value} {b:Bool}
inductive ft (K:W.Frag) (H:Hp):V→Value→Prop where
 | non:ft K H .non (.type "NoneType")
 | bl (x:Bool):ft K H (.bl x) (.type "bool")
 | int (i:Int):ft K H (.int i) (.type "int")
 | str (x:Str):ft K H (.str x) (.type "str")
 | flt (x:UInt64):ft K H (.flt x) (.type "float")
 | lst {a:Addr} {xs:List V} (e:H a=some (.lst xs)):ft K H (.ref a) (.type "list")
 | frz {a:Addr} {o:Obj} {xs:List V} (e:H a=some (.frz o (.lst xs))):ft K H (.ref a) (.type "list")
 | tup {a:Addr} {xs:List V} (e:H a=some (.tup xs)):ft K H (.ref a) (.type "tuple")
 | dK {a:Addr} {kvs:List (Key×V)} (e:H a=some (.dK kvs)):ft K H (.ref a) (.type "dict")
 | dT {a:Addr} {kvs:List (List Key×V)} (e:H a=some (.dT kvs)):ft K H (.ref a) (.type "dict")
 | ins {a C dx:Addr} {fs:List (Str×V)} (e:H a=some (.ins C dx fs)) (cl:Cls K C) (ha:W.findIn K (.ref C) "__class__" =some (some (.builtin "object.__class__")))
  (hn:W.specialIn K (.builtin "object.__class__") "__get__" =some (some (.builtin "getset_descriptor.__get__"))) (htk:W.takesIn K (.builtin "object.__class__")=some true)
  (hm:W.mroIn K C (.type "object")=some true):ft K H (.ref a) (.ref C)
theorem uj {x : V} {u t : Value} (I : Inv X pins σ H s) (rx : aX x u) (ty : ft X.K H x t) (e : W.kitOne X.K t c = some b) (h : ∀ tk, Q (.bool b) { s with toks := tk }) :
    wpAny (model X.prog X.w) A (call (.builtin "isinstance") [u, c]) Q E s := by
  cases ty with
  | non => cases (show u = Value.none from rx); exact W.kia_one W.kitx_none I.kIn True.intro e (fun z => nomatch z) h
  | bl y => cases (show u = Value.bool y from rx); exact W.kia_one W.kitx_bool I.kIn True.intro e (fun z => nomatch z) h
  | int i => obtain ⟨t, q⟩ := (show ∃ t, u = Value.int i t from rx); cases q; exact W.kia_one W.kitx_int I.kIn True.intro e (fun z => nomatch z) h
  | str y => obtain ⟨t, q⟩ := (show ∃ t, u = Value.str y t from rx); cases q; exact W.kia_one W.kitx_str I.kIn True.intro e (fun z => nomatch z) h
  | flt y => obtain ⟨t, q⟩ := (show ∃ t, u = Value.float y t from rx); cases q; exact W.kia_one W.kitx_float I.kIn True.intro e (fun z => nomatch z) h
  | @lst a xs ea =>
    cases (show u = Value.ref a from rx)
    obtain ⟨_, _, n, _, h1⟩ := (show ba X.prog X.w H s.heap a (.lst xs) from I.hok a _ ea)
    exact W.kia_one W.kitx_list I.kIn ⟨_, h1, rfl⟩ e (fun z => nomatch z) h
  | @frz a ob xs ea =>
    cases (show u = Value.ref a from rx)
    obtain ⟨_, _, _, n, _, h1⟩ := (show ba X.prog X.w H s.heap a (.frz ob (.lst xs)) from I.hok a _ ea)
    exact W.kia_one W.kitx_list I.kIn ⟨_, h1, rfl⟩ e (fun z => nomatch z) h
  | @tup a xs ea =>
    cases (show u = Value.ref a from rx)
    obtain ⟨_, _, _, p⟩ := (show ba X.prog X.w H s.heap a (.tup xs) from I.hok a _ ea)
    obtain ⟨o, h1, h2, _⟩ := p
    exact W.kia_one W.kitx_tuple I.kIn ⟨o, h1, h2⟩ e (fun z => nomatch z) h
  | @dK a kvs ea =>
    cases (show u = Value.ref a from rx)
    obtain ⟨_, _, vs, _, p⟩ := (show ba X.prog X.w H s.heap a (.dK kvs) from I.hok a _ ea)
    obtain ⟨o, es, ep, h1, h2, _⟩ := p
    exact W.kia_one W.kitx_dict I.kIn ⟨o, h1, h2.1⟩ e (fun z => nomatch z) h
  | @dT a kvs ea =>
    cases (show u = Value.ref a from rx)
    obtain ⟨_, _, xs, _, o, es, ep, h1, h2, _⟩ := (show ba X.prog X.w H s.heap a (.dT kvs) from I.hok a _ ea)
    exact W.kia_one W.kitx_dict I.kIn ⟨o, h1, h2.1⟩ e (fun z => nomatch z) h
  | @ins a C dx fs ea cl ha hn htk hm =>
    cases (show u = Value.ref a from rx)
    obtain ⟨mA, O, _⟩ := ie I.hok ea
    obtain ⟨od, J, _⟩ := O.look
    exact W.kia_one (W.kitx_own (cl.get _) cl.hd ha hn htk hm) I.kIn J e (fun z => nomatch z) h
end
end L2
namespace L2
open PySem PySem.Spec PyProof.Rows
structure bh (k:Nat) (A:Around):Prop where
 hd:A.handled=none
 dp:A.depth+3*k+5<recursionLimit
 un:A.units+16*k+200<cLine
theorem bh.mono {j k:Nat} {A:Around} (r:bh k A) (h:j≤k):bh j A:=⟨r.hd,by have:=r.dp;omega,by have:=r.un;omega⟩
theorem bh.deeper {k:Nat} {A:Around} (r:bh (k+1) A) (env:Env):bh k (A.deeper env):=
 ⟨r.hd,by have:=r.dp;show A.depth+1+3*k+5<_;omega,by have:=r.un;show A.units+3+16*k+200<_;omega⟩
theorem tw {A:Around} {C:Addr} {us:List Value} {kw:List (Str×Value)}:(A.under (.builtin "type.__call__" ⟨.ref C::us,kw⟩)).depth=A.depth+1:=by
 first | rfl | simp [Around.under,Code.weight,Code.isCreation,Code.isGuard,Code.isCaller,Code.frames,Code.isFrame,guardIds]
theorem sB {A:Around} {C:Addr} {us:List Value} {kw:List (Str×Value)}:(A.under (.builtin "type.__call__" ⟨.ref C::us,kw⟩)).units=A.units+1:=by
 first | rfl | simp [Around.under,Code.cUnits,Code.frames,Code.isFrame]
theorem bh.make {k:Nat} {A:Around} (r:bh (k+1) A) (C:Addr) (us:List Value) (kw:List (Str×Value)):bh k (A.under (.builtin "type.__call__" ⟨.ref C::us,kw⟩)):=
 ⟨r.hd,by have:=r.dp;rw [tw];omega,by have:=r.un;rw [sB];omega⟩
theorem bh.depth {k:Nat} {A:Around} (r:bh k A):A.depth<recursionLimit:=by have:=r.dp;omega
def af:TA:=fun _ H Q=>Q [] H
def aa (ta:TE) (tr:TA):TA:=fun σ H Q=>ta σ H fun x H1=>tr σ H1 fun xs H2=>Q (x::xs) H2
section
variable {X:Cx} {e:Expr} {es:List Expr} {te:TE} {t:TA} {pos:Pos}
theorem BD:PA X [] af:=fun _ _ _ _ H Q I h=>Calls.spliced_nil ⟨[],H,I,.nil,h⟩
theorem zU (ha:PE X e te) (hr:PA X es t) (hs:starEach (e::es) X.env=(false,eval e X.env)::starEach es X.env:=by rfl):PA X (e::es) (aa te t):=by
 intro pos pins s σ H Q I h
 rw [hs]
 show wpAny _ _ (spliced ((false,eval e X.env)::backTo pos (starEach es X.env))) _ _ s
 refine Calls.spliced_cons (thn (ha pins s σ H _ I h) fun u s1 ⟨x,H1,I1,r1,q1⟩=>?_)
 exact thn (hr pos pins s1 σ H1 _ I1 q1) fun us s2 ⟨xs,H2,I2,r2,q2⟩=>⟨x::xs,H2,I2,.cons r1 r2,q2⟩
def aO (t:TA):TE:=fun σ H Q=>t σ H fun xs H1=>xs.length≤sizeLine∧∀ p,H1 p=none→Q (.ref p) (upd H1 p (.tup xs))
def bQ (t:TA):TE:=fun σ H Q=>t σ H fun xs H1=>xs.length≤sizeLine∧∀ p,H1 p=none→Q (.ref p) (upd H1 p (.lst xs))
theorem Dp {x1} (h:PA X es t):PE X (.Tuple es x1 pos) (aO t):=by
 intro pins s σ H Q I hq
 refine wpAny_Tuple_spliced (thn (h pos pins s σ H _ I hq) fun us s1 ⟨xs,H1,I1,r,z,q⟩=>⟨by rw [← r.length];exact z,?_⟩)
 have hf:H1 s1.heap.objs.size=none:=I1.hok.fresh (Nat.le_refl _)
 refine ⟨.ref s1.heap.objs.size,upd H1 s1.heap.objs.size (.tup xs),I1.laid (t':=s1.toks) (fun b u e=>Heap.get?_push_of_some _ e) (Nat.le_refl _) ?_,rfl,q _ hf⟩
 exact ⟨z,us,r,⟨_,Heap.get?_push_size _ rfl,rfl,_,rfl⟩⟩
theorem Dm (h:PA X es t):PE X (.List es pos) (bQ t):=by
 intro pins s σ H Q I hq
 refine wpAny_List_spliced (thn (h pos pins s σ H _ I hq) fun us s1 ⟨xs,H1,I1,r,z,q⟩=>⟨by rw [← r.length];exact z,?_⟩)
 have hf:H1 s1.heap.objs.size=none:=I1.hok.fresh (Nat.le_refl _)
 refine ⟨.ref s1.heap.objs.size,upd H1 s1.heap.objs.size (.lst xs),I1.laid (t':=s1.toks) (fun b u e=>Heap.get?_push_of_some _ e) (Nat.le_refl _) ?_,rfl,q _ hf⟩
 exact ⟨z,us,0,r,Heap.get?_push_size _ rfl⟩
end
abbrev Sp:=List V→Hp→VK→XK→Prop
abbrev CXT:=List Env→Hp→Shared→XK→Value→Shared→Prop
structure iO (P:Program) (w:World) (K:W.Frag) (mg:Str→Option Value) (base:Heap) (A:Around) (outer:List Env) (s:Shared) (H:Hp):Prop where
 frames:A.frames=some outer
 mod:Mod K mg base
 bs:∀ b o,base.get? b=some o→s.heap.get? b=some o∧H b=none
 bsz:base.objs.size≤s.heap.objs.size
 funs:s.heap.FunFrames base outer
 frf:∀ b∈frs outer,H b=none
 hok:HOk P w H s.heap
 bare:AllBare s.gens
def CE (outer:List Env) (P:Program) (w:World) (H:Hp) (s:Shared) (Q:VK) (u:Value) (s':Shared):Prop:=
 ∃ v H',s'.os=s.os∧AllBare s'.gens∧Un (frs outer) [] H H' s.heap s'.heap∧HOk P w H' s'.heap∧aX v u∧Q v H'
def CR (CX:CXT) (outer:List Env) (P:Program) (w:World) (H:Hp) (s:Shared) (Q:VK) (E:XK) (r:Result) (s':Shared):Prop:=
 match r with
 | .ok (.ret u)=>CE outer P w H s Q u s'
 | .ok _=>False
 | .error e=>CX outer H s E e s'
structure aN (P:Program) (w:World) (K:W.Frag) (mg:Str→Option Value) (base:Heap) (CX:CXT) (k:Nat) (f:Addr) (fd:FuncData) (ps:List Str) (sp:Sp):Prop where
 len:∀ vs H Q E,sp vs H Q E→vs.length=ps.length
 run:∀ (A:Around) (outer:List Env) (s:Shared) (H:Hp) (args:Args) (us:List Value) (vs:List V) (Q:VK) (E:XK),bh k A→iO P w K mg base A outer s H→BindsTo s fd args (ps.zip us)→aS vs us→sp vs H Q E→
  codeAny (model P w) A (.call (.ref f) args) (CR CX outer P w H s Q E) s
theorem iO.make {P:Program} {w:World} {K:W.Frag} {mg:Str→Option Value} {base:Heap} {A:Around} {outer:List Env} {s:Shared} {H:Hp} (e:iO P w K mg base A outer s H) (C:Addr) (us:List Value) (kw:List (Str×Value)):
 iO P w K mg base (A.under (.builtin "type.__call__" ⟨.ref C::us,kw⟩)) outer s H:=⟨by first | exact e.frames | (simpa [Around.under,Code.envs,Code.isFrame,pushEnvs] using e.frames),e.mod,e.bs,e.bsz,e.funs,e.frf,e.hok,e.bare⟩
section
variable {X:Cx} {pins:List (Addr×Obj)} {σ:St} {H:Hp} {s s':Shared}
theorem Inv.env0 (I:Inv X pins σ H s):iO X.prog X.w X.K X.mg X.base X.A X.stack s H:=
 ⟨I.ok.frames,I.ok.mod,I.bs,Nat.le_trans I.ok.bsz I.sz,I.stack,I.stkFree,I.hok,I.bare⟩
theorem Inv.after {Q:VK} {u:Value} (I:Inv X pins σ H s) (h:CE X.stack X.prog X.w H s Q u s'):EP X pins σ Q u s':=by
 obtain ⟨v,H',os,bare,un,hok,r,q⟩:=h
 obtain ⟨hh,g,d,t,os'⟩:=s'
 obtain rfl:os'=s.os:=os
 exact ⟨v,H',I.call (h':=hh) (g':=g) (d':=d) (t':=t) (ch:=[]) un hok bare (fun b z=>absurd z (by simp)),r,q⟩
end
def bA (K:W.Frag) (fd:FuncData) (ps:List Str) (ds:List Value):Prop:=
 ∀ (s:Shared) (us:List Value),K.In s.heap→(us++ds).length=ps.length→BindsTo s fd ⟨us,[]⟩ (ps.zip (us++ds))
theorem bA.all {K:W.Frag} {fd:FuncData} {ps:List Str} (h:∀ us:List Value,us.length=ps.length→bindArgs fd ⟨us,[]⟩=pure (ps.zip us)):bA K fd ps []:=fun s us _ hl=>by
 rw [List.append_nil] at hl ⊢
 exact .of_eq (h us hl)
section
variable {X:Cx} {CX:CXT} {k:Nat} {f C:Addr} {fd:FuncData} {ps:List Str} {sp:Sp} {dvs:List V} {ds:List Value} {E:XK} {x m:Str} {p pos apos:Pos} {e o:Expr} {es:List Expr} {ta:TE} {t:TA}
structure Mk (K:W.Frag) (C f:Addr):Prop where
 makes:W.makesIn K C=true
 init:W.findIn K (.ref C) "__init__" =some (some (.ref f))
 fn:W.isFn K (.ref f)=true
 kp:W.keepIn K (.ref C)=true
end
def PK (X:Cx) (kws:List Keyword) (t:TA):Prop:=
 ∀ (pos:Pos) (pins:List (Addr×Obj)) (s:Shared) (σ:St) (H:Hp) (Q:List V→Hp→Prop),Inv X pins σ H s→t σ H Q→wpAny (model X.prog X.w) X.A (evalAll ((backToKw pos (keywordEach kws X.env)).map (·.2))) (AP X pins σ Q) X.xe s
section
variable {X:Cx} {CX:CXT} {k:Nat} {f C:Addr} {fd:FuncData} {ps ks:List Str} {sp:Sp} {E:XK} {x m:Str} {p pos apos kpos:Pos} {e o:Expr} {es:List Expr} {kws:List Keyword} {te ta:TE} {t tk:TA} {nm:Option Str}
variable {g:List Value→List Value→List Value} {gV:List V→List V→List V}
end
structure aB (N P:List Str) (sc:Scope):Prop where
 kind:sc.kind=.function
 co:sc.isCoroutine=false
 gen:sc.isGenerator=false
 nd:N.Nodup
 pre:N.take P.length=P
 par:∀ x∈P,sc.names.lookup x=some .local∨sc.names.lookup x=some .cell
 nofree:∀ y∈sc.names,y.2≠ .free
theorem nh {kindOf : Str → Option NameKind} {x : Str} : ∀ {binds : List (Str × Value)} {m : Str → Option Value}, (∀ v, (x, v) ∉ binds) → bindL kindOf binds m x = m x
  | [], _, _ => rfl
  | (n, v) :: r, m, h => by
    unfold bindL
    rw [nh fun w hw => h w (List.mem_cons_of_mem _ hw)]
    split
    · have : x ≠ n := by rintro rfl; exact h v List.mem_cons_self
      simp [this]
    · rfl
theorem nj {kindOf : Str → Option NameKind} {x : Str} : ∀ {binds : List (Str × Value)} {m : Str → Option Value}, (∀ v, (x, v) ∉ binds) → bindC kindOf binds m x = m x
  | [], _, _ => rfl
  | (n, v) :: r, m, h => by
    unfold bindC
    rw [nj fun w hw => h w (List.mem_cons_of_mem _ hw)]
    split
    · rfl
    · have : x ≠ n := by rintro rfl; exact h v List.mem_cons_self
      simp [this]
theorem mV {kindOf : Str → Option NameKind} {x : Str} {v : Value} : ∀ {P : List Str} {vs : List Value} {i : Nat} {m : Str → Option Value}, P.Nodup → P[i]? = some x → vs[i]? = some v → kindOf x = some .local →
    bindL kindOf (P.zip vs) m x = some v
  | [], _, _, _, _, h, _, _ => by simp at h
  | _ :: _, [], _, _, _, _, h, _ => by simp at h
  | p :: P, w :: vs, 0, m, nd, h1, h2, hk => by
    simp at h1 h2; subst h1; subst h2
    show bindL kindOf ((p, w) :: P.zip vs) m p = _
    unfold bindL
    rw [nh fun v hv => (List.nodup_cons.mp nd).1 (List.of_mem_zip hv).1, if_pos hk]
    simp
  | p :: P, w :: vs, i + 1, m, nd, h1, h2, hk => by
    show bindL kindOf ((p, w) :: P.zip vs) m x = _
    unfold bindL
    exact mV (i := i) (List.nodup_cons.mp nd).2 (by simpa using h1) (by simpa using h2) hk
theorem nF {kindOf : Str → Option NameKind} {x : Str} {v : Value} : ∀ {P : List Str} {vs : List Value} {i : Nat} {m : Str → Option Value}, P.Nodup → P[i]? = some x → vs[i]? = some v → kindOf x ≠ some .local →
    bindC kindOf (P.zip vs) m x = some v
  | [], _, _, _, _, h, _, _ => by simp at h
  | _ :: _, [], _, _, _, _, h, _ => by simp at h
  | p :: P, w :: vs, 0, m, nd, h1, h2, hk => by
    simp at h1 h2; subst h1; subst h2
    show bindC kindOf ((p, w) :: P.zip vs) m p = _
    unfold bindC
    rw [nj fun v hv => (List.nodup_cons.mp nd).1 (List.of_mem_zip hv).1, if_neg hk]
    simp
  | p :: P, w :: vs, i + 1, m, nd, h1, h2, hk => by
    show bindC kindOf ((p, w) :: P.zip vs) m x = _
    unfold bindC
    exact nF (i := i) (List.nodup_cons.mp nd).2 (by simpa using h1) (by simpa using h2) hk
def start (N:List Str) (vs:List V):St:=vs.map some++List.replicate (N.length - vs.length) none
def cI (CX:CXT) (P:Program) (w:World) (K:W.Frag) (mg:Str→Option Value) (base:Heap) (N:List Str) (qual:Str) (scope:Scope) (f:Addr) (cd:Value) (A:Around) (outer:List Env) (s:Shared) (H:Hp) (E:XK):Cx where
 prog:=P
 w:=w
 K:=K
 mg:=mg
 base:=base
 A:=A.deeper (envOfC qual scope s.heap.objs.size f cd)
 N:=N
 s₀:=s
 H₀:=H
 env:=envOfC qual scope s.heap.objs.size f cd
 outer:=outer
 stack:=envOfC qual scope s.heap.objs.size f cd::outer
 ex:=[]
 calm:=true
 fn:=fun _=>true
 pn:=[]
 xe:=fun e s'=>wpAny (model P w) (A.deeper (envOfC qual scope s.heap.objs.size f cd)) (leaving (envOfC qual scope s.heap.objs.size f cd) e) (fun _ s''=>CX outer H s E e s'') (fun e' s''=>CX outer H s E e' s'') s'
theorem pK {sc:Scope} {n:Nat} {x:Str} (h:sc.names.lookup x=some .cell):∃ c,(cellsFrom n sc.names []).lookup x=some c:=by
 have q:=W.cellsFrom_some sc.names n [] (.inl h)
 exact Option.isSome_iff_exists.mp q
theorem mX {CX:CXT} {P:Program} {w:World} {K:W.Frag} {mg:Str→Option Value} {base:Heap} {N ps:List Str} {qual:Str} {scope:Scope} {f:Addr} {cd:Value} {A:Around} {outer:List Env} {s s1:Shared} {H:Hp} {E:XK} {us:List Value} {vs:List V}
   (S:aB N ps scope) (hd:A.handled=none) (e0:iO P w K mg base A outer s H) (hl:vs.length=ps.length) (r:aS vs us)
   (x:InCallC s s.heap.objs.size (bindL (envOfC qual scope s.heap.objs.size f cd).kindOf (ps.zip us) fun _=>none) (cellsFrom (s.heap.objs.size+1) scope.names []) (bindC (envOfC qual scope s.heap.objs.size f cd).kindOf (ps.zip us) fun _=>none) s1):
   Inv (cI CX P w K mg base N qual scope f cd A outer s H E) [] (start N vs) H s1:=by
 have hpl:ps.length≤N.length:=by have:=congrArg List.length S.pre;rw [List.length_take] at this;omega
 obtain ⟨h1,tk,rfl,hk⟩:=x.done
 have noA:∀ b:Addr,b∉(cI CX P w K mg base N qual scope f cd A outer s H E).ex:=fun b z=>absurd (show b∈([]:List Addr) from z) (by simp)
 refine ⟨⟨e0.mod,S.kind,rfl,rfl,Nat.le_refl _,fun y z c h1 h2=>?_,fun y hy=>?_,fun y c _ h=>?_,fun _=>hd,Around.frames_deeper e0.frames,.inr ⟨rfl,rfl⟩,fun b z=>absurd z (noA b),e0.bs,e0.bsz,fun b _ _=>noA b,fun b z=>absurd z (noA b),e0.funs,e0.frf⟩,
   rfl,e0.bare,Un.kept hk,⟨_,x.toInCall.ns,fun i y v h1 h2 h3=>?_⟩,fun y c h=>⟨_,x.cell y c h⟩,e0.hok.fresh (Nat.le_refl _),fun y c h=>?_,fun p hp=>absurd (show p∈([]:List (Addr×Obj)) from hp) (by simp),e0.hok.kept hk,?_⟩
 · exact name_of_addr x.apart (PySem.mem_of_lookup h1) (PySem.mem_of_lookup h2)
 · have hy:scope.names.lookup y=some .cell∨scope.names.lookup y=some .free:=hy
   rcases hy with hy | hy
   · exact pK hy
   · exact absurd rfl (S.nofree _ (PySem.mem_of_lookup hy))
 · exact Nat.le_of_lt (x.above y c (PySem.mem_of_lookup h))
 · have hi:i<vs.length:=by
     unfold start at h2
     by_cases hi:i<vs.length
     · exact hi
     · rw [List.getElem?_append_right (by simpa using hi)] at h2
       rw [List.getElem?_replicate] at h2
       split at h2 <;> cases h2
   have ha:vs[i]?=some v:=by
     unfold start at h2
     rw [List.getElem?_append_left (by simpa using hi),List.getElem?_map] at h2
     cases e:vs[i]? with
     | none=>rw [e] at h2;cases h2
     | some a=>rw [e] at h2;cases h2;rfl
   obtain ⟨u,hu,rv⟩:=r.get ha
   have hp:ps[i]?=some y:=by
     rw [← S.pre,List.getElem?_take_of_lt (by omega)];exact h1
   have ndP:ps.Nodup:=by rw [← S.pre];exact S.nd.sublist (List.take_sublist _ _)
   refine ⟨u,rv,?_⟩
   rcases S.par y (List.mem_of_getElem? hp) with k | k
   · exact .inl ⟨k,mV ndP hp hu k⟩
   · obtain ⟨c,e⟩:=pK (n:=s.heap.objs.size+1) k
     refine .inr ⟨.inl k,c,e,?_⟩
     have q:=x.cell y c e
     rw [nF ndP hp hu (by show scope.names.lookup y≠_;rw [k];decide)] at q
     exact q
 · exact e0.hok.fresh (Nat.le_of_lt (x.above y c (PySem.mem_of_lookup h)))
 · unfold start
   show _=N.length
   rw [List.length_append,List.length_map,List.length_replicate]
   omega
theorem yE {CX : CXT} {P : Program} {w : World} {K : W.Frag} {mg : Str → Option Value} {base : Heap} {k : Nat} {f : Addr} {name qual : Str} {params : Arguments} {body : List Stmt} {scope : Scope} {dV kV doc pm cdv ct oc : Value} {an od : Option Addr}
    {osl : Array (Option Value)} {N ps : List Str} {sp : Sp} (lk : K.lookup f = some ⟨oc, od, .func (W.fnOf name qual params body scope dV kV doc pm an cdv ct), osl⟩) (hcd : W.codeIn K cdv qual = true) (S : aB N ps scope)
    (len : ∀ vs H Q E, sp vs H Q E → vs.length = ps.length)
    (hbody : ∀ (A : Around) (outer : List Env) (s : Shared) (H : Hp) (vs : List V) (Q : VK) (E : XK), bh k (A.deeper (envOfC qual scope s.heap.objs.size f cdv)) → sp vs H Q E →
      ∃ t, PSs (cI CX P w K mg base N qual scope f cdv A outer s H E) body t ∧ t { nx := fun _ H' => Q .non H', rt := Q } (start N vs) H) :
    aN P w K mg base CX (k + 1) f (W.fnOf name qual params body scope dV kV doc pm an cdv ct) ps sp := by
  refine ⟨len, fun A outer s H args us vs Q E hr e0 hb r hsp => ?_⟩
  have hl := len _ _ _ _ hsp
  have KX : K.In s.heap := e0.mod.kin.keeps fun b o e => (e0.bs b o e).1
  have lim : s.heap.NoLimit := e0.mod.nolimit.keeps fun b o e => (e0.bs b o e).1
  have hkind : ∀ y ∈ ps.zip us, scope.names.lookup y.1 = some .local ∨ (scope.names.lookup y.1 = some .cell ∧ ((cellsFrom (s.heap.objs.size + 1) scope.names []).lookup y.1).isSome = true) := fun ⟨n, v⟩ hy => by
    rcases S.par n (List.of_mem_zip hy).1 with q | q
    · exact .inl q
    · exact .inr ⟨q, W.cellsFrom_some _ _ _ (.inl q)⟩
  refine codeAny_call_function hr.depth (KX _ _ lk) rfl S.co S.gen rfl (W.codeRec_of KX hcd) (hb _ _ _ _ ?_)
  refine wpAny_newFunctionEnv_cells S.kind hkind fun env he s1 x => ?_
  subst he
  refine ⟨lim.keeps x.toInCall.keep, codeAny_func ?_⟩
  obtain ⟨t, ht, hq⟩ := hbody A outer s H vs Q E (hr.deeper _) hsp
  have I : Inv (cI CX P w K mg base N qual scope f cdv A outer s H E) [] (start N vs) H s1 := mX S hr.hd e0 hl r x
  refine wpAny_mono (ht [] s1 (start N vs) H _ I hq) (fun fl s' hs => ?_) fun e s' hs => hs
  have fin : ∀ {σ' : St} {H' : Hp} {v : V} {u : Value}, Inv (cI CX P w K mg base N qual scope f cdv A outer s H E) [] σ' H' s' → aX v u → Q v H' → CE outer P w H s Q u s' :=
    fun {σ' H' v u} J rv q => ⟨v, H', J.os, J.bare, J.base, J.hok, rv, q⟩
  cases fl with
  | ret u =>
    obtain ⟨v, σ', H', J, rv, q⟩ := hs
    exact fin J rv q
  | next =>
    obtain ⟨σ', H', J, q⟩ := hs
    exact fin (v := V.non) (u := Value.none) J rfl q
  | brk =>
    obtain ⟨_, _, _, q⟩ := hs
    exact False.elim q
  | cont =>
    obtain ⟨_, _, _, q⟩ := hs
    exact False.elim q
end L2
namespace L2
open PySem PySem.Spec PyProof.Rows
section
variable {X:Cx} {x:Str} {p pos:Pos} {e:Expr} {es:List Expr} {t:TA} {id T:String} {r:List V→Hp→VK→Prop}
def tCB (r:List V→Hp→VK→Prop) (t:TA):TE:=fun σ H Q=>t σ H fun vs H1=>r vs H1 Q
theorem wZ (hc:bB X (.builtin id) r) (hg:Gl X x) (hm:X.mg x=none) (hv:bootBuiltins x=some (.builtin id)) (ha:PA X (e::es) t) (hn:x≠ "__name__" :=by decide) (hdb:(x==("__debug__" :Str))=false:=by decide)
  (he:starEach (e::es) X.env=(false,eval e X.env)::starEach es X.env:=by rfl) (hpl:(backTo pos (starEach es X.env)).any (·.1)=false:=by rfl):PE X (.Call (.Name x p) (e::es) [] pos) (tCB r t):=by
 intro pins s σ H Q I h
 refine wpAny_Call_Name_kw (gs I hg hm hv ?_ hn hdb)
 exact PyProof.Rows.callWith_builtin1 (thn (ha pos pins s σ H _ I h) fun us s1 ⟨vs,H1,I1,r1,q1⟩=>hc pins s1 σ H1 vs us Q I1 r1 q1) he hpl
theorem uJ (hc:bB X (.type T) r) (hg:Gl X x) (hm:X.mg x=none) (hv:bootBuiltins x=some (.type T)) (ha:PA X (e::es) t) (hn:x≠ "__name__" :=by decide) (hdb:(x==("__debug__" :Str))=false:=by decide)
  (he:starEach (e::es) X.env=(false,eval e X.env)::starEach es X.env:=by rfl) (hpl:(backTo pos (starEach es X.env)).any (·.1)=false:=by rfl):PE X (.Call (.Name x p) (e::es) [] pos) (tCB r t):=by
 intro pins s σ H Q I h
 refine wpAny_Call_Name_kw (gs I hg hm hv ?_ hn hdb)
 exact PyProof.Rows.callWith_type1 (thn (ha pos pins s σ H _ I h) fun us s1 ⟨vs,H1,I1,r1,q1⟩=>hc pins s1 σ H1 vs us Q I1 r1 q1) he hpl
end
end L2
namespace HT
open PySem PyProof.Rows
section
open PySem.SeqAt
open PySem.AutoSeq1 (wpAny_loadPart')
open PySem.MeetsSeq PySem.MeetsSeq2 PySem.MeetsSeq3
end
section
variable {prog:Program} {w:World} {A:Around} {E:Value→Shared→Prop} {s:Shared}
theorem zu {t b:Addr} {vs ws:List Value} {Q:Value→Shared→Prop} (ht:IsTup s.heap t vs.toArray) (hb:IsTup s.heap b ws.toArray) (hv:vs≠[])
   (h1:ws=[]→Q (.ref t) s) (h2:ws≠[]→Q (.ref s.heap.objs.size) { s with heap:=s.heap.push { cls:=.type "tuple",data:=.seq (vs++ws).toArray } })
   (hsz:vs.length+ws.length≤sizeLine):wpAny (model prog w) A (binaryOp .Add (.ref t) (.ref b)) Q E s:=by
 obtain ⟨⟨cls,dd,data,sl⟩,ho,hc,n,hd⟩:=id ht
 obtain ⟨⟨cls2,dd2,data2,sl2⟩,ho2,hc2,n2,hd2⟩:=id hb
 simp only at hc hd hc2 hd2
 subst hc hd hc2 hd2
 have e:vs.toArray++ws.toArray=(vs++ws).toArray:=by simp
 by_cases hw:ws=[]
 · exact concat_meets ⟨_,ho,rfl⟩ ⟨_,ho2,rfl⟩ noFill_tuple_add seq_tuple_add PySem.F.slot_tuple_add PySem.F.entry_tuple_add (PySem.F.args_tuple_add_2 _ _)
    (tuple_addW1 t b vs.toArray ws.toArray n n2 dd dd2 sl sl2 (by simpa using hv) (by simp [hw])) ⟨ho,ho2,h1 hw⟩
 · refine concat_meets ⟨_,ho,rfl⟩ ⟨_,ho2,rfl⟩ noFill_tuple_add seq_tuple_add PySem.F.slot_tuple_add PySem.F.entry_tuple_add (PySem.F.args_tuple_add_2 _ _)
    (tuple_addW2 t b vs.toArray ws.toArray n n2 dd dd2 sl sl2 (by simpa using hv) (by simpa using hw) (by rw [List.size_toArray,List.size_toArray];exact hsz)) ⟨ho,ho2,?_⟩
   rw [e]
   exact h2 hw
def sIx (n d:Nat):Option Int→Nat
 | none=>d
 | some v=>if v<0 then (v+(n:Int)).toNat else min v.toNat n
theorem kB (n d:Nat):sIx n d none=d:=rfl
theorem qZ (n d k:Nat):sIx n d (some (k:Int))=min k n:=by
 show (if (k:Int)<0 then ((k:Int)+(n:Int)).toNat else min (k:Int).toNat n)=min k n
 rw [if_neg (by omega),Int.toNat_natCast]
theorem BK (n d : Nat) (hd : d ≤ n) (o : Option Int) : sIx n d o ≤ n := by
  cases o with
  | none => exact hd
  | some v =>
    show (if v < 0 then (v + (n : Int)).toNat else min v.toNat n) ≤ n
    by_cases hv : v < 0
    · rw [if_pos hv]; omega
    · rw [if_neg hv]; exact Nat.min_le_right _ _
theorem qF (v:Int) (n d:Nat):(if v<0 then max (v+(n:Int)) 0 else min v (n:Int))=((sIx n d (some v):Nat):Int):=by
 show (if v<0 then max (v+(n:Int)) 0 else min v (n:Int))=(((if v<0 then (v+(n:Int)).toNat else min v.toNat n):Nat):Int)
 by_cases hv:v<0
 · simp only [if_pos hv];omega
 · simp only [if_neg hv];omega
theorem si (lo hi:Option Int) (n:Nat):Builtin.Slice.sliceAdjust lo hi 1 (n:Int)=(((sIx n 0 lo:Nat):Int),((sIx n n hi:Nat):Int)):=by
 have h1:¬ ((1:Int)<0):=by omega
 unfold Builtin.Slice.sliceAdjust
 simp only [h1,if_false]
 refine Prod.ext ?_ ?_
 · cases lo with
   | none=>rfl
   | some v=>exact qF v n 0
 · cases hi with
   | none=>rfl
   | some v=>exact qF v n n
theorem sS (i j:Nat):Builtin.Slice.slicePlaces (i:Int) (j:Int) 1=j - i:=by
 unfold Builtin.Slice.slicePlaces
 have h1:(1:Int)>0:=by omega
 simp only [h1,if_true,Int.ediv_one]
 split <;> omega
theorem lg {v:Value} {o:Option Int} {Q:Option Int→Shared→Prop} (p:IsPart v o) (h:Q o s):wpAny (model prog w) A (Builtin.Slice.slicePartIndex v) Q E s:=by
 cases p with
 | none=>exact slicePart_none h
 | int i t=>exact slicePart_int h
theorem gA {sl:Addr} {vl vu:Value} {lo hi:Option Int} {n:Nat} {Q:Int×Int×Nat→Shared→Prop} (hs:s.heap.IsSliceOf sl vl vu .none) (pl:IsPart vl lo) (pu:IsPart vu hi)
  (h:Q (((sIx n 0 lo:Nat):Int),1,sIx n n hi - sIx n 0 lo) s):wpAny (model prog w) A (Builtin.Slice.sliceApplied (.ref sl) (pure (n:Int))) Q E s:=by
 obtain ⟨os,hos,hcs,hds⟩:=id hs
 unfold Builtin.Slice.sliceApplied Builtin.Slice.sliceFields
 refine wpAny_bind (wpAny_bind (wpAny_field hos hds (x:=vl) rfl (wpAny_bind (wpAny_field hos hds (x:=vu) rfl (wpAny_bind (wpAny_field hos hds (x:=.none) rfl (wpAny_pure ?_)))))))
 refine wpAny_bind (slicePart_none ?_)
 show wpAny _ _ (if ((1:Int)==0)=true then _ else _) _ _ s
 rw [if_neg (by decide)]
 refine wpAny_bind (lg pl (wpAny_bind (lg pu (wpAny_bind (wpAny_pure ?_)))))
 show wpAny _ _ (match Builtin.Slice.sliceAdjust lo hi 1 (n:Int) with | (lo,hi)=>pure (lo,(1:Int),Builtin.Slice.slicePlaces lo hi 1)) _ _ s
 rw [si lo hi n]
 show wpAny _ _ (pure (((sIx n 0 lo:Nat):Int),(1:Int),Builtin.Slice.slicePlaces ((sIx n 0 lo:Nat):Int) ((sIx n n hi:Nat):Int) 1)) _ _ s
 rw [sS]
 exact wpAny_pure h
theorem xi (xs:Array Value) (i k:Nat):((List.range k).filterMap fun (m:Nat)=>xs[((i:Int)+(m:Int)*1).toNat]?).toArray=((xs.toList.drop i).take k).toArray:=by
 have e:(fun (m:Nat)=>xs[((i:Int)+(m:Int)*1).toNat]?)=fun m=>xs[i+m]?:=by
  funext m
  have:((i:Int)+(m:Int)*1).toNat=i+m:=by omega
  rw [this]
 rw [e]
 have:=pick_run xs i k
 rw [List.filterMap_map] at this
 have e2:((fun x=>xs[x]?)∘fun x=>i+x)=fun m=>xs[i+m]?:=rfl
 rw [e2] at this
 rw [this]
theorem km {t sl:Addr} {items:Array Value} {vl vu:Value} {lo hi:Option Int} {Q:Value→Shared→Prop} (ht:IsTup s.heap t items) (hs:s.heap.IsSliceOf sl vl vu .none) (pl:IsPart vl lo) (pu:IsPart vu hi)
  (hw:¬ (sIx items.size 0 lo=0∧sIx items.size items.size hi=items.size))
  (h:Q (.ref s.heap.objs.size) { s with heap:=s.heap.push { cls:=.type "tuple",data:=.seq ((items.toList.drop (sIx items.size 0 lo)).take (sIx items.size items.size hi - sIx items.size 0 lo)).toArray } })
  (hsz:items.size≤sizeLine):wpAny (model prog w) A (getItem (.ref t) (.ref sl)) Q E s:=by
 have htake:sizeOk (.seq ((items.toList.drop (sIx items.size 0 lo)).take (sIx items.size items.size hi - sIx items.size 0 lo)).toArray):=by
  show ((items.toList.drop (sIx items.size 0 lo)).take (sIx items.size items.size hi - sIx items.size 0 lo)).toArray.size≤sizeLine
  rw [List.size_toArray,List.length_take,List.length_drop,Array.length_toList]
  omega
 have hj:sIx items.size items.size hi≤items.size:=BK _ _ (Nat.le_refl _) hi
 obtain ⟨os,hos,hcs,hds⟩:=id hs
 have hTs:s.TypeIs (.ref sl) "slice" :=⟨os,hos,hcs⟩
 unfold getItem
 try with_reducible refine wpAny_holding ?_
 first | refine wpAny_bind (wpAny_pure ?_) | skip
 refine wpAny_bind (wpAny_sequenceKey ht.typeIs (by decide) ?_)
 refine wpAny_bind (wpAny_callSpecial?_slot (name:=Str.ofString "__getitem__") ht.typeIs PyProof.Rows.slot_tuple_getitem
  (wpAny_call_entry PyProof.Rows.slot_tuple_getitem ht.typeIs entry_tuple_getitem ?_ (args_tuple_getitem _ _)))
 show wpAny _ _ (Builtin.Tuple.tupleItemsOf (.ref t)>>=_) _ _ s
 refine wpAny_bind (tupleItemsOf_ ht ?_)
 refine wpAny_bind (wpAny_typeOf hTs ?_)
 rw [if_pos (by decide)]
 refine wpAny_bind (gA hs pl pu ?_)
 have hno:¬ ((((sIx items.size 0 lo:Nat):Int)==0&&(1:Int)==1&&(sIx items.size items.size hi - sIx items.size 0 lo)==items.size)=true):=by
  intro q
  rw [Bool.and_eq_true,Bool.and_eq_true] at q
  have q1:((sIx items.size 0 lo:Nat):Int)=0:=eq_of_beq q.1.1
  have q2:sIx items.size items.size hi - sIx items.size 0 lo=items.size:=eq_of_beq q.2
  exact hw ⟨by omega,by omega⟩
 show wpAny _ _ (if (((sIx items.size 0 lo:Nat):Int)==0&&(1:Int)==1&&(sIx items.size items.size hi - sIx items.size 0 lo)==items.size)=true then _ else _) _ _ s
 rw [if_neg hno,xi]
 first
  | exact wpAny_bind (m:=Builtin.Tuple.tupleExact _) (wpAny_newObj_type (wpAny_pure ⟨_,rfl,wpAny_pure h⟩) htake)
  | exact wpAny_bind (m:=Builtin.Tuple.tupleExact _) (wpAny_newObj_type (wpAny_bind (wpAny_pure (wpAny_pure ⟨_,rfl,wpAny_pure h⟩))) htake)
  | exact wpAny_bind (wpAny_bind (m:=Builtin.Tuple.tupleExact _) (wpAny_newObj_type (wpAny_pure (wpAny_pure ⟨_,rfl,wpAny_pure h⟩)) htake))
  | exact wpAny_bind (wpAny_bind (m:=Builtin.Tuple.tupleExact _) (wpAny_newObj_type (wpAny_pure ⟨_,rfl,wpAny_pure h⟩) htake))
end
end HT
namespace L2
open PySem PySem.Spec PyProof.Rows
abbrev TO:=St→Hp→(Option Int→Hp→Prop)→Prop
def PO (X:Cx) (e:Option Expr) (t:TO):Prop:=
 ∀ (pins:List (Addr×Obj)) (s:Shared) (σ:St) (H:Hp) (Q:Option Int→Hp→Prop),Inv X pins σ H s→t σ H Q→
  wpAny (model X.prog X.w) X.A (evalPart e X.env) (fun u s'=>∃ o H',Inv X pins σ H' s'∧IsPart u o∧Q o H') X.xe s
def cX:TO:=fun _ H Q=>Q none H
def dZ (t:TE):TO:=fun σ H Q=>t σ H fun x H1=>∃ i,x=.int i∧Q (some i) H1
section
variable {X:Cx} {e:Expr} {te:TE} {lo hi:Option Expr} {tl th:TO} {pos p2:Pos}
theorem zO:PO X none cX:=by
 intro pins s σ H Q I h
 rw [evalPart_none]
 exact wpAny_pure ⟨none,H,I,.none,h⟩
theorem zo (h:PE X e te):PO X (some e) (dZ te):=by
 intro pins s σ H Q I hw
 rw [evalPart_some]
 refine thn (h pins s σ H _ I hw) fun u s1 ⟨x,H1,I1,r1,q1⟩=>?_
 obtain ⟨i,rfl,q⟩:=q1
 obtain ⟨t,rfl⟩:=r1
 exact ⟨some i,H1,I1,.int i t,q⟩
def SlR (X:Cx) (r:V→Option Int→Option Int→Hp→VK→Prop):Prop:=
 ∀ (pins:List (Addr×Obj)) (s:Shared) (σ:St) (H:Hp) (x:V) (v vl vu:Value) (lo hi:Option Int) (sl:Addr) (Q:VK),Inv X pins σ H s→aX x v→s.heap.IsSliceOf sl vl vu .none→IsPart vl lo→IsPart vu hi→r x lo hi H Q→
  ∃ T id,typeLookup (.type T) "__getitem__" =pure (some (.builtin id))∧s.TypeIs v T∧wpAny (model X.prog X.w) X.A (getItem v (.ref sl)) (EP X pins σ Q) X.xe s
theorem SlR.or {r r':V→Option Int→Option Int→Hp→VK→Prop} (h:SlR X r) (h':SlR X r'):SlR X (fun x lo hi H Q=>r x lo hi H Q∨r' x lo hi H Q):=by
 intro pins s σ H x v vl vu lo hi sl Q I rx hs pl pu q
 rcases q with q | q
 · exact h pins s σ H x v vl vu lo hi sl Q I rx hs pl pu q
 · exact h' pins s σ H x v vl vu lo hi sl Q I rx hs pl pu q
def tSl (r:V→Option Int→Option Int→Hp→VK→Prop) (te:TE) (tl th:TO):TE:=fun σ H Q=>te σ H fun x H1=>tl σ H1 fun l H2=>th σ H2 fun u H3=>r x l u H3 Q
theorem wj {r:V→Option Int→Option Int→Hp→VK→Prop} (hr:SlR X r) (he:PE X e te) (hl:PO X lo tl) (hu:PO X hi th):PE X (.Subscript e (.Slice lo hi none p2) pos) (tSl r te tl th):=by
 intro pins s σ H Q I h
 refine Subscript_ (thn (he pins s σ H _ I h) fun v s1 ⟨x,H1,I1,r1,q1⟩=>?_)
 refine wpAny_Slice (thn (hl pins s1 σ H1 _ I1 q1) fun vl s2 ⟨l,H2,I2,pl,q2⟩=>thn (hu pins s2 σ H2 _ I2 q2) fun vu s3 ⟨u,H3,I3,pu,q3⟩=>?_)
 rw [evalPart_none]
 refine wpAny_pure ?_
 have I4:Inv X pins σ H3 { s3 with heap:=s3.heap.push { cls:=.type "slice",data:=.fields #[vl,vu,.none] } }:=I3.kept (t':=s3.toks) fun b ob q=>Heap.get?_push_of_some _ q
 obtain ⟨T,id,hT,ht,hg⟩:=hr pins { s3 with heap:=s3.heap.push { cls:=.type "slice",data:=.fields #[vl,vu,.none] } } σ H3 x v vl vu l u s3.heap.objs.size Q I4 r1 (Heap.IsSliceOf.new ..) pl pu q3
 show wpAny (model X.prog X.w) X.A (subscriptTail e (.Slice lo hi none p2) v (.ref s3.heap.objs.size)) (EP X pins σ Q) X.xe { s3 with heap:=s3.heap.push { cls:=.type "slice",data:=.fields #[vl,vu,.none] } }
 exact tail_any (ops:=[.ref s3.heap.objs.size,v]) ht hT hg (by with_unfolding_all rfl)
def eF (xs:List V) (lo hi:Option Int):List V:=(xs.drop (HT.sIx xs.length 0 lo)).take (HT.sIx xs.length xs.length hi - HT.sIx xs.length 0 lo)
theorem ku (xs:List V) (lo hi:Option Int):(eF xs lo hi).length≤xs.length:=by
 unfold eF
 rw [List.length_take,List.length_drop]
 omega
def Ii (K:W.Frag):V→Option Int→Option Int→Hp→VK→Prop:=fun x lo hi H Q=>∃ a xs,x=.ref a∧SqT K H a xs∧
 ¬ (HT.sIx xs.length 0 lo=0∧HT.sIx xs.length xs.length hi=xs.length)∧∀ p,H p=none→Q (.ref p) (upd H p (.tup (eF xs lo hi)))
theorem Cr:SlR X (Ii X.K):=by
 intro pins s σ H x v vl vu lo hi sl Q I rx hs pl pu h
 obtain ⟨a,xs,rfl,hx,hw,q⟩:=h
 cases rx
 obtain ⟨its,r,ht,hz⟩:=I.tuple hx
 have hlen:its.toArray.size=xs.length:=by rw [List.size_toArray];exact r.length.symm
 refine ⟨"tuple",_,PyProof.Rows.slot_tuple_getitem.lookup,ht.typeIs,?_⟩
 refine HT.km ht hs pl pu (by rw [hlen];exact hw) ?_ (by rw [hlen];exact hz)
 rw [hlen]
 refine ⟨.ref s.heap.objs.size,_,I.laid (t':=s.toks) (o:=.tup (eF xs lo hi)) (fun b ob q=>Heap.get?_push_of_some _ q) (Nat.le_refl _) ?_,rfl,q _ (I.hok.fresh (Nat.le_refl _))⟩
 exact ⟨Nat.le_trans (ku xs lo hi) hz,_,(r.drop (HT.sIx xs.length 0 lo)).take (HT.sIx xs.length xs.length hi - HT.sIx xs.length 0 lo),IsTup.new _ _⟩
def GE (K:W.Frag):R2:=fun x y H Q=>∃ a b xs ys,x=.ref a∧y=.ref b∧SqT K H a xs∧SqT K H b ys∧xs≠[]∧xs.length+ys.length≤sizeLine∧
 (ys=[]→Q (.ref a) H)∧(ys≠[]→∀ p,H p=none→Q (.ref p) (upd H p (.tup (xs++ys))))
theorem aS.nil_iff {xs:List V} {us:List Value} (r:aS xs us):us=[]↔xs=[]:=by
 cases r with
 | nil=>simp
 | cons _ _=>simp
theorem zp:OpR X (binaryOp .Add) (GE X.K):=by
 intro pins s σ H x y v u Q I rx ry h
 obtain ⟨a,b,xs,ys,rfl,rfl,ha,hb,hx,hz,q1,q2⟩:=h
 cases rx
 cases ry
 obtain ⟨its,r1,p1,_⟩:=I.tuple ha
 obtain ⟨its2,r2,p2,_⟩:=I.tuple hb
 refine HT.zu p1 p2 (fun z=>hx (r1.nil_iff.mp z)) (fun z=>⟨.ref a,H,I,rfl,q1 (r2.nil_iff.mp z)⟩) (fun z=>?_) (by rw [← r1.length,←r2.length];exact hz)
 refine ⟨.ref s.heap.objs.size,_,I.laid (t':=s.toks) (o:=.tup (xs++ys)) (fun b ob q=>Heap.get?_push_of_some _ q) (Nat.le_refl _) ?_,rfl,q2 (fun w=>z (r2.nil_iff.mpr w)) _ (I.hok.fresh (Nat.le_refl _))⟩
 exact ⟨by rw [List.length_append];exact hz,_,r1.append r2,IsTup.new _ _⟩
end
end L2
namespace L2
open PySem PySem.Spec PyProof.Rows
def ixN (n:Nat) (i:Int):Option Nat:=if 0≤i then (if i<n then some i.toNat else none) else if -(n:Int)≤i then some (i+n).toNat else none
def atI {α:Type} (xs:List α) (i:Int):Option α:=(ixN xs.length i).bind fun j=>xs[j]?
theorem qB {n:Nat} {i:Int} {j:Nat} (h:ixN n i=some j):seqIndex? i n=some j∧j<n∧ -(n:Int)≤i∧i<n:=by
 unfold ixN at h
 by_cases h0:0≤i
 · rw [if_pos h0] at h
   by_cases h1:i<n
   · rw [if_pos h1] at h
     have e:i.toNat=j:=Option.some.inj h
     exact ⟨by rw [seqIndex_of h0 h1,e],by omega,by omega,h1⟩
   · rw [if_neg h1] at h;cases h
 · rw [if_neg h0] at h
   by_cases h1: -(n:Int)≤i
   · rw [if_pos h1] at h
     have e:(i+n).toNat=j:=Option.some.inj h
     exact ⟨by rw [seqIndex_neg (by omega) h1,e],by omega,h1,by omega⟩
   · rw [if_neg h1] at h;cases h
theorem ia {α : Type} {xs : List α} {i : Int} {v : α} (h : atI xs i = some v) : ∃ j, seqIndex? i xs.length = some j ∧ xs[j]? = some v ∧ j < xs.length ∧ -(xs.length : Int) ≤ i ∧ i < xs.length := by
  unfold atI at h
  cases e : ixN xs.length i with
  | none => rw [e] at h; cases h
  | some j =>
    rw [e] at h
    obtain ⟨h1, h2, h3, h4⟩ := qB e
    exact ⟨j, h1, h, h2, h3, h4⟩
theorem pe {α:Type} (xs:List α) (v:α):atI (xs++[v]) (-1)=some v:=by
 have hl:(xs++[v]).length=xs.length+1:=by simp
 have e:ixN (xs++[v]).length (-1)=some xs.length:=by
  unfold ixN
  rw [hl,if_neg (by decide),if_pos (by omega)]
  congr 1
  omega
 unfold atI
 rw [e]
 show (xs++[v])[xs.length]?=some v
 simp
def qS (b:Expr):Prop:=∀ o i,subscripted b false o i=operate [o,i] (getItem o i)
def IxR (X:Cx) (r:R2):Prop:=
 ∀ (value slice:Expr) (pins:List (Addr×Obj)) (s:Shared) (σ:St) (H:Hp) (x y:V) (v u:Value) (Q:VK),Inv X pins σ H s→aX x v→aX y u→r x y H Q→
  subscripted slice false v u=operate [v,u] (getItem v u)→wpAny (model X.prog X.w) X.A (subscriptTail value slice v u) (EP X pins σ Q) X.xe s
def MtR (X:Cx) (id:String) (r:V→List V→Hp→VK→Prop):Prop:=
 ∀ (pins:List (Addr×Obj)) (s:Shared) (σ:St) (H:Hp) (x:V) (xs:List V) (v:Value) (us:List Value) (Q:VK),Inv X pins σ H s→aX x v→aS xs us→r x xs H Q→
  wpAny (model X.prog X.w) X.A (call (.builtin id) (v::us)) (EP X pins σ Q) X.xe s
section
variable {X:Cx} {a b:Expr} {ta tb:TE} {pos:Pos}
theorem IxR.or {r r':R2} (h:IxR X r) (h':IxR X r'):IxR X (fun x y H Q=>r x y H Q∨r' x y H Q):=by
 intro value slice pins s σ H x y v u Q I rx ry q hs
 rcases q with q | q
 · exact h value slice pins s σ H x y v u Q I rx ry q hs
 · exact h' value slice pins s σ H x y v u Q I rx ry q hs
theorem DV {r:R2} (hr:IxR X r) (ha:PE X a ta) (hb:PE X b tb) (hs:qS b):PE X (.Subscript a b pos) (tOp r ta tb):=by
 intro pins s σ H Q I h
 exact Subscript_ (vR ha hb I h fun v u s2 x y H2 I2 rx ry q=>hr a b pins s2 σ H2 x y v u Q I2 rx ry q (hs _ _))
def Ac (K:W.Frag):R2:=fun x y H Q=>∃ p xs i v,x=.ref p∧y=.int i∧SqL K H p xs∧atI xs i=some v∧Q v H
def Dt (K:W.Frag):R2:=fun x y H Q=>∃ p xs i v,x=.ref p∧y=.int i∧SqT K H p xs∧atI xs i=some v∧Q v H
def CG:R2:=fun x y H Q=>∃ z i c,x=.str z∧y=.int i∧z.length≤sizeLine∧atI z.cps.toList i=some c∧Q (.str ⟨#[c]⟩) H
theorem zL:IxR X (Ac X.K):=by
 intro value slice pins s σ H x y v u Q I rx ry h hs
 obtain ⟨p,xs,i,z,rfl,rfl,hq,he,q⟩:=h
 cases rx
 obtain ⟨t,rfl⟩:=ry
 obtain ⟨its,r,pl,hz⟩:=I.list hq
 obtain ⟨j,h1,h2,h3,h4,h5⟩:=ia he
 obtain ⟨w,ew,rw'⟩:=r.get h2
 have hl:=r.length
 have hn:=iu
 have fin:EP X pins σ Q w s:=⟨z,H,I,rw',q⟩
 by_cases h0:0≤i
 · have hj:i.toNat=j:=by
    rw [seqIndex_of h0 h5] at h1
    exact Option.some.inj h1
   exact item_listR pl.isList h0 (by omega) (by rw [hj];simpa using ew) fin hs
 · have hj:(i+(its.toArray.size:Int)).toNat=j:=by
    rw [seqIndex_neg (by omega) h4] at h1
    rw [List.size_toArray,←hl]
    exact Option.some.inj h1
   exact subscriptTail_builtinR (x:=w) pl.isList.typeIs slot_list_getitem.lookup
    (wpAny_getItem_list_neg (Q:=fun r s'=>r=w∧EP X pins σ Q r s') pl.isList (by omega) (by rw [List.size_toArray] <;> omega) (by omega) (by rw [hj];simpa using ew) ⟨rfl,fin⟩) hs
theorem AW:IxR X (Dt X.K):=by
 intro value slice pins s σ H x y v u Q I rx ry h hs
 obtain ⟨p,xs,i,z,rfl,rfl,hq,he,q⟩:=h
 cases rx
 obtain ⟨t,rfl⟩:=ry
 obtain ⟨its,r,pl,hz⟩:=I.tuple hq
 obtain ⟨j,h1,h2,h3,h4,h5⟩:=ia he
 obtain ⟨w,ew,rw'⟩:=r.get h2
 have hl:=r.length
 have hn:=iu
 have fin:EP X pins σ Q w s:=⟨z,H,I,rw',q⟩
 exact subscriptTail_builtinR (x:=w) pl.typeIs slot_tuple_getitem.lookup
  (getItem_tuple (j:=j) (Q:=fun r s'=>r=w∧EP X pins σ Q r s') pl (by omega) (by omega) (by rw [List.size_toArray,←hl];exact h1) (by simpa using ew) ⟨rfl,fin⟩) hs
theorem BP:IxR X CG:=by
 intro value slice pins s σ H x y v u Q I rx ry h hs
 obtain ⟨z,i,c,rfl,rfl,hz,he,q⟩:=h
 obtain ⟨t,rfl⟩:=rx
 obtain ⟨t',rfl⟩:=ry
 obtain ⟨j,h1,h2,h3,h4,h5⟩:=ia he
 have hl:z.cps.toList.length=z.length:=by simp [Str.length]
 rw [hl] at h1 h4 h5
 have hn:=iu
 exact tail_any (typeIs_str s z t) slot_str_getitem.lookup (getItem_str (c:=c) (by
  have e1:decide (i< -(2^63:Int))=false:=decide_eq_false (by omega)
  have e2:decide (i≥2^63)=false:=decide_eq_false (by omega)
  rw [e1,e2,Bool.or_false]) (by rw [h1];simpa using h2) ⟨.str ⟨#[c]⟩,H,I.tok _,⟨_,rfl⟩,q⟩) hs
def rIx (K:W.Frag):R2:=fun x y H Q=>Ac K x y H Q∨Dt K x y H Q∨CG x y H Q
theorem BI:IxR X (rIx X.K):=zL.or (AW.or BP)
theorem rp (its:List Value) (n j:Nat) (u:Value):Obj.mapSeq (·.setIfInBounds j u) { cls:=.type "list",data:=.seq its.toArray n }={ cls:=.type "list",data:=.seq (its.set j u).toArray n }:=by
 simp [Obj.mapSeq]
theorem Inv.lst {pins:List (Addr×Obj)} {σ:St} {H:Hp} {s:Shared} {p:Addr} {xs:List V} (I:Inv X pins σ H s) (h:H p=some (.lst xs)):
  ∃ (its:List Value) (n:Nat),aS xs its∧s.heap.get? p=some { cls:=.type "list",data:=.seq its.toArray n }∧xs.length≤sizeLine:=by
 obtain ⟨z,its,n,r,e⟩:=I.hok p _ h
 exact ⟨its,n,r,e,z⟩
theorem Inv.lstUpd {pins:List (Addr×Obj)} {σ:St} {H:Hp} {s:Shared} {p:Addr} {xs ys:List V} {its its':List Value} {n n':Nat} {f:Obj→Obj} (I:Inv X pins σ H s) (h:H p=some (.lst xs))
  (ho:s.heap.get? p=some { cls:=.type "list",data:=.seq its.toArray n }) (hf:f { cls:=.type "list",data:=.seq its.toArray n }={ cls:=.type "list",data:=.seq its'.toArray n' }) (r:aS ys its') (hz:ys.length≤sizeLine) (t:Nat):
  Inv X pins σ (upd H p (.lst ys)) { s with heap:=s.heap.update p f,toks:=t }:=by
 have e:(s.heap.update p f).get? p=some { cls:=.type "list",data:=.seq its'.toArray n' }:=by
  rw [Heap.get?_update_self f ho (by rw [hf] <;> rfl),hf]
 refine I.write (x:=p) (e:=p) (by rw [h];trivial) (.inl rfl) (fun b u hb q=>(Heap.get?_update_other _ _ (Ne.symm hb)).trans q) ⟨_,e⟩ ?_
 exact ⟨hz,its',n',r,e⟩
def yk:V→V→V→Hp→(Hp→Prop)→Prop:=fun o i v H Q=>∃ p xs k j,o=.ref p∧i=.int k∧H p=some (.lst xs)∧ixN xs.length k=some j∧Q (upd H p (.lst (xs.set j v)))
theorem wK:sU X yk:=by
 intro pins s σ H o i v ov iv u Q I ro ri rv h
 obtain ⟨p,xs,k,j,rfl,rfl,hp,hj,q⟩:=h
 cases ro
 obtain ⟨t,rfl⟩:=ri
 obtain ⟨its,n,r,ho,hz⟩:=I.lst hp
 obtain ⟨h1,h2,h3,h4⟩:=qB hj
 have hl:=r.length
 have hn:=iu
 have I':Inv X pins σ (upd H p (.lst (xs.set j v))) { s with heap:=s.heap.update p (Obj.mapSeq (·.setIfInBounds j u)) }:=
   I.lstUpd hp ho (rp its n j u) (r.set rv j) (by rw [List.length_set];exact hz) s.toks
 by_cases h0:0≤k
 · have hk:k.toNat=j:=by
    rw [seqIndex_of h0 h4] at h1
    exact Option.some.inj h1
   exact W.ki_setAt ho h0 (by omega) (by rw [List.size_toArray,←hl];exact h4) (by rw [hk];exact ⟨_,I',q⟩)
 · have hk:(k+(its.toArray.size:Int)).toNat=j:=by
    rw [seqIndex_neg (by omega) h3] at h1
    rw [List.size_toArray,←hl]
    exact Option.some.inj h1
   exact W.ki_setBack ho (by omega) (by rw [List.size_toArray,←hl];exact h3) (by omega) (by rw [hk];exact ⟨_,I',q⟩)
theorem pc (lo hi : Option Int) (n : Nat) : (sliceBounds lo hi none n).1 = ((HT.sIx n 0 lo : Nat) : Int) ∧ (sliceBounds lo hi none n).2.1 = ((HT.sIx n n hi : Nat) : Int) ∧ (sliceBounds lo hi none n).2.2 = 1 := by
  refine ⟨?_, ?_, rfl⟩
  · cases lo with
    | none => simp [sliceBounds, HT.sIx]
    | some i =>
      simp only [sliceBounds, HT.sIx, Option.getD_none, show (1 : Int) > 0 by decide, if_true]
      by_cases h : i < 0
      · simp only [h, if_true] <;> omega
      · simp only [h, if_false] <;> omega
  · cases hi with
    | none => simp [sliceBounds, HT.sIx]
    | some i =>
      simp only [sliceBounds, HT.sIx, Option.getD_none, show (1 : Int) > 0 by decide, if_true]
      by_cases h : i < 0
      · simp only [h, if_true] <;> omega
      · simp only [h, if_false] <;> omega
theorem nJ (its:List Value) (lo hi:Option Int):slicePick its.toArray lo hi none=((its.drop (HT.sIx its.length 0 lo)).take (HT.sIx its.length its.length hi - HT.sIx its.length 0 lo)).toArray:=by
 obtain ⟨h1,h2,h3⟩:=pc lo hi its.toArray.size
 unfold slicePick
 rw [h1,h2,h3]
 simp only [sliceRange_one,pick_run,List.size_toArray] <;> rfl
def BU (K:W.Frag):V→Option Int→Option Int→Hp→VK→Prop:=fun x lo hi H Q=>∃ a xs,x=.ref a∧SqL K H a xs∧∀ p,H p=none→Q (.ref p) (upd H p (.lst (eF xs lo hi)))
theorem zy:SlR X (BU X.K):=by
 intro pins s σ H x v vl vu lo hi sl Q I rx hs pl pu h
 obtain ⟨a,xs,rfl,hx,q⟩:=h
 cases rx
 obtain ⟨its,r,ht,hz⟩:=I.list hx
 have hlen:=r.length
 refine ⟨"list",_,slot_list_getitem.lookup,ht.isList.typeIs,?_⟩
 refine wpAny_getItem_list_slice ht.isList hs pl pu .none (by simp) ?_ (by rw [List.size_toArray] <;> omega)
 rw [nJ,←hlen]
 refine ⟨.ref s.heap.objs.size,_,I.laid (t':=s.toks) (o:=.lst (eF xs lo hi)) (fun b ob q=>Heap.get?_push_of_some _ q) (Nat.le_refl _) ?_,rfl,q _ (I.hok.fresh (Nat.le_refl _))⟩
 exact ⟨Nat.le_trans (ku xs lo hi) hz,_,0,(r.drop (HT.sIx xs.length 0 lo)).take (HT.sIx xs.length xs.length hi - HT.sIx xs.length 0 lo),Heap.get?_push_size _ rfl⟩
theorem bB.or {f:Value} {r r':List V→Hp→VK→Prop} (h:bB X f r) (h':bB X f r'):bB X f (fun xs H Q=>r xs H Q∨r' xs H Q):=by
 intro pins s σ H xs us Q I rs q
 rcases q with q | q
 · exact h pins s σ H xs us Q I rs q
 · exact h' pins s σ H xs us Q I rs q
theorem pX:bB X (.type "list") (fun xs H Q=>∃ p ys,xs=[.ref p]∧(SqL X.K H p ys∨SqT X.K H p ys)∧∀ l,H l=none→Q (.ref l) (upd H l (.lst ys))):=by
 intro pins s σ H xs us Q I r h
 obtain ⟨p,ys,rfl,hq,q⟩:=h
 obtain ⟨u,rfl,rx⟩:=fD r
 cases rx
 have fin:∀ (its:List Value),aS ys its→ys.length≤sizeLine→∀ (h':Heap) (c':Nat),(∀ b o',s.heap.get? b=some o'→h'.get? b=some o')→
    h'.get? s.heap.objs.size=some { cls:=.type "list",dict:=none,data:=.seq its.toArray c',slots:=#[] }→EP X pins σ Q (.ref s.heap.objs.size) { s with heap:=h' }:=fun its r' hz h' c' kp e=>
   ⟨.ref s.heap.objs.size,_,I.laid (t':=s.toks) kp (Nat.le_refl _) (show ba X.prog X.w _ h' _ (.lst ys) from ⟨hz,its,c',r',e⟩),rfl,q _ (I.hok.fresh (Nat.le_refl _))⟩
 rcases hq with hq | hq
 · obtain ⟨its,r',pl,hz⟩:=I.list hq
   have hlen:=r'.length
   obtain ⟨o,ho,hc,n,hd⟩:=pl.isList
   exact call_list_seq p (.inl rfl) ho hc hd (fun h' c' kp e=>fin its r' hz h' c' kp e) (by simp only [List.size_toArray] <;> omega)
 · obtain ⟨its,r',pl,hz⟩:=I.tuple hq
   have hlen:=r'.length
   obtain ⟨o,ho,hc,n,hd⟩:=pl
   exact call_list_seq p (.inr rfl) ho hc hd (fun h' c' kp e=>fin its r' hz h' c' kp e) (by simp only [List.size_toArray] <;> omega)
theorem nK:bB X (.type "tuple") (fun xs H Q=>∃ p ys,xs=[.ref p]∧((SqL X.K H p ys∧∀ l,H l=none→Q (.ref l) (upd H l (.tup ys)))∨(SqT X.K H p ys∧Q (.ref p) H))):=by
 intro pins s σ H xs us Q I r h
 obtain ⟨p,ys,rfl,h⟩:=h
 obtain ⟨u,rfl,rx⟩:=fD r
 cases rx
 rcases h with ⟨hq,q⟩ | ⟨hq,q⟩
 · obtain ⟨its,r',pl,hz⟩:=I.list hq
   have hlen:=r'.length
   refine call_tuple_list pl.isList (fun h' kp=>?_) (by simp only [List.size_toArray] <;> omega)
   have I1:Inv X pins σ H { s with heap:=h' }:=I.kept (t':=s.toks) kp
   have I2:Inv X pins σ (upd H h'.objs.size (.tup ys)) { s with heap:=h'.push { cls:=.type "tuple",data:=.seq its.toArray } }:=
    I1.laid (t':=s.toks) (fun b o e=>Heap.get?_push_of_some _ e) (Nat.le_refl _) (show ba X.prog X.w _ _ _ (.tup ys) from ⟨hz,its,r',IsTup.new _ _⟩)
   exact ⟨.ref h'.objs.size,_,I2,rfl,q _ (I1.hok.fresh (Nat.le_refl _))⟩
 · obtain ⟨its,r',pl,hz⟩:=I.tuple hq
   exact call_tuple_same pl ⟨.ref p,H,I,rfl,q⟩
def tyV (K:W.Frag) (T:String) (x:V) (H:Hp):Prop:=match x with
 | .str _=>T= "str"
 | .int _=>T= "int"
 | .ref p=>(T= "list" ∧∃ xs,SqL K H p xs)∨(T= "tuple" ∧∃ o,K.lookup p=some o∧o.cls=.type "tuple" ∧o.dict=none)∨
  (T= "dict" ∧((∃ kvs,H p=some (.dK kvs))∨∃ kvs,H p=some (.dT kvs)))∨(T= "set" ∧∃ S n,H p=some (.set S n))
 | _=>False
theorem uu {pins : List (Addr × Obj)} {σ : St} {H : Hp} {s : Shared} {T : String} {x : V} {v : Value} (I : Inv X pins σ H s) (r : aX x v) (ty : tyV X.K T x H) :
    s.TypeIs v T ∧ ∀ a, v = .ref a → ∃ ob, s.heap.get? a = some ob ∧ ob.dict = none := by
  cases x with
  | str z =>
    obtain ⟨t, rfl⟩ := r
    cases (show T = "str" from ty)
    exact ⟨typeIs_str s z t, fun _ e => nomatch e⟩
  | int i =>
    obtain ⟨t, rfl⟩ := r
    cases (show T = "int" from ty)
    exact ⟨typeIs_int s i t, fun _ e => nomatch e⟩
  | ref p =>
    cases r
    rcases ty with ⟨rfl, xs, hq⟩ | ⟨rfl, o, hk, hc, hd⟩ | ⟨rfl, hk⟩ | ⟨rfl, S, n, hk⟩
    · obtain ⟨its, _, pl, _⟩ := I.list hq
      refine ⟨pl.isList.typeIs, fun a e => ?_⟩
      cases e
      obtain ⟨o, n, e, c, hd, _⟩ := pl
      exact ⟨o, e, hd⟩
    · refine ⟨⟨o, I.kIn p o hk, hc⟩, fun a e => ?_⟩
      cases e
      exact ⟨o, I.kIn _ o hk, hd⟩
    · have z : ∃ o, s.heap.get? p = some o ∧ o.ExactDict := by
        rcases hk with ⟨kvs, hk⟩ | ⟨kvs, hk⟩
        · obtain ⟨_, _, _, _, o, _, _, e, ex, _⟩ := I.hok p _ hk
          exact ⟨o, e, ex⟩
        · obtain ⟨_, _, _, _, o, _, _, e, ex, _⟩ := I.hok p _ hk
          exact ⟨o, e, ex⟩
      obtain ⟨o, e, ex⟩ := z
      refine ⟨⟨o, e, ex.1⟩, fun a e2 => ?_⟩
      cases e2
      exact ⟨o, e, ex.2.1⟩
    · obtain ⟨o, _, _, _, e, ex, _⟩ := I.hok p _ hk
      refine ⟨⟨o, e, ex.1⟩, fun a e2 => ?_⟩
      cases e2
      exact ⟨o, e, ex.2.1⟩
  | _ => exact False.elim ty
def pO (K:W.Frag) (T:String) (r:V→List V→Hp→VK→Prop) (to:TE):TE:=fun σ H Q=>to σ H fun x H1=>tyV K T x H1∧r x [] H1 Q
def tBM (K:W.Frag) (T:String) (r:V→List V→Hp→VK→Prop) (to:TE) (t:TA):TE:=fun σ H Q=>to σ H fun x H1=>tyV K T x H1∧t σ H1 fun xs H2=>r x xs H2 Q
variable {o e:Expr} {es:List Expr} {to:TE} {t:TA} {name:Str} {apos cpos:Pos} {T id:String} {r:V→List V→Hp→VK→Prop}
theorem Ah (pa:PlainAttrs T) (slot:Slot T name id) (hty:typeOf (.builtin id)=pure (.type "method_descriptor")) (hm:MtR X id r) (ho:PE X o to)
  (hbase:attributeBase o name X.env (eval o X.env)=eval o X.env:=by rfl) (hline:(apos.endLine==cpos.line)=true:=by rfl):PE X (.Call (.Attribute o name apos) [] [] cpos) (pO X.K T r to):=by
 intro pins s σ H Q I h
 refine wpAny_Call_method0_late hbase hline (thn (ho pins s σ H _ I h) fun v s1 ⟨x,H1,I1,r1,ty,q1⟩=>?_)
 obtain ⟨h1,h2⟩:=uu I1 r1 ty
 exact ⟨T,id,pa,slot,hty,h1,h2,Calls.callWith_builtin rfl (PySem.evalArgs_none (hm pins s1 σ H1 x [] v [] Q I1 r1 .nil q1))⟩
theorem FX (pa : PlainAttrs T) (slot : Slot T name id) (hty : typeOf (.builtin id) = pure (.type "method_descriptor")) (hm : MtR X id r) (ho : PE X o to) (ha : PA X (e :: es) t)
  (hbase : attributeBase o name X.env (eval o X.env) = eval o X.env := by rfl)
  (hfew : ((backTo cpos (starEach (e :: es) X.env)).all (fun x => !x.1) && (backToKw cpos (keywordEach [] X.env)).all (fun x => x.1.isSome)
   && decide ((e :: es).length + ([] : List Keyword).length + (if ([] : List Keyword).isEmpty then 0 else 1) < 30)) = true := by rfl)
  (hline : (apos.endLine == cpos.line) = true := by rfl) (hs : starEach (e :: es) X.env = (false, eval e X.env) :: starEach es X.env := by rfl) (hplain : (backTo cpos (starEach es X.env)).any (·.1) = false := by rfl) :
  PE X (.Call (.Attribute o name apos) (e :: es) [] cpos) (tBM X.K T r to t) := by
 intro pins s σ H Q I h
 refine wpAny_Call_method_late hbase hfew hline rfl (thn (ho pins s σ H _ I h) fun v s1 ⟨x, H1, I1, r1, ty, q1⟩ => ?_)
 obtain ⟨h1, h2⟩ := uu I1 r1 ty
 refine ⟨T, id, pa, slot, hty, h1, h2, ?_⟩
 have hA := ha cpos pins s1 σ H1 _ I1 q1
 rw [hs] at hA ⊢
 refine Calls.callWith_builtin (by show (false || (backTo cpos (starEach es X.env)).any (·.1)) = false; rw [hplain] <;> rfl) (Calls.evalArgs_plain ?_)
 exact thn hA fun us s2 ⟨vs, H2, I2, r2, q2⟩ => hm pins s2 σ H2 x vs v us Q I2 r1 r2 q2
end
end L2
namespace L2
open PySem PySem.Spec PyProof.Rows
def MtM (X:Cx) (id:String) (r:V→List V→Hp→VK→Prop):Prop:=
 ∀ (pins:List (Addr×Obj)) (s:Shared) (σ:St) (H:Hp) (x:V) (xs:List V) (v:Value) (us:List Value) (Q:VK),Inv X pins σ H s→aX x v→aS xs us→r x xs H Q→
  wpAny (model X.prog X.w) X.A (call (.builtin id) (v::us)) (EP X pins σ Q) X.xe s
theorem aS.one:∀ {x:V} {us:List Value},aS [x] us→∃ u,us=[u]∧aX x u
 | _,_,.cons r .nil=>⟨_,rfl,r⟩
theorem aS.zero:∀ {us:List Value},aS [] us→us=[]
 | _,.nil=>rfl
theorem aS.reverse {xs:List V} {us:List Value} (h:aS xs us):aS xs.reverse us.reverse:=by
 induction h with
 | nil=>exact .nil
 | cons r t ih=>rw [List.reverse_cons,List.reverse_cons];exact aS.append ih (.cons r .nil)
theorem aS.rep {xs : List V} {us : List Value} (h : aS xs us) : ∀ k : Nat, aS (List.replicate k xs).flatten (List.replicate k us).flatten
  | 0 => .nil
  | k + 1 => by
    rw [List.replicate_succ, List.replicate_succ, List.flatten_cons, List.flatten_cons]
    exact aS.append h (aS.rep h k)
theorem nq (its : List Value) : ∀ (k : Nat) (acc : List Value),
    List.foldl (fun x1 x2 => x1 ++ x2) acc.toArray (List.replicate k its.toArray) = (acc ++ (List.replicate k its).flatten).toArray
  | 0, acc => by simp
  | k + 1, acc => by
    have e : acc.toArray ++ its.toArray = (acc ++ its).toArray := by simp
    have e2 : (acc ++ its) ++ (List.replicate k its).flatten = acc ++ (List.replicate (k + 1) its).flatten := by
      rw [List.replicate_succ, List.flatten_cons, List.append_assoc]
    rw [← e2, ← nq its k (acc ++ its), ← e, List.replicate_succ, List.foldl_cons]
section
variable {X:Cx} {pins:List (Addr×Obj)} {σ:St} {H:Hp} {s:Shared} {l b:Addr} {xs ys zs:List V}
theorem Inv.lset {its its':List Value} {n:Nat} {f:Array Value→Array Value} {t':Nat} (I:Inv X pins σ H s) (hH:H l=some (.lst xs))
  (e:s.heap.get? l=some { cls:=.type "list",data:=.seq its.toArray n }) (hf:f its.toArray=its'.toArray) (hv:aS ys its') (hz:ys.length≤sizeLine):
  Inv X pins σ (upd H l (.lst ys)) { s with heap:=s.heap.update l (Obj.mapSeq f),toks:=t' }:=by
 have q:=PySem.IsL.update e f
 rw [hf] at q
 refine I.write (x:=l) (e:=l) (by rw [hH];exact trivial) (.inl rfl) (fun b' u hb hu=>(Heap.get?_update_other s.heap (Obj.mapSeq f) (Ne.symm hb)).trans hu) ⟨_,q⟩ ?_
 exact ⟨hz,its',_,hv,q⟩
theorem Inv.lnew {its:List Value} {t':Nat} (I:Inv X pins σ H s) (hv:aS ys its) (hz:ys.length≤sizeLine):
  Inv X pins σ (upd H s.heap.objs.size (.lst ys)) { s with heap:=s.heap.push { cls:=.type "list",data:=.seq its.toArray },toks:=t' }:=
 I.laid (fun _ _ q=>Heap.get?_push_of_some _ q) (Nat.le_refl _) ⟨hz,its,0,hv,Heap.get?_push_size _ rfl⟩
theorem Inv.fresh (I:Inv X pins σ H s):H s.heap.objs.size=none:=I.hok.fresh (Nat.le_refl _)
theorem Inv.lstM (I:Inv X pins σ H s) (hH:H l=some (.lst xs)):xs.length≤sizeLine∧∃ (its:List Value) (n:Nat),aS xs its∧xs.length=its.length∧s.heap.get? l=some { cls:=.type "list",data:=.seq its.toArray n }:=by
 obtain ⟨z,its,n,r,e⟩:=I.hok l _ hH
 exact ⟨z,its,n,r,r.length,e⟩
end
section
variable {X:Cx}
def dG:V→List V→Hp→VK→Prop:=fun x vs H Q=>∃ l xs y,x=.ref l∧vs=[y]∧H l=some (.lst xs)∧xs.length<sizeLine∧Q .non (upd H l (.lst (xs++[y])))
theorem cL:MtM X "list.append" dG:=by
 intro pins s σ H x vs v us Q I rx rv h
 obtain ⟨l,xs,y,rfl,rfl,hH,hz,q⟩:=h
 cases rx
 obtain ⟨u,rfl,ru⟩:=rv.one
 obtain ⟨z,its,n,r,hl,e⟩:=I.lstM hH
 refine call_meets F.slot_list_append ⟨_,e,rfl⟩ F.entry_list_append (F.args_list_append_2 _ _) (PySem.list_append l its.toArray n u (by rw [List.size_toArray];omega)) ⟨e,?_⟩
 refine ⟨.non,_,I.lset (its':=its++[u]) hH e (by simp) (r.append (.cons ru .nil)) ?_,rfl,q⟩
 rw [List.length_append,List.length_singleton]
 omega
def pr:V→List V→Hp→VK→Prop:=fun x vs H Q=>∃ l xs,x=.ref l∧vs=[]∧H l=some (.lst xs)∧Q .non (upd H l (.lst []))
theorem ve:MtM X "list.clear" pr:=by
 intro pins s σ H x vs v us Q I rx rv h
 obtain ⟨l,xs,rfl,rfl,hH,q⟩:=h
 cases rx
 have hus:=rv.zero
 subst hus
 obtain ⟨z,its,n,r,hl,e⟩:=I.lstM hH
 refine call_meets F.slot_list_clear ⟨_,e,rfl⟩ F.entry_list_clear (F.args_list_clear_1 _) (AutoSeq1.list_clear_list_0 l its.toArray n (by rw [List.size_toArray];omega)) ⟨e,?_⟩
 exact ⟨.non,_,I.lset (its':=[]) (ys:=[]) hH e rfl .nil (Nat.zero_le _),rfl,q⟩
def Ax:R2:=fun x y H Q=>∃ l b xs zs,x=.ref l∧y=.ref b∧H l=some (.lst xs)∧H b=some (.lst zs)∧xs.length+zs.length≤sizeLine∧∀ p,H p=none→Q (.ref p) (upd H p (.lst (xs++zs)))
theorem By:OpR X (binaryOp .Add) Ax:=by
 intro pins s σ H x y v u Q I rx ry h
 obtain ⟨l,b,xs,zs,rfl,rfl,hH,hB,hz,q⟩:=h
 cases rx
 cases ry
 obtain ⟨z,its,n,r,hl,e⟩:=I.lstM hH
 obtain ⟨z2,its2,n2,r2,hl2,e2⟩:=I.lstM hB
 refine PySem.P.add_list e e2 ?_ (by rw [List.size_toArray,List.size_toArray];omega)
 have ea:its.toArray++its2.toArray=(its++its2).toArray:=by simp
 rw [ea]
 exact ⟨.ref _,_,I.lnew (t':=s.toks) (r.append r2) (by rw [List.length_append];omega),rfl,q _ I.fresh⟩
theorem qD {α:Type} (xs:List α) (k:Nat):(List.replicate k xs).flatten.length=k*xs.length:=by
 induction k with
 | zero=>simp
 | succ k ih=>rw [List.replicate_succ,List.flatten_cons,List.length_append,ih,Nat.succ_mul,Nat.add_comm]
end
section
variable {prog:Program} {w:World} {A:Around} {E:Value→Shared→Prop} {s:Shared}
set_option maxRecDepth 100000 in
end
section
variable {X:Cx}
end
end L2
namespace L2
open PySem PySem.Spec PyProof.Rows
section
variable {κ:Type} [DecidableEq κ]
def bY (kvs:List (κ×V)) (k:κ):Option V:=(kvs.find? fun kv=>decide (kv.1=k)).map (·.2)
def bW (kvs:List (κ×V)) (k:κ) (v:V):List (κ×V):=
 if (kvs.any fun kv=>decide (kv.1=k))=true then kvs.map (fun kv=>if kv.1=k then (kv.1,v) else kv) else kvs++[(k,v)]
theorem cQ {p:κ×V} {r:List (κ×V)} {k:κ} (e:p.1=k):bY (p::r) k=some p.2:=by simp [bY,List.find?_cons,e]
theorem cS {p:κ×V} {r:List (κ×V)} {k:κ} (e:¬ p.1=k):bY (p::r) k=bY r k:=by simp [bY,List.find?_cons,e]
theorem gn (k : κ) : ∀ kvs : List (κ × V), (kvs.any fun kv => decide (kv.1 = k)) = (bY kvs k).isSome
  | [] => rfl
  | p :: r => by
    rw [List.any_cons]
    by_cases e : p.1 = k
    · simp only [cQ e, decide_eq_true e, Bool.true_or, Option.isSome_some]
    · rw [cS e, decide_eq_false e, Bool.false_or]; exact gn k r
theorem qb (k j : κ) (y : V) : ∀ kvs : List (κ × V), bY (kvs.map fun kv => if kv.1 = k then (kv.1, y) else kv) j = (bY kvs j).map fun x => if j = k then y else x
  | [] => rfl
  | p :: r => by
    have ih := qb k j y r
    rw [List.map_cons]
    by_cases h : p.1 = k
    · rw [if_pos h]
      by_cases e : p.1 = j
      · rw [cQ (p := (p.1, y)) e, cQ e, Option.map_some, if_pos (e.symm.trans h)]
      · rw [cS (p := (p.1, y)) e, cS e, ih]
    · rw [if_neg h]
      by_cases e : p.1 = j
      · rw [cQ (p := p) e, cQ e, Option.map_some, if_neg (fun z => h (e.trans z))]
      · rw [cS (p := p) e, cS e, ih]
theorem mM (k j : κ) (y : V) : ∀ kvs : List (κ × V), bY kvs k = none → bY (kvs ++ [(k, y)]) j = if j = k then some y else bY kvs j
  | [], _ => by
    by_cases e : k = j
    · rw [if_pos e.symm]; exact cQ (p := (k, y)) e
    · rw [if_neg (fun z => e z.symm)]; exact cS (p := (k, y)) e
  | p :: r, hn => by
    rw [List.cons_append]
    have hk : ¬ p.1 = k := fun z => by rw [cQ z] at hn; cases hn
    rw [cS hk] at hn
    have ih := mM k j y r hn
    by_cases e : p.1 = j
    · rw [cQ e, cQ e, if_neg (fun z => hk (e.trans z))]
    · rw [cS e, cS e, ih]
theorem kR (kvs:List (κ×V)) (k j:κ) (y:V):bY (bW kvs k y) j=if j=k then some y else bY kvs j:=by
 unfold bW
 by_cases a:(kvs.any fun kv=>decide (kv.1=k))=true
 · rw [if_pos a,qb]
   rw [gn] at a
   by_cases e:j=k
   · obtain ⟨x,hx⟩:=Option.isSome_iff_exists.mp a
     rw [if_pos e,e,hx,Option.map_some,if_pos rfl]
   · rw [if_neg e]
     cases bY kvs j with
     | none=>rfl
     | some x=>rw [Option.map_some,if_neg e]
 · rw [if_neg a]
   refine mM k j y kvs ?_
   rw [gn] at a
   cases q:bY kvs k with
   | none=>rfl
   | some x=>rw [q] at a;exact (a rfl).elim
theorem fH (kvs:List (κ×V)) (k:κ) (v:V):(bW kvs k v).length≤kvs.length+1:=by
 unfold bW
 split
 · rw [List.length_map];omega
 · rw [List.length_append,List.length_cons,List.length_nil];omega
theorem vA {kvs:List (κ×V)} {k:κ} (v:V) (h:bY kvs k=none):bW kvs k v=kvs++[(k,v)]:=by
 unfold bW
 rw [gn,h]
 exact if_neg (by decide)
theorem cB.isSome_eq {o : Option V} {u : Option Value} (r : cB o u) : o.isSome = u.isSome := by
  cases o with
  | none => cases u with
    | none => rfl
    | some _ => exact (show False from r).elim
  | some _ => cases u with
    | none => exact (show False from r).elim
    | some _ => rfl
theorem KV.val {kvs : List (κ × V)} {vs : List (κ × Value)} (r : KV kvs vs) (k : κ) : cB (bY kvs k) (valueAt vs k) := by
  unfold KV at r
  induction r with
  | nil => exact True.intro
  | @cons p q ps qs h t ih =>
    obtain ⟨h1, h2⟩ := h
    by_cases e : p.1 = k
    · have e' : q.1 = k := h1.symm.trans e
      have b : valueAt (q :: qs) k = some q.2 := by simp [valueAt, List.find?_cons, e']
      rw [cQ e, b]; exact h2
    · have e' : ¬ q.1 = k := fun z => e (h1.trans z)
      have b : valueAt (q :: qs) k = valueAt qs k := by simp [valueAt, List.find?_cons, e']
      rw [cS e, b]; exact ih
theorem KV.any {kvs:List (κ×V)} {vs:List (κ×Value)} (r:KV kvs vs) (k:κ):(kvs.any fun kv=>decide (kv.1=k))=vs.any fun kv=>decide (kv.1=k):=by
 unfold KV at r
 induction r with
 | nil=>rfl
 | cons h t ih=>rw [List.any_cons,List.any_cons,ih,h.1]
theorem KV.repl {kvs : List (κ × V)} {vs : List (κ × Value)} (r : KV kvs vs) (k : κ) {y : V} {u : Value} (ry : aX y u) :
    KV (kvs.map fun kv => if kv.1 = k then (kv.1, y) else kv) (vs.map fun kv => if kv.1 = k then (kv.1, u) else kv) := by
  unfold KV at r ⊢
  induction r with
  | nil => exact .nil
  | @cons p q ps qs h t ih =>
    rw [List.map_cons, List.map_cons]
    refine .cons ?_ ih
    obtain ⟨h1, h2⟩ := h
    by_cases e : p.1 = k
    · rw [if_pos e, if_pos (h1.symm.trans e)]; exact ⟨h1, ry⟩
    · rw [if_neg e, if_neg (fun z => e (h1.trans z))]; exact ⟨h1, h2⟩
theorem KV.put {kvs:List (κ×V)} {vs:List (κ×Value)} (r:KV kvs vs) (k:κ) {y:V} {u:Value} (ry:aX y u):KV (bW kvs k y) (stored vs k u):=by
 unfold bW stored
 rw [r.any k]
 by_cases e:(vs.any fun kv=>decide (kv.1=k))=true
 · rw [if_pos e,if_pos e];exact r.repl k ry
 · rw [if_neg e,if_neg e];exact Paired.snoc r ⟨rfl,ry⟩
theorem KV.length {kvs:List (κ×V)} {vs:List (κ×Value)} (r:KV kvs vs):kvs.length=vs.length:=Paired.length r
end
theorem jL {P:Program} {w:World} {k:Key} {u:Value} (r:aX (kV k) u):(cj P w).is k u=true:=by
 cases k with
 | inl i=>obtain ⟨t,e⟩:=(show ∃ t,u=Value.int i t from r);subst e;exact qt P w i t
 | inr x=>obtain ⟨t,e⟩:=(show ∃ t,u=Value.str x t from r);subst e;exact qu P w x t
theorem ln {a b : Key} (e : kV a = kV b) : a = b := by
  cases a with
  | inl i => cases b with
    | inl j => have e' : V.int i = V.int j := e; injection e' with e'; rw [e']
    | inr y => exact nomatch (show V.int i = V.str y from e)
  | inr x => cases b with
    | inl j => exact nomatch (show V.str x = V.int j from e)
    | inr y => have e' : V.str x = V.str y := e; injection e' with e'; rw [e']
theorem re : ∀ {a b : List Key}, a.map kV = b.map kV → a = b
  | [], [], _ => rfl
  | [], _ :: _, e => by simp at e
  | _ :: _, [], e => by simp at e
  | x :: xs, y :: ys, e => by
    rw [List.map_cons, List.map_cons] at e
    injection e with e1 e2
    rw [ln e1, re e2]
theorem nE {P : Program} {w : World} : ∀ {ks : List Key} {us : List Value}, aS (ks.map kV) us → ItemsAre (cj P w) ks us
  | [], _, r => by rw [List.map_nil] at r; cases r; exact .nil
  | k :: ks, _, r => by
    rw [List.map_cons] at r
    cases r with
    | cons h t => exact .cons (jL h) (nE t)
abbrev KT (H:Hp):List (List Key×V)→List (List Key×Addr×Value)→Prop:=Paired fun p q=>p.1=q.1∧H q.2.1=some (.tup (p.1.map kV))∧aX p.2 q.2.2
theorem KT.val {H : Hp} {kvs : List (List Key × V)} {xs : List (List Key × Addr × Value)} (r : KT H kvs xs) (k : List Key) : cB (bY kvs k) ((atKey xs k).map (·.2)) := by
  induction r with
  | nil => exact True.intro
  | @cons p q ps qs h t ih =>
    obtain ⟨h1, _, h2⟩ := h
    by_cases e : p.1 = k
    · have e' : q.1 = k := h1.symm.trans e
      have b : atKey (q :: qs) k = some q.2 := by simp [atKey, List.find?_cons, e']
      rw [cQ e, b]; exact h2
    · have e' : ¬ q.1 = k := fun z => e (h1.trans z)
      have b : atKey (q :: qs) k = atKey qs k := by simp [atKey, List.find?_cons, e']
      rw [cS e, b]; exact ih
theorem KT.repl {H : Hp} {kvs : List (List Key × V)} {xs : List (List Key × Addr × Value)} (r : KT H kvs xs) (k : List Key) {y : V} {u : Value} (ry : aX y u) :
    KT H (kvs.map fun kv => if kv.1 = k then (kv.1, y) else kv) (xs.map (putAt k u)) := by
  induction r with
  | nil => exact .nil
  | @cons p q ps qs h t ih =>
    rw [List.map_cons, List.map_cons]
    refine .cons ?_ ih
    obtain ⟨h1, h2, h3⟩ := h
    unfold putAt
    by_cases e : p.1 = k
    · rw [if_pos e, if_pos (h1.symm.trans e)]; exact ⟨h1, h2, ry⟩
    · rw [if_neg e, if_neg (fun z => e (h1.trans z))]; exact ⟨h1, h2, h3⟩
theorem KT.put {H:Hp} {kvs:List (List Key×V)} {xs:List (List Key×Addr×Value)} (r:KT H kvs xs) (k:List Key) {b:Addr} {y:V} {u:Value} (hb:H b=some (.tup (k.map kV))) (ry:aX y u):
   KT H (bW kvs k y) (storedH xs k b u):=by
 have e:(kvs.any fun kv=>decide (kv.1=k))=(atKey xs k).isSome:=by
   rw [gn,(r.val k).isSome_eq,Option.isSome_map]
 unfold bW storedH
 rw [e]
 by_cases q:(atKey xs k).isSome=true
 · rw [if_pos q,if_pos q];exact r.repl k ry
 · rw [if_neg q,if_neg q];exact Paired.snoc r ⟨rfl,hb,ry⟩
theorem KT.keeps {H H':Hp} {kvs:List (List Key×V)} {xs:List (List Key×Addr×Value)} (r:KT H kvs xs) (ht:∀ b ys,H b=some (.tup ys)→H' b=some (.tup ys)):KT H' kvs xs:=
 Paired.mapP r fun _ _ z=>⟨z.1,ht _ _ z.2.1,z.2.2⟩
section
variable {P:Program} {w:World} {H:Hp} {h:Heap} {a:Addr}
theorem yx {u:HO} (ok:HOk P w H h) (e:Rd H a u):ba P w H h a u:=e.ok ok
theorem jR {kvs:List (Key×V)} (ok:HOk P w H h) (e:Rd H a (.dK kvs)):kvs.length≤sizeLine∧(a==sysModules)=false∧∃ vs,KV kvs vs∧h.DictOf (cj P w) a vs:=
 show ba P w H h a (.dK kvs) from yx ok e
theorem xS {kvs:List (Key×V)} (ok:HOk P w H h) (e:H a=some (.dK kvs)):kvs.length≤sizeLine∧(a==sysModules)=false∧∃ vs,KV kvs vs∧h.DictOf (cj P w) a vs:=jR ok (.inl e)
theorem ik {ks:List Key} (ok:HOk P w H h) (e:H a=some (.tup (ks.map kV))):(tupleKind (cj P w)).is h ks a:=by
 obtain ⟨_,its,r,o,h1,h2,n,h3⟩:=(show ba P w H h a (.tup (ks.map kV)) from ok a _ e)
 exact ⟨o,its.toArray,n,h1,h2,h3,by simpa using nE r⟩
theorem lR {kvs : List (List Key × V)} (ok : HOk P w H h) (e : Rd H a (.dT kvs)) : kvs.length ≤ sizeLine ∧ (a == sysModules) = false ∧
    ∃ xs, KT H kvs xs ∧ h.DictOfH (tupleKind (cj P w)) a xs := by
  obtain ⟨z, y, xs, r, o, es, ep, h1, h2, h3, h4, h5⟩ := (show ba P w H h a (.dT kvs) from yx ok e)
  refine ⟨z, y, xs, r, o, es, ep, h1, h2, h3, h4, fun x hx => ?_, h5⟩
  have all : ∀ {l : List (List Key × V)} {m : List (List Key × Addr × Value)}, KT H l m → ∀ x ∈ m, (tupleKind (cj P w)).is h x.1 x.2.1 := by
    intro l m q
    induction q with
    | nil => intro x hx; exact nomatch hx
    | @cons p q ps qs hq t ih =>
      intro x hx
      rcases List.mem_cons.mp hx with e | hx
      · subst e
        exact ik ok (by rw [← hq.1]; exact hq.2.1)
      · exact ih x hx
  exact all r x hx
theorem sJ {kvs:List (List Key×V)} (ok:HOk P w H h) (e:H a=some (.dT kvs)):kvs.length≤sizeLine∧(a==sysModules)=false∧
 ∃ xs,KT H kvs xs∧h.DictOfH (tupleKind (cj P w)) a xs:=lR ok (.inl e)
end
def fb (H:Hp) (a:Addr) (y:V) (r:Option V):Prop:=
 (∃ kvs k,Rd H a (.dK kvs)∧y=kV k∧r=bY kvs k)∨∃ kvs k b,Rd H a (.dT kvs)∧y=.ref b∧H b=some (.tup (k.map kV))∧r=bY kvs k
def vk (H:Hp) (a:Addr) (y v:V) (H':Hp):Prop:=
 (∃ kvs k,H a=some (.dK kvs)∧y=kV k∧kvs.length<sizeLine∧H'=upd H a (.dK (bW kvs k v)))∨
 ∃ kvs k b,H a=some (.dT kvs)∧y=.ref b∧H b=some (.tup (k.map kV))∧kvs.length<sizeLine∧H'=upd H a (.dT (bW kvs k v))
theorem fb.t {H:Hp} {a b:Addr} {kvs:List (List Key×V)} {k:List Key} (e:H a=some (.dT kvs)) (eb:H b=some (.tup (k.map kV))):fb H a (.ref b) (bY kvs k):=.inr ⟨kvs,k,b,.inl e,rfl,eb,rfl⟩
section
variable {X:Cx} {pins:List (Addr×Obj)} {σ:St} {H:Hp} {s:Shared} {a:Addr} {y v:V} {u r:Value} {o:Option V} {A:Around} {E:Value→Shared→Prop}
theorem Inv.big (I:Inv X pins σ H s):sysModules<s.heap.objs.size:=by
 have h:mainGlobals<s.heap.objs.size:=(I.mod.glob.keeps I.bk).lt
 exact Nat.lt_trans (by decide) h
theorem ug {Q:Value→Shared→Prop} (hu:A.units+1<cLine) (I:Inv X pins σ H s) (g:fb H a y (some v)) (ry:aX y u) (h:∀ w' s',Inv X pins σ H s'→aX v w'→Q w' s'):
   wpAny (model X.prog X.w) A (getItem (.ref a) u) Q E s:=by
 rcases g with ⟨kvs,k,e,ey,l⟩ | ⟨kvs,k,b,e,ey,eb,l⟩
 · subst ey
   obtain ⟨z,hd,vs,rel,dd⟩:=jR I.hok e
   obtain ⟨w',hw,rw'⟩:=cB.some_of (v:=v) (o:=valueAt vs k) (by rw [l];exact rel.val k)
   exact wpAny_getItem_of (jL ry) dd.mapOf hw (h w' _ (I.tok _) rw')
 · subst ey
   cases (show u=Value.ref b from ry)
   obtain ⟨z,hd,xs,rel,dd⟩:=lR I.hok e
   obtain ⟨w',hw,rw'⟩:=cB.some_of (v:=v) (o:=(atKey xs k).map (·.2)) (by rw [l];exact rel.val k)
   obtain ⟨p,hp,hp2⟩:=Option.map_eq_some_iff.mp hw
   refine wpAny_getItem_heap (tupleKind_room_in1 hu) (ik I.hok eb) dd hp ?_
   rw [hp2]
   exact h w' _ (I.tok _) rw'
theorem yO {Q:Value→Shared→Prop} (hu:A.units+1<cLine) (I:Inv X pins σ H s) (g:fb H a y o) (ry:aX y u) (h:∀ s',Inv X pins σ H s'→Q (.bool (!o.isSome)) s'):
   wpAny (model X.prog X.w) A (compareOp .NotIn u (.ref a)) Q E s:=by
 rcases g with ⟨kvs,k,e,ey,l⟩ | ⟨kvs,k,b,e,ey,eb,l⟩
 · subst ey
   obtain ⟨z,hd,vs,rel,dd⟩:=jR I.hok e
   refine wpAny_notIn_of (jL ry) hd dd.mapOf ?_
   rw [← (rel.val k).isSome_eq,←l]
   exact h _ (I.tok _)
 · subst ey
   cases (show u=Value.ref b from ry)
   obtain ⟨z,hd,xs,rel,dd⟩:=lR I.hok e
   refine wpAny_notIn_heap (tupleKind_room_in1 hu) (ik I.hok eb) hd dd ?_
   have q:=(rel.val k).isSome_eq
   rw [Option.isSome_map] at q
   rw [← q,←l]
   exact h _ (I.tok _)
theorem jO {h':Heap} {t':Nat} {ob:HO} (I:Inv X pins σ H s) (mu:Mut (H a)) (hs:Heap.SameBut a s.heap h') (he:∃ q,h'.get? a=some q) (new:ba X.prog X.w (upd H a ob) h' a ob):
  Inv X pins σ (upd H a ob) { s with heap:=h',toks:=t' }:=
 I.write (x:=a) (e:=a) mu (.inl rfl) (fun b q hb z=>(hs.2 b hb).trans z) he new
theorem uE {P:Program} {w:World} {H':Hp} {h':Heap} {kvs:List (Key×V)} {vs:List (Key×Value)} (z:kvs.length≤sizeLine) (hd:(a==sysModules)=false) (rel:KV kvs vs) (dd:h'.DictOf (cj P w) a vs):
 ba P w H' h' a (.dK kvs):=⟨z,hd,vs,rel,dd⟩
theorem um {H':Hp} {Q:Unit→Shared→Prop} (hu:A.units+1<cLine) (I:Inv X pins σ H s) (g:vk H a y v H') (ry:aX y u) (rv:aX v r) (h:∀ s',Inv X pins σ H' s'→Q () s'):
   wpAny (model X.prog X.w) A (setItem (.ref a) u r) Q E s:=by
 rcases g with ⟨kvs,k,e,ey,l,eH⟩ | ⟨kvs,k,b,e,ey,eb,l,eH⟩
 · subst ey eH
   obtain ⟨z,hd,vs,rel,dd⟩:=xS I.hok e
   have hz:vs.length≤sizeLine:=by rw [← rel.length];exact z
   have hl:(bW kvs k v).length≤sizeLine:=by have:=fH kvs k v;omega
   refine wpAny_setItem_pairs (hsz:=hz) (jL ry) dd fun h' dd' hs=>h _ ?_
   have he:∃ q,h'.get? a=some q:=let ⟨q,_,_,hq,_⟩:=dd';⟨q,hq⟩
   exact jO I (by rw [e];exact True.intro) hs he (uE hl hd (rel.put k rv) dd')
 · subst ey eH
   cases (show u=Value.ref b from ry)
   obtain ⟨z,hd,xs,rel,dd⟩:=sJ I.hok e
   have hz:xs.length≤sizeLine:=by rw [← Paired.length rel];exact z
   have hl:(bW kvs k v).length≤sizeLine:=by have:=fH kvs k v;omega
   refine wpAny_setItem_heap (hsz:=hz) (tupleKind_room_in1 hu) (ik I.hok eb) dd fun h' dd' hs=>h _ ?_
   obtain ⟨q,es,ep,hq,h2,h3,h4,_,h5⟩:=dd'
   refine jO I (by rw [e];exact True.intro) hs ⟨q,hq⟩ ⟨hl,hd,_,(rel.put k eb rv).keeps fun c ys ec=>?_,q,es,ep,hq,h2,h3,h4,h5⟩
   rw [aq (bH ec e (fun z=>nomatch z))]
   exact ec
end
section
variable {X:Cx} {pins:List (Addr×Obj)} {σ:St} {H:Hp} {s:Shared} {a:Addr} {kvs:List (Key×V)} {k:Key} {u:Value} {A:Around} {E:Value→Shared→Prop}
theorem GF {Q:Value→Shared→Prop} (I:Inv X pins σ H s) (e:Rd H a (.dK kvs)) (h:∀ t s',Inv X pins σ H s'→Q (.int kvs.length t) s'):wpAny (model X.prog X.w) A (call (.builtin "len") [.ref a]) Q E s:=by
 obtain ⟨z,hd,vs,rel,dd⟩:=jR I.hok e
 refine call_len_dict hd dd (by rw [← rel.length];rw [sizeLine_eq] at z;omega) ?_
 rw [← rel.length]
 exact h _ _ (I.tok _)
end
theorem qp {X:Cx} {pins:List (Addr×Obj)} {σ:St} {H:Hp} {s:Shared} {a:Addr} {y:V} {o:Option V} (I:Inv X pins σ H s) (g:fb H a y o):s.TypeIs (.ref a) "dict" :=by
 rcases g with ⟨kvs,k,e,_,_⟩ | ⟨kvs,k,b,e,_,_,_⟩
 · obtain ⟨_,_,vs,_,dd⟩:=jR I.hok e
   exact dd.typeIs
 · obtain ⟨_,_,xs,_,dd⟩:=lR I.hok e
   exact dd.typeIs
section
variable {X:Cx} {o i e value:Expr} {pos pos' tpos:Pos} {td ty tv:TE}
end
theorem vq {P:Program} {w:World} {H:Hp} (h:Heap) (hb:sysModules<h.objs.size):ba P w H (h.push { cls:=.type "dict",data:=.dict #[] }) h.objs.size (.dK []):=
 ⟨Nat.zero_le _,beq_eq_false_iff_ne.mpr (Ne.symm (Nat.ne_of_lt hb)),[],.nil,Heap.DictOf.new h⟩
theorem vY {P:Program} {w:World} {H:Hp} (h:Heap) (hb:sysModules<h.objs.size):ba P w H (h.push { cls:=.type "dict",data:=.dict #[] }) h.objs.size (.dT []):=
 ⟨Nat.zero_le _,beq_eq_false_iff_ne.mpr (Ne.symm (Nat.ne_of_lt hb)),[],.nil,_,#[],0,Heap.get?_push_size _ rfl,⟨rfl,rfl,rfl⟩,rfl,rfl,List.nodup_nil⟩
def ui:TE:=fun _ H Q=>∀ p,H p=none→Q (.ref p) (upd H p (.dK []))
def tR:TE:=fun _ H Q=>∀ p,H p=none→Q (.ref p) (upd H p (.dT []))
section
variable {X:Cx} {pos:Pos}
theorem wM:PE X (.Dict [] [] pos) ui:=fun pins s σ H Q I h=>
 wpAny_Dict_empty ⟨.ref s.heap.objs.size,_,I.laid (a:=s.heap.objs.size) (o:=.dK []) (t':=s.toks) (fun _ _ q=>Heap.get?_push_of_some _ q) (Nat.le_refl _) (vq s.heap I.big),rfl,h _ (I.hok.fresh (Nat.le_refl _))⟩
theorem vP:PE X (.Dict [] [] pos) tR:=fun pins s σ H Q I h=>
 wpAny_Dict_empty ⟨.ref s.heap.objs.size,_,I.laid (a:=s.heap.objs.size) (o:=.dT []) (t':=s.toks) (fun _ _ q=>Heap.get?_push_of_some _ q) (Nat.le_refl _) (vY s.heap I.big),rfl,h _ (I.hok.fresh (Nat.le_refl _))⟩
end
section
variable {X:Cx} {pins:List (Addr×Obj)} {σ:St} {H:Hp} {s:Shared} {a:Addr} {y d:V} {u r:Value} {o:Option V} {A:Around} {E:Value→Shared→Prop}
end
section
variable {X:Cx} {o e f:Expr} {apos cpos:Pos} {td ty tx:TE}
end
section
variable {X:Cx} {pins:List (Addr×Obj)} {σ:St} {H:Hp} {s:Shared} {a:Addr} {kvs:List (Key×V)} {A:Around} {E:Value→Shared→Prop}
end
section
variable {X:Cx} {pins:List (Addr×Obj)} {σ:St} {H:Hp} {s:Shared} {a:Addr} {y:V} {u:Value} {A:Around} {E:Value→Shared→Prop}
end
end L2
namespace Att
open PySem PySem.W PySem.Calls PyProof.Rows
theorem ints_of_wellAll {P : Params} {h : Heap} : ∀ (ns : List Int) (vs : List Value), WellAll P h vs (ns.map WData.int) → IntsAre vs ns := by
  intro ns
  induction ns with
  | nil =>
    intro vs w
    rw [List.map_nil] at w
    cases w
    exact .nil
  | cons n ns ih =>
    intro vs w
    rw [List.map_cons] at w
    cases w with
    | cons a b =>
      cases a
      exact .cons _ _ (ih _ b)
theorem script_of {l : OpenLaw} {n : Nat} (hn : l.most = some n) {P : Params} {h : Heap} {args : List WData} {vals : List Value}
    (hpre : l.row.toRowW.claim.pre args = true) (hwl : WellAll P h vals args) :
    ∃ a vs ns, vals = [Value.ref a] ∧ args = [WData.list (ns.map WData.int)] ∧ h.get? a = some { cls := .type "list", data := .seq vs.toArray } ∧ IntsAre vs ns ∧ ns.length ≤ n := by
  have hsh : WShape.hasAll [] args [.list .int] = true := (pre_splitW hpre).1
  have hc : l.pre.holds [] { args := args } = true := (pre_splitW hpre).2
  obtain ⟨d, r, rfl, h1, h2⟩ := hasAllW_cons hsh
  obtain rfl := hasAllW_nil h2
  obtain ⟨xs, rfl, h3⟩ := hasW_list h1
  obtain ⟨ns, rfl⟩ := items_int h3
  have hlen : ns.length ≤ n := by
    unfold OpenLaw.pre at hc
    have h4 : (WTm.not (.lt (.lit (.int (n : Int))) (.len (.arg 0)))).holds [] { args := [.list (ns.map .int)] } = true := by
      have h4 := (holds_andW hc).1
      rw [hn] at h4
      exact h4
    have h5 := condW_of h4 (w_not (w_lt w_lit (w_len_list (w_arg rfl))))
    rw [List.length_map] at h5
    refine Nat.le_of_not_lt fun q => ?_
    have q' : (n : Int) < ((ns.length : Nat) : Int) := by omega
    first
      | (rw [decide_eq_true q'] at h5; exact absurd h5 (by decide))
      | (simp at h5; omega)
  cases hwl with
  | cons w1 w2 =>
    cases w2
    cases w1 with
    | list ho hall => exact ⟨_, _, ns, rfl, rfl, ho, ints_of_wellAll ns _ hall, hlen⟩
theorem post_true (l:OpenLaw) (args:List WData):l.row.toRowW.claim.post args (.bool true) args=true:=
 postW_of (r:=l.row.toRowW) (X:=(true==true))
  (show WShape.has [] (.bool true) .bool=true by first | rfl | decide | simp [WShape.has,WShape.arms,WShape.armsAll])
  (show (WTm.eq .res (.lit (.bool true))).value [] { args:=args,res:=some (.bool true),after:=args }=some (.bool (true==true)) from w_eq_bool (w_res rfl) w_lit) rfl
theorem attach_call {l : OpenLaw} {n : Nat} {q : Program} {loose : List Str} {XP : (Str → Option Value) → Heap → Prop} {YP : World → Heap → Prop} {d : DefRec}
  (hn : l.most = some n) (hdf : d.params.defaults = [])
  (call : ∀ (w : World) (s₀ s₁ : Shared) (mg mb : Str → Option Value) (fa : Addr) (o : Obj) (pm cd doc : Value) (a : Addr) (vs : List Value) (ns : List Int),
   Ground q loose [] XP w s₀ mg mb s₁.heap → YP w s₁.heap →
   s₁.heap.get? fa = some o → o.data = .func (docDef d.name d.params d.body d.scope pm cd doc) → s₁.heap.CodeRec cd d.name → mg d.name = some (.ref fa) →
   s₁.heap.get? a = some { cls := .type "list", data := .seq vs.toArray } → IntsAre vs ns → ns.length ≤ n → s₁.gens = #[] →
   codeAny (model l.prog w) callerA (.call (.ref fa) ⟨[.ref a], []⟩) (fun r s' => r = .ok (.ret (.bool true)) ∧ OldK s₁.heap s'.heap ∧ s'.os = s₁.os ∧ AllBare s'.gens) s₁) :
  WalkO q loose XP YP l.row.toRowW d [] (fun f vs => PySem.call f vs) := by
 intro w s₀ s₁ mg mb G Y fa o pm cd doc dV kV ho hd hcd hD hmg hg args vals as hpre hlay hrd hwl hlo
 obtain rfl : dV = .none := Dflts.none hD hdf
 obtain rfl : kV = .none := Dflts.noKw hD
 obtain ⟨a, vs, ns, rfl, rfl, hobj, hints, hlen⟩ := script_of hn hpre hwl
 refine enter_call (codeAny_mono (call w s₀ s₁ mg mb fa o pm cd doc a vs ns G Y ho (fd_plain hd) hcd hmg hobj hints hlen hg) fun r s' hq => ?_)
 obtain ⟨rfl, h2, h3, h4⟩ := hq
 exact ⟨.inl ⟨.bool true, .bool true, [], rfl, fun _ => rfl, .bool true, post_true l _, fun _ => ⟨List.Pairwise.nil, fun _ hm => (nomatch hm)⟩⟩, h2, h3, h4⟩
section
variable {prog:Program} {w:World} {A:Around} {E:Value→Shared→Prop} {s:Shared} {K:Frag}
end
end Att
namespace L2
open PySem PySem.Spec PyProof.Rows
theorem nl:∀ {vs:List Value} {ns:List Int},IntsAre vs ns→aS (ns.map V.int) vs
 | _,_,.nil=> .nil
 | _,_,.cons n t h=> .cons ⟨t,rfl⟩ (nl h)
end L2
namespace L2
open PySem PySem.Spec PyProof.Rows
end L2
namespace L2
open PySem PySem.Spec PyProof.Rows
def bF (s:Stmt):Arguments:=match s with
 | .FunctionDef _ a _ _ _ _ _ _ _ _=>a
 | _=>{ posonlyargs:=[],args:=[],vararg:=none,kwonlyargs:=[],kw_defaults:=[],kwarg:=none,defaults:=[] }
def aQ (s:Stmt):List Stmt:=match s with
 | .FunctionDef _ _ b _ _ _ _ _ _ _=>b
 | _=>[]
def am (s:Stmt):Scope:=match s with
 | .FunctionDef _ _ _ _ _ _ sc _ _ _=>sc
 | _=>{ kind:=.function,names:=[],isGenerator:=false,isCoroutine:=false }
abbrev E0:XK:=fun _ _ _=>False
structure Fun (K:W.Frag) (x qual:Str) (st:Stmt) (f:Addr) (fd:FuncData):Prop where
 ex:∃ (oc:Value) (od:Option Addr) (kV doc pm:Value) (an:Option Addr) (cdv ct:Value) (osl:Array (Option Value)),
  fd=W.fnOf x qual (bF st) (aQ st) (am st) .none kV doc pm an cdv ct∧K.lookup f=some ⟨oc,od,.func fd,osl⟩∧W.codeIn K cdv qual=true
 kp:W.keepIn K (.ref f)=true
section
variable {P:Program} {w:World} {K:W.Frag} {mg:Str→Option Value} {base:Heap}
theorem Fun.binds {x qual:Str} {st:Stmt} {f:Addr} {fd:FuncData} {ps:List Str} (F:Fun K x qual st f fd)
  (h:∀ (kV doc pm:Value) (an:Option Addr) (cdv ct:Value) (us:List Value),us.length=ps.length→bindArgs (W.fnOf x qual (bF st) (aQ st) (am st) .none kV doc pm an cdv ct) ⟨us,[]⟩=pure (ps.zip us)):bA K fd ps []:=by
 obtain ⟨oc,od,kV,doc,pm,an,cdv,ct,osl,rfl,lk,hcd⟩:=F.ex
 exact .all (h kV doc pm an cdv ct)
theorem dm {x qual:Str} {st:Stmt} {f:Addr} {oc:Value} {od an:Option Addr} {osl:Array (Option Value)} {kV doc pm cdv ct:Value} (l:K.lookup f=some ⟨oc,od,.func (W.fnOf x qual (bF st) (aQ st) (am st) .none kV doc pm an cdv ct),osl⟩)
 (c:W.codeIn K cdv qual=true) (k:W.keepIn K (.ref f)=true):Fun K x qual st f (W.fnOf x qual (bF st) (aQ st) (am st) .none kV doc pm an cdv ct):=⟨⟨oc,od,kV,doc,pm,an,cdv,ct,osl,rfl,l,c⟩,k⟩
end
theorem bR {n:Nat} (h:n≤1000):n<sizeLine:=Nat.lt_of_le_of_lt h (by decide)
section
variable {X:Cx}
theorem tY:bB X (.builtin "len") (fun xs H Q=>∃ a kvs,xs=[V.ref a]∧H a=some (.dK kvs)∧Q (.int kvs.length) H):=by
 intro pins s σ H xs us Q I r h
 obtain ⟨a,kvs,rfl,ha,q⟩:=h
 obtain ⟨u,rfl,ru⟩:=fD r
 cases ru
 exact GF I (.inl ha) fun t s' I'=>⟨.int kvs.length,H,I',⟨t,rfl⟩,q⟩
end
theorem iB {A B:Prop} (h:A):if true=true then A else B:=by
 rw [if_pos rfl]
 exact h
def ao (H H':Hp):Prop:=∀ b o,H b=some o→H' b=some o
theorem ao.refl (H:Hp):ao H H:=fun _ _ h=>h
theorem ao.trans {H H1 H2:Hp} (a:ao H H1) (b:ao H1 H2):ao H H2:=fun c o h=>b c o (a c o h)
theorem ao.free {H H' : Hp} (e : ao H H') {l : Addr} (h : H' l = Option.none) : H l = Option.none := by
  cases q : H l with
  | none => rfl
  | some o =>
    rw [e l o q] at h
    cases h
theorem ao.seq {K:W.Frag} {H H':Hp} {a:Addr} {xs:List V} (e:ao H H') (h:SqL K H a xs):SqL K H' a xs:=by
 rcases h with (h | ⟨o,h⟩) | h
 · exact .inl (.inl (e _ _ h))
 · exact .inl (.inr ⟨o,e _ _ h⟩)
 · exact .inr h
section
variable {κ:Type} [DecidableEq κ]
end
end L2
namespace L2
open PySem PySem.Spec PyProof.Rows
def dw:List (Str×NameKind)→List (Str×Addr)→List (Str×Addr)→List (Str×Addr)
 | [],_,cs=>cs
 | (n,k)::r,cells,cs=>dw r cells (if k==.free then (match cells.lookup n with | some a=>(n,a)::cs | none=>cs) else cs)
theorem oX {scope : Scope} {env : Env} (h : ∀ y ∈ scope.names, y.2 = .free → (env.cells.lookup y.1).isSome = true) : closureFor scope env = pure (dw scope.names env.cells []) := by
  have key : ∀ (l : List (Str × NameKind)) (cs : List (Str × Addr)), (∀ y ∈ l, y.2 = .free → (env.cells.lookup y.1).isSome = true) →
      (forIn l cs (fun (x : Str × NameKind) (cs : List (Str × Addr)) => (if (x.2 == NameKind.free) = true then (do let a ← cellOf env x.1; pure (ForInStep.yield ((x.1, a) :: cs))) else (pure (ForInStep.yield cs) : Sem _))) : Sem (List (Str × Addr))) = pure (dw l env.cells cs) := by
    intro l
    induction l with
    | nil => intro cs _; rfl
    | cons y r ih =>
      intro cs hy
      obtain ⟨n, k⟩ := y
      rw [List.forIn_cons]
      by_cases hk : k = .free
      · subst hk
        have hs := hy (n, .free) List.mem_cons_self rfl
        cases e : env.cells.lookup n with
        | none => rw [e] at hs; cases hs
        | some a =>
          have := ih ((n, a) :: cs) (fun z hz => hy z (List.mem_cons_of_mem _ hz))
          simp only [dw, beq_self_eq_true, if_true, e, cellOf, pure_bind]
          exact this
      · have hb : (k == NameKind.free) = false := by simpa using hk
        have := ih cs (fun z hz => hy z (List.mem_cons_of_mem _ hz))
        simp only [dw, hb, Bool.false_eq_true, if_false, pure_bind]
        exact this
  have := key scope.names [] h
  unfold closureFor
  simpa using this
theorem ng : ∀ {l : List (Str × NameKind)} {cells cs : List (Str × Addr)} {x : Str} {c : Addr}, (∀ x c, cs.lookup x = some c → cells.lookup x = some c) → (dw l cells cs).lookup x = some c → cells.lookup x = some c
  | [], _, _, _, _, h, e => h _ _ e
  | (n, k) :: r, cells, cs, x, c, h, e => by
    refine ng (l := r) (fun y d hy => ?_) e
    split at hy
    · split at hy
      · rename_i a ha
        by_cases hyn : y = n
        · subst hyn
          rw [List.lookup_cons_self] at hy
          rw [← hy]; exact ha
        · rw [List.lookup_cons] at hy
          have : (y == n) = false := by simpa using hyn
          rw [this] at hy
          exact h _ _ hy
      · exact h _ _ hy
    · exact h _ _ hy
theorem lx : ∀ {l : List (Str × NameKind)} {cells cs : List (Str × Addr)} {x : Str}, (cs.lookup x).isSome = true → ((dw l cells cs).lookup x).isSome = true
  | [], _, _, _, h => h
  | (n, k) :: r, cells, cs, x, h => by
    refine lx (l := r) ?_
    split
    · split
      · rw [List.lookup_cons]
        split
        · rfl
        · exact h
      · exact h
    · exact h
theorem jD : ∀ {l : List (Str × NameKind)} {cells cs : List (Str × Addr)} {x : Str}, (x, NameKind.free) ∈ l → (cells.lookup x).isSome = true → ((dw l cells cs).lookup x).isSome = true
  | [], _, _, _, h, _ => by cases h
  | (n, k) :: r, cells, cs, x, h, hs => by
    rcases List.mem_cons.mp h with e | h
    · cases e
      refine lx (l := r) ?_
      simp only [beq_self_eq_true, if_true]
      cases e : cells.lookup n with
      | none => rw [e] at hs; cases hs
      | some a => simp only [List.lookup_cons_self]; rfl
    · exact jD (l := r) h hs
theorem lS {x:Str} {k:NameKind}:∀ {l:List (Str×NameKind)},l.lookup x=some k→(x,k)∈l:=fun h=>PySem.mem_of_lookup h
inductive fO (X:Cx) (scope:Scope):List Str→List Nat→Prop where
 | nil:fO X scope [] []
 | cons {y:Str} {i:Nat} {ys:List Str} {is:List Nat} (h1:X.N[i]?=some y) (h2:X.env.kindOf y=some .cell∨X.env.kindOf y=some .free) (h3:scope.names.lookup y=some .free) (h:fO X scope ys is):fO X scope (y::ys) (i::is)
structure eK (scope:Scope) (x:Str) (ys:List Str):Prop where
 kind:scope.kind=.function
 nocell:∀ y∈scope.names,y.2≠ .cell
 names:∀ y∈scope.names,y.2=.local→scope.names.lookup y.1=some .local
 own:scope.names.lookup x=some .local
 all:∀ y∈scope.names,y.2=.free→y.1∈ys
 nd:(x::ys).Nodup
def bw (X:Cx) (scope:Scope) (C:Addr) (N:List Str) (s:Shared) (H:Hp) (fp:List Addr):Cx:=
 { X with N:=N,s₀:=s,H₀:=H,env:=compEnvC scope (dw scope.names X.env.cells []) C X.env,outer:=X.stack,ex:=fp,fn:=fun _=>false,pn:=[],xe:=fun _ _=>False }
def bG (σ:St) (is:List Nat):St:=is.map fun i=>(σ[i]?).getD none
theorem hV {f : Str × NameKind → Str × NameKind} (hf : ∀ p, (f p).1 = p.1) {x : Str} : ∀ (l : List (Str × NameKind)), (l.map f).lookup x = (l.lookup x).map fun k => (f (x, k)).2
  | [] => rfl
  | (n, k) :: r => by
    have ih := hV hf (x := x) r
    have e : f (n, k) = (n, (f (n, k)).2) := Prod.ext (hf (n, k)) rfl
    rw [List.map_cons, e, List.lookup_cons, List.lookup_cons]
    cases hx : x == n with
    | true =>
      have e' : x = n := by simpa using hx
      subst e'; rfl
    | false => exact ih
theorem iX (scope:Scope) (env:Env) (x:Str):(relabel scope env).names.lookup x=(scope.names.lookup x).map fun k=>if (k==NameKind.free&&env.scope.kind==.function&&env.kindOf x==some .cell) then NameKind.cell else k:=by
 have hf:∀ p:Str×NameKind,((fun (n,k)=>if (k==NameKind.free&&env.scope.kind==.function&&env.kindOf n==some .cell) then (n,NameKind.cell) else (n,k)) p:Str×NameKind).1=p.1:=by
  intro p
  obtain ⟨n,k⟩:=p
  show (if _ then (n,NameKind.cell) else (n,k)).1=n
  split <;> rfl
 have:=hV hf (x:=x) scope.names
 show List.lookup x (List.map _ scope.names)=_
 rw [this]
 congr 1
 funext k
 show (if _ then (x,NameKind.cell) else (x,k)).2=_
 split <;> rfl
theorem iw {scope : Scope} {env : Env} {x : Str} {k : NameKind} (nc : ∀ y ∈ scope.names, y.2 ≠ .cell) (h : (relabel scope env).names.lookup x = some k) (hk : k = .cell ∨ k = .free) : (x, NameKind.free) ∈ scope.names := by
  rw [iX] at h
  cases q : scope.names.lookup x with
  | none => rw [q] at h; cases h
  | some k' =>
    have hm := lS q
    rw [q] at h
    have h : (if (k' == NameKind.free && env.scope.kind == .function && env.kindOf x == some .cell) then NameKind.cell else k') = k := Option.some.inj h
    by_cases hc : k' = .free
    · subst hc; exact hm
    · have hb : (k' == NameKind.free) = false := by simpa using hc
      rw [hb] at h
      have h : k' = k := h
      subst h
      rcases hk with z | z
      · exact absurd z (nc _ hm)
      · exact absurd z hc
theorem pM {scope:Scope} {env:Env} {x:Str} (h:scope.names.lookup x=some .free):(relabel scope env).names.lookup x=some .cell∨(relabel scope env).names.lookup x=some .free:=by
 rw [iX,h]
 show some (if _ then _ else _)=_∨some (if _ then _ else _)=_
 split
 · exact .inl rfl
 · exact .inr rfl
theorem nN {scope:Scope} {env:Env} {x:Str} (h:scope.names.lookup x=some .local):(relabel scope env).names.lookup x=some .local:=by
 rw [iX,h];rfl
theorem ua {X : Cx} {scope : Scope} {ys : List Str} {is : List Nat} {m : Str → Option Value} {h : Heap} {σ : St} (hc : fO X scope ys is)
    (hl : ∀ (i : Nat) (x : Str) (v : V), X.N[i]? = some x → σ[i]? = some (some v) → Vis X.env.scope x → ∃ u, aX v u ∧ BN X.env h m x u) (nd : True) :
    ∀ (j : Nat) (y : Str) (v : V), ys[j]? = some y → (bG σ is)[j]? = some (some v) → ∃ u, aX v u ∧ scope.names.lookup y = some .free ∧ ∃ c, X.env.cells.lookup y = some c ∧ h.IsCell c (some u) := by
  induction hc with
  | nil => intro j y v e; simp at e
  | @cons z i zs js h1 h2 h3 hr ih =>
    intro j y v e1 e2
    cases j with
    | zero =>
      simp at e1; subst e1
      have e2 : (σ[i]?).getD none = some v := by simpa [bG] using e2
      have e3 : σ[i]? = some (some v) := by
        cases q : σ[i]? with
        | none => rw [q] at e2; simp at e2
        | some o => rw [q] at e2; simp at e2; rw [e2]
      have hv : Vis X.env.scope z := by
        rcases h2 with q | q
        · exact .inr (.inl q)
        · exact .inr (.inr q)
      obtain ⟨u, r, l⟩ := hl i z v h1 e3 hv
      refine ⟨u, r, h3, ?_⟩
      rcases l with ⟨k, _⟩ | ⟨_, c, e, ic⟩
      · rcases h2 with q | q
        · rw [q] at k; cases k
        · rw [q] at k; cases k
      · exact ⟨c, e, ic⟩
    | succ j =>
      exact ih j y v (by simpa using e1) (by simpa [bG] using e2)
end L2
namespace L2
open PySem PySem.Spec PyProof.Rows
def xW (is:List Nat) (tc:TT) (te:TE) (σ:St) (D:Addr) (J:It) (H1:Hp) (Q:VK):Prop:=∃ W:Nat→Nat→List V→Hp→Prop,(∃ m,W 0 m [] (upd H1 D (.lst [])))∧
 ∀ i m ys H2,W i m ys H2→(J.stop i H2∧Q (.ref D) H2)∨(J.go i H2∧∀ x H3,J.yld i H2 x H3→tc (some x::bG σ is) H3 fun b H4=>if b=true then
  te (some x::bG σ is) H4 fun y H5=>H5 D=some (.lst ys)∧ys.length<sizeLine∧∃ m',m'<m∧W (i+1) m' (ys++[y]) (upd H5 D (.lst (ys++[y])))
  else ∃ m',m'<m∧W (i+1) m' ys H4)
def dJ (is:List Nat) (wi:TI) (tc:TT) (te:TE):TE:=fun σ H Q=>wi σ H fun J H1=>∀ D,H1 D=none→xW is tc te σ D J H1 Q
theorem qk (elt target iter c : Expr) (scope : Scope) (pos : Pos) (it acc : Value) (env : Env) :
    compTurn (.ListComp elt [⟨target, iter, [c], 0⟩] scope pos) 0 it acc env = (standAt iter.pos >>= fun _ => pyNext it >>= fun r => match r with
      | none => pure (.done .next)
      | some v => letOwnedTupleGo target it v >>= fun _ => assign target env v >>= fun _ => isTrue c env (eval c env) >>= fun ok =>
        (if ok = true then (eval elt env >>= fun x => call (.builtin "list.append") [acc, x] >>= fun _ => pure ()) else pure ()) >>= fun _ =>
          again (.compLoop (.ListComp elt [⟨target, iter, [c], 0⟩] scope pos) 0 it acc env)) := by
  unfold compTurn
  simp only [List.forIn_cons, List.forIn_nil, List.getElem?_cons_zero, List.getElem?_cons_succ, List.getElem?_nil, bind_assoc, pure_bind, bne_self_eq_false, Bool.false_eq_true, if_false, if_true]
  congr 1
  funext _
  congr 1
  funext r
  cases r with
  | none => rfl
  | some v =>
    simp only [bind_assoc, pure_bind, if_true]
    congr 1; funext _
    congr 1; funext _
    congr 1; funext b
    cases b <;> simp
section
variable {prog:Program} {w:World} {A:Around} {R:Result→Shared→Prop} {s:Shared}
theorem jh {elt target iter c : Expr} {scope : Scope} {pos : Pos} {it acc : Value} {env : Env} (I : Nat → Shared → Prop)
    (turn : ∀ n s, I n s → wpAny (model prog w) A (pyNext it) (fun r s₁ => match r with
      | none => R (.ok .next) s₁
      | some v => wpAny (model prog w) A (letOwnedTupleGo target it v) (fun _ s₁ => wpAny (model prog w) A (assign target env v) (fun _ s₂ => wpAny (model prog w) A (isTrue c env (eval c env)) (fun ok s₂ => if ok = true then wpAny (model prog w) A (eval elt env) (fun x s₃ =>
          wpAny (model prog w) A (call (.builtin "list.append") [acc, x]) (fun _ s₄ => ∃ m, m < n ∧ I m s₄) (notedBy (model prog w) A env fun e s' => R (.error e) s') s₃)
          (notedBy (model prog w) A env fun e s' => R (.error e) s') s₂ else ∃ m, m < n ∧ I m s₂) (notedBy (model prog w) A env fun e s' => R (.error e) s') s₂) (notedBy (model prog w) A env fun e s' => R (.error e) s') s₁) (notedBy (model prog w) A env fun e s' => R (.error e) s') s₁) (notedBy (model prog w) A env fun e s' => R (.error e) s') s)
    (n : Nat) (h : I n s) :
    codeAny (model prog w) A (.compLoop (.ListComp elt [⟨target, iter, [c], 0⟩] scope pos) 0 it acc env) R s := by
  refine codeAny_loop rfl I (fun n s hI => ?_) n h
  show wpAny _ _ ((compTurn (.ListComp elt [⟨target, iter, [c], 0⟩] scope pos) 0 it acc env).onRaise (fun x => do noteFrame x env; theTreesLotGoes x)) _ _ s
  refine wpAny_noted ?_
  rw [qk]
  refine wpAny_bind (wpAny_standAt (wpAny_bind (wpAny_mono (turn n s hI) (fun r s₁ h₁ => ?_) fun _ _ h' => h')))
  cases r with
  | none => exact wpAny_pure h₁
  | some v =>
    refine wpAny_bind (wpAny_mono h₁ (fun _ s₁ h₁ => wpAny_bind (wpAny_mono h₁ (fun _ s₂ h₂ => wpAny_bind (wpAny_mono h₂ (fun ok s₃ h₃ => ?_) fun _ _ h' => h')) fun _ _ h' => h')) fun _ _ h' => h')
    cases ok with
    | true =>
      rw [if_pos rfl] at h₃
      simp only [if_true]
      exact wpAny_bind (wpAny_bind (wpAny_mono h₃ (fun x s₃ h₃ => wpAny_bind (wpAny_mono h₃ (fun _ s₄ h₄ => wpAny_pure (wpAny_pure ⟨rfl, h₄⟩)) fun _ _ h' => h')) fun _ _ h' => h'))
    | false =>
      rw [if_neg Bool.false_ne_true] at h₃
      simp only [Bool.false_eq_true, if_false]
      exact wpAny_bind (wpAny_pure (wpAny_pure ⟨rfl, h₃⟩))
theorem jj {elt target iter : Expr} {scope : Scope} {pos : Pos} {it acc : Value} {env : Env} (I : Nat → Shared → Prop)
    (turn : ∀ n s, I n s → wpAny (model prog w) A (pyNext it) (fun r s₁ => match r with
      | none => R (.ok .next) s₁
      | some v => wpAny (model prog w) A (letOwnedTupleGo target it v) (fun _ s₁ => wpAny (model prog w) A (assign target env v) (fun _ s₂ => wpAny (model prog w) A (eval elt env) (fun x s₃ =>
          wpAny (model prog w) A (call (.builtin "list.append") [acc, x]) (fun _ s₄ => ∃ m, m < n ∧ I m s₄) (notedBy (model prog w) A env fun e s' => R (.error e) s') s₃)
          (notedBy (model prog w) A env fun e s' => R (.error e) s') s₂) (notedBy (model prog w) A env fun e s' => R (.error e) s') s₁) (notedBy (model prog w) A env fun e s' => R (.error e) s') s₁) (notedBy (model prog w) A env fun e s' => R (.error e) s') s)
    (n : Nat) (h : I n s) :
    codeAny (model prog w) A (.compLoop (.ListComp elt [⟨target, iter, [], 0⟩] scope pos) 0 it acc env) R s := by
  refine codeAny_loop rfl I (fun n s hI => ?_) n h
  show wpAny _ _ ((compTurn (.ListComp elt [⟨target, iter, [], 0⟩] scope pos) 0 it acc env).onRaise (fun x => do noteFrame x env; theTreesLotGoes x)) _ _ s
  refine wpAny_noted ?_
  rw [compTurn_list1]
  refine wpAny_bind (wpAny_standAt (wpAny_bind (wpAny_mono (turn n s hI) (fun r s₁ h₁ => ?_) fun _ _ h' => h')))
  cases r with
  | none => exact wpAny_pure h₁
  | some v =>
    exact wpAny_bind (wpAny_mono h₁ (fun _ s₁ h₁ => wpAny_bind (wpAny_mono h₁ (fun _ s₂ h₂ => wpAny_bind (wpAny_bind (wpAny_mono h₂ (fun x s₃ h₃ => wpAny_bind (wpAny_mono h₃
      (fun _ s₄ h₄ => wpAny_pure (wpAny_pure ⟨rfl, h₄⟩)) fun _ _ h' => h')) fun _ _ h' => h'))) fun _ _ h' => h')) fun _ _ h' => h')
end
def sE (X:Cx) (ifs:List Expr) (tc:TT):Prop:=match ifs with
 | []=>tc=fun _ H Q=>Q true H
 | [c]=>PT X c tc
 | _=>False
section
variable {X:Cx}
theorem xt {scope:Scope} {ys:List Str} {is:List Nat} (h:fO X scope ys is):is.length=ys.length:=by
 induction h with
 | nil=>rfl
 | cons _ _ _ _ ih=>simp [ih]
theorem nw {scope : Scope} {ys : List Str} {is : List Nat} (h : fO X scope ys is) {y : Str} (hy : y ∈ ys) : X.env.kindOf y = some .cell ∨ X.env.kindOf y = some .free := by
  induction h with
  | nil => cases hy
  | cons _ h2 _ _ ih =>
    rcases List.mem_cons.mp hy with e | e
    · rw [e]; exact h2
    · exact ih e
theorem mT {elt iter : Expr} {ifs : List Expr} {x : Str} {px pos : Pos} {scope : Scope} {ys : List Str} {is : List Nat} {tc : TT} {te : TE} {pins : List (Addr × Obj)} {σ : St} {H2 : Hp} {s2 : Shared} {it : Addr} {fp : List Addr} {tn : Nat → Heap → Prop} {J : It} {E : Value → Shared → Prop} {Q : VK} {RR : Value → Addr → Result → Shared → Prop}
    (hc : X.calm = true) (S : eK scope x ys) (hcap : fO X scope ys is)
    (hif : ∀ C s H fp, sE (bw X scope C (x :: ys) s H fp) ifs tc) (he : ∀ C s H fp, PE (bw X scope C (x :: ys) s H fp) elt te)
    (I2 : Inv X pins σ H2 s2) (T : mE X.prog X.w X.K (.Name x px) J fp it tn) (st2 : tn 0 s2.heap) (f2 : ∀ b ∈ fp, jr X pins H2 b)
    (hW : ∀ D, H2 D = none → ∃ W : Nat → Nat → List V → Hp → Prop, (∃ m, W 0 m [] (upd H2 D (.lst []))) ∧
      ∀ i m ys H2, W i m ys H2 → (J.stop i H2 ∧ Q (.ref D) H2) ∨ (J.go i H2 ∧ ∀ x H3, J.yld i H2 x H3 → tc (some x :: bG σ is) H3 fun b H4 => if b = true then
        te (some x :: bG σ is) H4 fun y H5 => H5 D = some (.lst ys) ∧ ys.length < sizeLine ∧ ∃ m', m' < m ∧ W (i + 1) m' (ys ++ [y]) (upd H5 D (.lst (ys ++ [y])))
        else ∃ m', m' < m ∧ W (i + 1) m' ys H4))
    (hRR : ∀ D C H' s', (X.s₀.heap.objs.size ≤ C ∧ ∀ p ∈ X.pn ++ pins, p.1 ≠ C) → (∃ m, s'.heap.Ns C m) → C ≠ X.env.locals → H' C = none → Inv X pins σ H' s' → (∀ h', Heap.SameBut C s'.heap h' → Inv X pins σ H' { s' with heap := h' }) → Q (.ref D) H' → RR (.ref D) C (.ok .next) s') :
    wpAny (model X.prog X.w) X.A (newList []) (fun acc s₃ => wpAny (model X.prog X.w) X.A (newFunctionEnv scope X.env.globals (dw scope.names X.env.cells []) [] X.env.qual none .none (some X.env)) (fun cenv s₄ =>
      codeAny (model X.prog X.w) X.A (.compStart (.ListComp elt [⟨.Name x px, iter, ifs, 0⟩] scope pos) 0 (.ref it) acc { cenv with scope := relabel scope X.env }) (RR acc cenv.locals) s₄) E s₃) E s2 := by
  have hf2 : H2 s2.heap.objs.size = none := I2.fresh
  refine wpAny_newObj_type (wpAny_newFunctionEnv S.nocell (by intro y hy; simp at hy) (fun h₁ hns₁ hsb₁ => ?_) S.kind)
  dsimp only at hns₁ hsb₁ ⊢
  have I3 : Inv X pins σ (upd H2 s2.heap.objs.size (.lst [])) { s2 with heap := s2.heap.push { cls := .type "list", data := .seq ([] : List Value).toArray } } := I2.lnew (t' := s2.toks) (ys := []) .nil (Nat.zero_le _)
  obtain ⟨W, ⟨m0, w0⟩, turn⟩ := hW _ hf2
  generalize hD : s2.heap.objs.size = D at I3 w0 turn hf2 ⊢
  generalize hs3 : ({ s2 with heap := s2.heap.push { cls := .type "list", data := .seq ([] : List Value).toArray } } : Shared) = s3 at I3
  have hp3 : s2.heap.push { cls := .type "list", dict := none, data := .seq ([] : List Value).toArray } = s3.heap := by rw [← hs3]
  rw [hp3] at hns₁ hsb₁ ⊢
  have tk3 : s2.toks = s3.toks := by rw [← hs3]
  generalize hH3 : upd H2 D (.lst []) = H3 at I3 w0
  generalize hC : s3.heap.objs.size = C at hns₁ hsb₁ ⊢
  have keep2 : ∀ b o, s2.heap.get? b = some o → s3.heap.get? b = some o := fun b o e => by rw [← hp3]; exact Heap.get?_push_of_some _ e
  have keep3 : ∀ b o, s3.heap.get? b = some o → h₁.get? b = some o := fun b o e => hsb₁.extBut b o (by rw [← hC]; exact Nat.ne_of_lt (Heap.lt_size e)) (Heap.get?_push_of_some _ e)
  have st3 : tn 0 s3.heap := T.keep _ _ _ st2 fun b _ o e => keep2 b o e
  have st4 : tn 0 h₁ := T.keep _ _ _ st3 fun b _ o e => keep3 b o e
  have fp3 : ∀ b ∈ fp, H3 b = none ∧ b < C := fun b hb => by
    obtain ⟨o, e, _⟩ := T.obj _ _ st2 b hb
    refine ⟨?_, by rw [← hC]; exact Heap.lt_size (keep2 b o e)⟩
    rw [← hH3, aq (by rw [← hD]; exact Nat.ne_of_lt (Heap.lt_size e))]
    exact (f2 b hb).1
  have hcells : ∀ {z : Str} {c : Addr}, (dw scope.names X.env.cells []).lookup z = some c → X.env.cells.lookup z = some c := fun h => ng (fun _ _ q => by cases q) h
  have hX : (bw X scope C (x :: ys) s3 H3 fp).Ok := by
    refine ⟨I3.ok.mod, S.kind, I3.ok.glob, I3.ok.blt, Nat.le_of_eq hC, fun y z c h1 h2 => I3.ok.inj y z c (hcells h1) (hcells h2), fun y hy => ?_, fun y c h _ => absurd (show false = true from h) Bool.false_ne_true, I3.ok.hd, I3.ok.frames, .inl rfl, fun b hb => ⟨Nat.ne_of_lt (fp3 b hb).2, fun y c h => (f2 b hb).2.2.2.2.1 y c (hcells h)⟩, fun b o e => I3.bs b o e, Nat.le_trans I3.ok.bsz I3.sz, fun b o e hb => ?_, fun b hb z => ?_, I3.stack, I3.stkFree⟩
    · have hy : (relabel scope X.env).names.lookup y = some .cell ∨ (relabel scope X.env).names.lookup y = some .free := hy
      have hm : (y, NameKind.free) ∈ scope.names := by
        rcases hy with q | q
        · exact iw S.nocell q (.inl rfl)
        · exact iw S.nocell q (.inr rfl)
      have hs : ∃ c, X.env.cells.lookup y = some c := by
        by_cases hk : X.env.kindOf y = some .cell ∨ X.env.kindOf y = some .free
        · exact I3.ok.has y hk
        · exact absurd (nw hcap (S.all _ hm rfl)) hk
      exact Option.isSome_iff_exists.mp (jD hm (Option.isSome_iff_exists.mpr hs))
    · rcases (f2 b hb).2.2.2.1 with z | z
      · exact I3.ok.noex b o e z
      · exact absurd (Nat.lt_of_lt_of_le (Heap.lt_size e) (Nat.le_trans I3.ok.bsz z)) (Nat.lt_irrefl _)
    · rcases List.mem_cons.mp (I3.stkSub b z) with q | q
      · exact (f2 b hb).2.1 q
      · exact (f2 b hb).2.2.1 q
  have I4 : Inv (bw X scope C (x :: ys) s3 H3 fp) [] (none :: bG σ is) H3 { s2 with heap := h₁, toks := s2.toks + ([] : List (Str × Value)).length } := by
    obtain ⟨m3, hm3, hl3⟩ := id I3.loc
    refine ⟨hX, ?_, ?_, Un.kept keep3, ⟨_, hns₁, fun i y v e1 e2 e3 => ?_⟩, fun y c e => ?_, ?_, fun y c e => I3.freeC y c (hcells e), fun p hp => absurd (show p ∈ ([] : List (Addr × Obj)) from hp) (by simp), I3.hok.kept keep3, ?_⟩
    · show s2.os = s3.os
      rw [← hs3]
    · have := I2.bare; exact this
    · cases i with
      | zero => simp at e2
      | succ j =>
        obtain ⟨u, r, hfr, c, ec, ic⟩ := ua hcap hl3 trivial j y v (by have e1' : (x :: ys)[j + 1]? = some y := e1; simpa using e1') (by simpa using e2)
        have hk := pM (env := X.env) hfr
        obtain ⟨c', ec'⟩ := Option.isSome_iff_exists.mp (jD (cs := []) (lS hfr) (by rw [ec]; rfl) (cells := X.env.cells))
        have : c' = c := by have := hcells ec'; rw [ec] at this; exact (Option.some.inj this).symm
        subst this
        obtain ⟨o, ho, hd⟩ := ic
        exact ⟨u, r, .inr ⟨hk, c', ec', o, keep3 _ _ ho, hd⟩⟩
    · obtain ⟨v, o, ho, hd⟩ := I3.cell y c (hcells e)
      exact ⟨v, o, keep3 _ _ ho, hd⟩
    · have := I3.hok.fresh (a := C) (Nat.le_of_eq hC)
      exact this
    · have := xt hcap
      show (none :: bG σ is).length = (x :: ys).length
      simp [bG, this]
  have lenσ : ∀ v : Option V, (v :: bG σ is).set 0 = fun w => w :: bG σ is := fun v => rfl
  have hown : (relabel scope X.env).names.lookup x = some .local := nN S.own
  have loop : codeAny (model X.prog X.w) X.A (.compLoop (.ListComp elt [⟨.Name x px, iter, ifs, 0⟩] scope pos) 0 (.ref it) (.ref D) (compEnvC scope (dw scope.names X.env.cells []) C X.env)) (RR (.ref D) C)
      { s2 with heap := h₁, toks := s2.toks + ([] : List (Str × Value)).length } := by
    have fin : ∀ {H' : Hp} {v : Option V} {s' : Shared}, Inv (bw X scope C (x :: ys) s3 H3 fp) [] (v :: bG σ is) H' s' → Q (.ref D) H' → RR (.ref D) C (.ok .next) s' := fun {H' v s'} J q => by
      obtain ⟨m', hm', _⟩ := J.loc
      have hCL : C ≠ X.env.locals := Ne.symm (by rw [← hC]; exact Nat.ne_of_lt I3.lt)
      have back : ∀ h', Heap.SameBut C s'.heap h' → Inv X pins σ H' { s' with heap := h' } := fun h' hs' => by
        have os' : s'.os = s3.os := J.os
        refine I3.call' (s' := { s' with heap := h' }) (ch := fp) os' ⟨fun b o e n hb hx => ?_, fun b o e n hb hx => ?_, fun b o e n hx => J.base.free b o e n hx, fun b o e hx => ?_, J.base.tups, J.base.frzs, J.base.tbls⟩ (fun b o e => ?_) J.bare fun b hb => ?_
        · exact hs'.extBut b o (by rw [← hC]; exact Nat.ne_of_lt (Heap.lt_size e)) (J.base.keep b o e n hb hx)
        · obtain ⟨sl, e1⟩ := J.base.slot b o e n hb hx
          exact ⟨sl, hs'.extBut b _ (by rw [← hC]; exact Nat.ne_of_lt (Heap.lt_size e)) e1⟩
        · obtain ⟨o', e1⟩ := J.base.there b o e hx
          exact ⟨o', hs'.extBut b _ (by rw [← hC]; exact Nat.ne_of_lt (Heap.lt_size e)) e1⟩
        · refine (J.hok b o e).stay (fun c w' hc q => (hs'.2 c ?_).trans q) (fun _ q => q) fun _ _ q => q
          have fC : H' C = none := J.free
          rintro rfl
          rcases hc with rfl | hc
          · rw [fC] at e; cases e
          · rw [fC] at hc; cases hc
        · obtain ⟨_, a1, _, a2, a3, a4⟩ := f2 b hb
          exact ⟨a2, a1, a3, a4⟩
      refine hRR D C H' s' ⟨by rw [← hC]; exact I3.sz, fun p hp => by rw [← hC]; exact Nat.ne_of_lt (Heap.lt_size (I3.pin p hp).1)⟩ ⟨m', hm'⟩ hCL J.free ?_ back q
      have := back s'.heap (.refl ..)
      exact this
    have stat : ∀ {H' : Hp}, (∀ b ∈ fp, H' b = none) → ∀ b ∈ fp, jr (bw X scope C (x :: ys) s3 H3 fp) [] H' b := fun hn b hb => by
      obtain ⟨_, a1, a5, a2, a3, a4⟩ := f2 b hb
      refine ⟨hn b hb, Nat.ne_of_lt (fp3 b hb).2, fun z => ?_, .inl hb, fun y c e => a3 y c (hcells e), fun p hp => absurd (show p ∈ ([] : List (Addr × Obj)) from hp) (by simp)⟩
      rcases List.mem_cons.mp (I3.stkSub b z) with q | q
      · exact a1 q
      · exact a5 q
    have turnAt : ∀ n s, (∃ i v ys' H', Inv (bw X scope C (x :: ys) s3 H3 fp) [] (v :: bG σ is) H' s ∧ tn i s.heap ∧ (∀ b ∈ fp, H' b = none) ∧ W i n ys' H') →
        wpAny (model X.prog X.w) X.A (pyNext (.ref it)) (fun r s₁ => match r with
          | none => RR (.ref D) C (.ok .next) s₁
          | some u => wpAny (model X.prog X.w) X.A (letOwnedTupleGo (.Name x px) (.ref it) u) (fun _ s₁ => wpAny (model X.prog X.w) X.A (assign (.Name x px) (compEnvC scope (dw scope.names X.env.cells []) C X.env) u) (fun _ s₂ =>
            ∃ (xx : V) (i : Nat) (ys' : List V) (H3' H6 : Hp) (pl : List (Addr × Obj)), Inv (bw X scope C (x :: ys) s3 H3 fp) ([] ++ pl) (some xx :: bG σ is) H6 s₂ ∧
              (∀ s7 v7 H7, Inv (bw X scope C (x :: ys) s3 H3 fp) ([] ++ pl) (v7 :: bG σ is) H7 s7 → Inv (bw X scope C (x :: ys) s3 H3 fp) [] (v7 :: bG σ is) H7 s7 ∧ tn (i + 1) s7.heap ∧ ∀ b ∈ fp, H7 b = none) ∧
              (tc (some xx :: bG σ is) H6 fun b H4 => if b = true then te (some xx :: bG σ is) H4 fun y H5 => H5 D = some (.lst ys') ∧ ys'.length < sizeLine ∧ ∃ m', m' < n ∧ W (i + 1) m' (ys' ++ [y]) (upd H5 D (.lst (ys' ++ [y])))
                else ∃ m', m' < n ∧ W (i + 1) m' ys' H4)) (fun _ _ => False) s₁) (fun _ _ => False) s₁) (fun _ _ => False) s := by
      rintro n s ⟨i, v, ys', H', J, st, fr, w'⟩
      rcases turn i n ys' H' w' with ⟨stop, qn⟩ | ⟨go, step⟩
      · refine thn (T.done (bw X scope C (x :: ys) s3 H3 fp) rfl rfl rfl hc i [] s _ H' (fun _ _ => False) J (stat fr) st stop) fun r s4 ⟨hr, J4⟩ => ?_
        subst hr
        exact fin J4 qn
      · refine thn (T.item (bw X scope C (x :: ys) s3 H3 fp) rfl rfl rfl hc i [] s _ H' (fun _ _ => False) J (stat fr) st go) fun r s4 ⟨u, hr, h4⟩ => ?_
        subst hr
        refine thn h4 fun _ s5 ⟨xx, H5, J5, r5, y5, st5, fr5⟩ => ?_
        have J5' := J5.pinned (stat fr5) (T.obj _ _ st5)
        refine wpAny_assign_Name (fu (i := 0) J5' S.nd rfl (.inl hown) r5 (fun s6 J6 => ?_) (.inr hown))
        refine ⟨xx, i, ys', H5, H5, jk fp s5.heap, J6, fun s7 v7 H7 J7 => ⟨J7.unpinned, T.keep _ _ _ st5 fun b hb o e => (J7.pin (b, o) (List.mem_append_right _ (List.mem_append_right _ (fT hb e)))).1, fun b hb => ?_⟩, step xx H5 y5⟩
        obtain ⟨o, e, d⟩ := T.obj _ _ st5 b hb
        exact (J7.pin (b, o) (List.mem_append_right _ (List.mem_append_right _ (fT hb e)))).2.1
    have start0 : ∃ i v ys' H', Inv (bw X scope C (x :: ys) s3 H3 fp) [] (v :: bG σ is) H' { s2 with heap := h₁, toks := s2.toks + ([] : List (Str × Value)).length } ∧ tn i h₁ ∧ (∀ b ∈ fp, H' b = none) ∧ W i m0 ys' H' :=
      ⟨0, none, [], H3, I4, st4, fun b hb => (fp3 b hb).1, w0⟩
    have emit : ∀ (n : Nat) (xx : V) (i : Nat) (ys' : List V) (H4 : Hp) (pl : List (Addr × Obj)) (s₂ : Shared), Inv (bw X scope C (x :: ys) s3 H3 fp) ([] ++ pl) (some xx :: bG σ is) H4 s₂ →
        (∀ s7 v7 H7, Inv (bw X scope C (x :: ys) s3 H3 fp) ([] ++ pl) (v7 :: bG σ is) H7 s7 → Inv (bw X scope C (x :: ys) s3 H3 fp) [] (v7 :: bG σ is) H7 s7 ∧ tn (i + 1) s7.heap ∧ ∀ b ∈ fp, H7 b = none) →
        (te (some xx :: bG σ is) H4 fun y H5 => H5 D = some (.lst ys') ∧ ys'.length < sizeLine ∧ ∃ m', m' < n ∧ W (i + 1) m' (ys' ++ [y]) (upd H5 D (.lst (ys' ++ [y])))) →
        wpAny (model X.prog X.w) X.A (eval elt (compEnvC scope (dw scope.names X.env.cells []) C X.env)) (fun y s₃ => wpAny (model X.prog X.w) X.A (call (.builtin "list.append") [.ref D, y]) (fun _ s₄ =>
          ∃ m, m < n ∧ ∃ i v ys' H', Inv (bw X scope C (x :: ys) s3 H3 fp) [] (v :: bG σ is) H' s₄ ∧ tn i s₄.heap ∧ (∀ b ∈ fp, H' b = none) ∧ W i m ys' H') (fun _ _ => False) s₃) (fun _ _ => False) s₂ := by
      intro n xx i ys' H4 pl s₂ J2 back q
      refine thn (he C s3 H3 fp ([] ++ pl) s₂ _ H4 _ J2 q) fun y s₃ ⟨yv, H5, J3, r3, q1, q2, q3⟩ => ?_
      refine thn (cL (X := bw X scope C (x :: ys) s3 H3 fp) ([] ++ pl) s₃ _ H5 (.ref D) [yv] (.ref D) [y] (fun v H7 => v = .non ∧ H7 = upd H5 D (.lst (ys' ++ [yv]))) J3 rfl (.cons r3 .nil) ⟨D, ys', yv, rfl, rfl, q1, q2, rfl, rfl⟩) fun _ s₄ ⟨_, H7, J4, _, _, e7⟩ => ?_
      subst e7
      obtain ⟨m', hm', w'⟩ := q3
      obtain ⟨b1, b2, b3⟩ := back s₄ _ _ J4
      exact ⟨m', hm', i + 1, some xx, ys' ++ [yv], _, b1, b2, b3, w'⟩
    have ex0 : ∀ {α : Type} {t : Sem α} {Q' : α → Shared → Prop} {E' : Value → Shared → Prop} {s : Shared}, wpAny (model X.prog X.w) X.A t Q' (fun _ _ => False) s → wpAny (model X.prog X.w) X.A t Q' E' s := fun h => wpAny_mono h (fun _ _ q => q) fun _ _ q => q.elim
    cases ifs with
    | nil =>
      have htc : tc = fun _ H Q => Q true H := hif C s3 H3 fp
      subst htc
      refine jj (fun n s => ∃ i v ys' H', Inv (bw X scope C (x :: ys) s3 H3 fp) [] (v :: bG σ is) H' s ∧ tn i s.heap ∧ (∀ b ∈ fp, H' b = none) ∧ W i n ys' H') (fun n s hI => ?_) m0 start0
      refine wpAny_mono (turnAt n s hI) (fun r s₁ h₁ => ?_) fun _ _ q => q.elim
      cases r with
      | none => exact h₁
      | some u =>
        refine wpAny_mono h₁ (fun _ s₁ h₁ => wpAny_mono h₁ (fun _ s₂ h₂ => ?_) fun _ _ q => q.elim) fun _ _ q => q.elim
        obtain ⟨xx, i, ys', _, H6, pl, J2, back, q⟩ := h₂
        dsimp only at q
        rw [if_pos rfl] at q
        exact wpAny_mono (emit n xx i ys' H6 pl s₂ J2 back q) (fun y s₃ h₃ => ex0 h₃) fun _ _ q => q.elim
    | cons c r0 =>
      cases r0 with
      | cons _ _ => exact (hif C s3 H3 fp).elim
      | nil =>
        have hpt : PT (bw X scope C (x :: ys) s3 H3 fp) c tc := hif C s3 H3 fp
        refine jh (fun n s => ∃ i v ys' H', Inv (bw X scope C (x :: ys) s3 H3 fp) [] (v :: bG σ is) H' s ∧ tn i s.heap ∧ (∀ b ∈ fp, H' b = none) ∧ W i n ys' H') (fun n s hI => ?_) m0 start0
        refine wpAny_mono (turnAt n s hI) (fun r s₁ h₁ => ?_) fun _ _ q => q.elim
        cases r with
        | none => exact h₁
        | some u =>
          refine wpAny_mono h₁ (fun _ s₁ h₁ => wpAny_mono h₁ (fun _ s₂ h₂ => ?_) fun _ _ q => q.elim) fun _ _ q => q.elim
          obtain ⟨xx, i, ys', _, H6, pl, J2, back, q⟩ := h₂
          refine wpAny_mono (hpt ([] ++ pl) s₂ _ H6 _ J2 q) (fun b s₃ h₃ => ?_) fun _ _ q => q.elim
          obtain ⟨H4, J4, q4⟩ := h₃
          cases b with
          | true =>
            rw [if_pos rfl] at q4 ⊢
            exact wpAny_mono (emit n xx i ys' H4 pl s₃ J4 back q4) (fun y s₃ h₃ => ex0 h₃) fun _ _ q => q.elim
          | false =>
            rw [if_neg Bool.false_ne_true] at q4 ⊢
            obtain ⟨m', hm', w'⟩ := q4
            obtain ⟨b1, b2, b3⟩ := back s₃ _ _ J4
            exact ⟨m', hm', i + 1, some xx, ys', _, b1, b2, b3, w'⟩
  exact codeAny_compStart_list loop (T.self X.A 0 _ _ _ st4 loop)
end
end L2
namespace L2
open PySem PySem.Spec PyProof.Rows
section
variable {X:Cx}
theorem qO {scope:Scope} {x:Str} {ys:List Str} {is:List Nat} (ok:X.Ok) (S:eK scope x ys) (hcap:fO X scope ys is):closureFor scope X.env=pure (dw scope.names X.env.cells []):=
 oX fun y hy hk=>by
  obtain ⟨c,e⟩:=ok.has y.1 (nw hcap (S.all y hy hk))
  rw [e];rfl
theorem zF {elt iter:Expr} {ifs:List Expr} {x:Str} {px pos:Pos} {scope:Scope} {ys:List Str} {is:List Nat} {wi:TI} {tc:TT} {te:TE}
  (hc:X.calm=true) (S:eK scope x ys) (hcap:fO X scope ys is) (hi:PI X (.Name x px) iter wi)
  (hif:∀ C s H fp,sE (bw X scope C (x::ys) s H fp) ifs tc) (he:∀ C s H fp,PE (bw X scope C (x::ys) s H fp) elt te)
  (hs:∀ x,foldedSetIterable iter X.env x=pure x:=by intro _;rfl):PE X (.ListComp elt [⟨.Name x px,iter,ifs,0⟩] scope pos) (dJ is wi tc te):=by
 intro pins s σ H Q I h
 rw [eval_ListComp]
 refine wpAny_comprehension_free (use:=none) rfl hs (qO I.ok S hcap) S.kind S.names (thn (hi pins s σ H _ I h) fun v s1 h1=>thn h1 fun itv s2 h2=>?_)
 obtain ⟨it,fp,tn,J,H2,rfl,I2,T,st2,f2,hW⟩:=h2
 refine mT (RR:=fun acc C=>compPost (model X.prog X.w) X.A X.xe none (EP X pins σ Q) acc C) hc S hcap hif he I2 T st2 f2 hW ?_
 intro D C H' s' hlt hns hne hfr I' back q
 obtain ⟨m,hm⟩:=hns
 exact ⟨m,hm,fun h' hs'=>⟨.ref D,H',back h' hs',rfl,q⟩⟩
theorem rB {elt iter:Expr} {ifs:List Expr} {x y:Str} {px py pos spos:Pos} {scope:Scope} {ys:List Str} {is:List Nat} {wi:TI} {tc:TT} {te:TE} {j:Nat}
  (hN:X.N.Nodup) (hj:X.N[j]?=some y) (hy:Loc X.env.scope y)
  (hc:X.calm=true) (S:eK scope x ys) (hcap:fO X scope ys is) (hi:PI X (.Name x px) iter wi)
  (hif:∀ C s H fp,sE (bw X scope C (x::ys) s H fp) ifs tc) (he:∀ C s H fp,PE (bw X scope C (x::ys) s H fp) elt te)
  (hsw:swapsWith (.ListComp elt [⟨.Name x px,iter,ifs,0⟩] scope pos) (some (.Name y py)) spos.line X.env=pure true:=by rfl)
  (hf:X.fn y=true∨X.env.scope.names.lookup y=some .local:=by first | exact .inl rfl | exact .inr rfl | assumption)
  (hs:∀ x,foldedSetIterable iter X.env x=pure x:=by intro _;rfl):PS X (.Assign [.Name y py] (.ListComp elt [⟨.Name x px,iter,ifs,0⟩] scope pos) spos) (aA (dJ is wi tc te) (aw j)):=by
 intro pins s σ H D I h
 rw [exec_Assign_Name_used _ _ _ _ hsw]
 refine wpAny_bind (wpAny_standAt (wpAny_bind ?_))
 show wpAny _ X.A (do let _←comprehension (.ListComp elt [⟨.Name x px,iter,ifs,0⟩] scope pos) scope X.env _ (newList []) false (eval iter X.env) (some (assign (.Name y py) X.env))) _ _ s
 refine wpAny_bind (wpAny_mono (wpAny_comprehension_free (use:=some (assign (.Name y py) X.env)) (Q:=fun _ s'=>SP X pins D .next s') rfl hs (qO I.ok S hcap) S.kind S.names
  (thn (hi pins s σ H _ I h) fun v s1 h1=>thn h1 fun itv s2 h2=>?_)) (fun _ s' hq=>wpAny_pure (wpAny_pure hq)) fun _ _ e=>e)
 obtain ⟨it,fp,tn,J,H2,rfl,I2,T,st2,f2,hW⟩:=h2
 refine mT (Q:=fun x H1=>aw j x σ H1 D.nx) (RR:=fun acc C=>compPost (model X.prog X.w) X.A X.xe (some (assign (.Name y py) X.env)) (fun _ s'=>SP X pins D .next s') acc C) hc S hcap hif he I2 T st2 f2 hW ?_
 intro Da C H' s' hlt hns hne hfr I' back q
 show wpAny _ X.A (assign (.Name y py) X.env (.ref Da)) _ _ _
 obtain ⟨m,hm⟩:=hns
 refine wpAny_assign_Name (mY I' hN hj hy (v:=.ref Da) rfl (fun s2 I2' ⟨a,hsb,ha⟩=>?_) hf)
 have hCa:C≠a:=by
  rcases ha with e | e
  · rw [e];exact hne
  · rintro rfl
    obtain ⟨v,o,ho,hd⟩:=I'.cell y C e
    obtain ⟨o2,es,ep,ho2,hd2,_⟩:=hm
    rw [ho] at ho2;cases ho2;rw [hd] at hd2;cases hd2
 refine ⟨m,hm.sameBut hsb hCa,fun h' hs'=>?_⟩
 have hCn:∀ y c,X.env.cells.lookup y=some c→c≠C:=fun z c e q=>by
  subst q
  obtain ⟨v,o,ho,hd⟩:=I'.cell z c e
  obtain ⟨o2,es,ep,ho2,hd2,_⟩:=hm
  rw [ho] at ho2;cases ho2;rw [hd] at hd2;cases hd2
 have I3:Inv X pins (σ.set j (some (.ref Da))) H' { s2 with heap:=h' }:=by
  refine I2'.step (g':=s2.gens) (d':=s2.drawn) (t':=s2.toks) (ch:=[C]) (fun b hb=>?_) (fun b o _ _ hb e _=>(hs'.2 b (fun z=>hb (by simp [z]))).trans e) (fun b o _ _ hb e _=>⟨o.slots,(hs'.2 b (fun z=>hb (by simp [z]))).trans e⟩) (fun _ _ _ _ n=>n) (fun b o hb e=>⟨o,(hs'.2 b (fun z=>hb (by simp [z]))).trans e⟩)
    (fun _ _ e=>e) (fun _ _ _ e=>e) (fun b ps e=>⟨#[],by rw [e];simp⟩) (fun m' hm'=>hm'.sameBut hs' (Ne.symm hne)) (fun b o e=>?_) I2'.bare
  · have e:b=C:=by simpa using hb
    subst e
    exact ⟨.inr hlt.1,hne,fun z c e=>hCn z c e,hlt.2⟩
  · refine (I2'.hok b o e).stay (fun c w' hc q=>(hs'.2 c ?_).trans q) (fun _ q=>q) fun _ _ q=>q
    rintro rfl
    rcases hc with rfl | hc
    · rw [hfr] at e;cases e
    · rw [hfr] at hc;cases hc
 exact ⟨_,H',I3,q⟩
end
end L2
namespace L2
open PySem PySem.Spec PyProof.Rows
def tyN (H : Hp) : V → Option String
  | .non => some "NoneType"
  | .bl _ => some "bool"
  | .int _ => some "int"
  | .str _ => some "str"
  | .ref a => match H a with
    | some (.lst _) => some "list"
    | some (.frz _ (.lst _)) => some "list"
    | some (.tup _) => some "tuple"
    | some (.dK _) => some "dict"
    | some (.dT _) => some "dict"
    | _ => none
  | _ => none
theorem Cm {K : W.Frag} {H : Hp} {x : V} {t : String} (h : tyN H x = some t) : ft K H x (.type t) := by
  cases x with
  | non => cases h; exact .non
  | bl b => cases h; exact .bl b
  | int i => cases h; exact .int i
  | str x => cases h; exact .str x
  | byt _ => cases h
  | flt _ => cases h
  | ty _ => cases h
  | ref a =>
    unfold tyN at h
    dsimp only at h
    split at h
    · rename_i e; cases h; exact .lst e
    · rename_i e; cases h; exact .frz e
    · rename_i e; cases h; exact .tup e
    · rename_i e; cases h; exact .dK e
    · rename_i e; cases h; exact .dT e
    · cases h
def tyL:List String:=["NoneType", "bool", "int", "str", "list", "tuple", "dict"]
theorem AA {H : Hp} {x : V} {t : String} (h : tyN H x = some t) : t ∈ tyL := by
  cases x with
  | non => cases h; decide
  | bl b => cases h; decide
  | int i => cases h; decide
  | str x => cases h; decide
  | byt _ => cases h
  | flt _ => cases h
  | ty _ => cases h
  | ref a =>
    unfold tyN at h
    dsimp only at h
    split at h <;> first | (cases h; decide) | cases h
def isI (t T:String):Bool:=t==T||(T== "int" &&t== "bool")
theorem Bh (K:W.Frag):∀ t∈tyL,∀ T∈["int", "bool", "str", "tuple", "list", "dict"],W.kitOne K (.type t) (.type T)=some (isI t T):=by
 intro t ht T hT
 simp only [tyL,List.mem_cons,List.not_mem_nil,or_false] at ht hT
 rcases ht with rfl | rfl | rfl | rfl | rfl | rfl | rfl <;> rcases hT with rfl | rfl | rfl | rfl | rfl | rfl <;> (unfold W.kitOne;first | rfl | decide +kernel | (simp only [W.kitCls];rfl))
section
variable {X:Cx}
theorem vI:bB X (.builtin "isinstance") (fun xs H Q=>∃ x T t,xs=[x,.ty T]∧T∈["int", "bool", "str", "tuple", "list", "dict"]∧tyN H x=some t∧Q (.bl (isI t T)) H):=by
 intro pins s σ H xs us Q I r h
 obtain ⟨x,T,t,rfl,hT,ht,q⟩:=h
 obtain ⟨u,w',rfl,r1,r2⟩:=lN r
 cases r2
 exact uj I r1 (Cm ht) (Bh X.K t (AA ht) T hT) fun tk=>⟨.bl _,H,I.tok tk,rfl,q⟩
end
end L2
namespace L2
open PySem PySem.Spec PyProof.Rows
section
variable {X:Cx}
theorem qH : ∀ {bs : List Bool} {us : List Value}, aS (bs.map V.bl) us → us = bs.map Value.bool
  | [], _, .nil => rfl
  | b :: bs, _, .cons r t => by
    have e : _ = Value.bool b := r
    rw [qH t, List.map_cons, e]
theorem uC (bs:List Bool):(List.range bs.length).all (fun i=>bs.getD i false)=bs.all id:=by
 rw [Bool.eq_iff_iff,List.all_eq_true,List.all_eq_true]
 constructor
 · intro h b hb
   obtain ⟨i,hi,e⟩:=List.mem_iff_getElem.mp hb
   have:=h i (List.mem_range.mpr hi)
   simp only [List.getD_eq_getElem?_getD,List.getElem?_eq_getElem hi,Option.getD_some] at this
   rw [← e];exact this
 · intro h i hi
   have hi:=List.mem_range.mp hi
   simp only [List.getD_eq_getElem?_getD,List.getElem?_eq_getElem hi,Option.getD_some]
   exact h _ (List.getElem_mem hi)
theorem qi {prog : Program} {w : World} {A : Around} {bs : List Bool} : TruthOf prog w A (fun i v => (bs.map Value.bool).toArray[i]? = some v) (fun i => bs.getD i false) := by
  intro i v s Q E hP hQ
  have hP : (bs.map Value.bool)[i]? = some v := by simpa using hP
  rw [List.getElem?_map] at hP
  cases e : bs[i]? with
  | none => rw [e] at hP; cases hP
  | some b =>
    rw [e] at hP
    cases hP
    have hQ' : Q b s := by
      have e2 : bs.getD i false = b := by rw [List.getD_eq_getElem?_getD, e]; rfl
      have hQ2 : Q (bs.getD i false) s := hQ
      rw [e2] at hQ2; exact hQ2
    exact wpAny_of_eq (a := b) rfl hQ'
theorem xg (hc:X.calm=true):bB X (.builtin "all") (fun xs H Q=>∃ (a:Addr) (bs:List Bool),xs=[.ref a]∧H a=some (.lst (bs.map V.bl))∧Q (.bl (bs.all id)) H):=by
 intro pins s σ H xs us Q I r h
 obtain ⟨a,bs,rfl,hH,q⟩:=h
 obtain ⟨u,rfl,ru⟩:=fD r
 cases ru
 obtain ⟨z,its,n,rv,e⟩:=I.hok a _ hH
 have ei:=qH rv
 subst ei
 have hl:s.heap.IsList a (bs.map Value.bool).toArray:=⟨_,e,rfl,_,rfl⟩
 refine call_all_walk (wpAny_pyIter_list hl ?_)
 have hne:a≠s.heap.objs.size:=Nat.ne_of_lt (Heap.lt_size e)
 refine ⟨s.heap.objs.size,_,_,_,_,_,_,rfl,Walks.list (by show X.A.handled=none;exact I.ok.hd hc) _ a hne (bs.map Value.bool).toArray,⟨⟨_,Heap.get?_push_size _ rfl,rfl,rfl⟩,⟨_,Heap.get?_push_of_some _ e,rfl,_,rfl⟩⟩,qi,fun h' tk hk=>?_⟩
 have e2:((bs.map Value.bool).toArray).size=bs.length:=by simp
 rw [e2,uC]
 refine ⟨.bl _,H,I.kept (t':=tk) fun b o hb=>hk b o ?_ (Heap.get?_push_of_some _ hb),rfl,q⟩
 intro z
 have:b=s.heap.objs.size:=by simpa using z
 rw [this] at hb
 exact absurd (Heap.lt_size hb) (Nat.lt_irrefl _)
theorem qW : ∀ {xs : List Str} {us : List Value}, aS (xs.map V.str) us → StrsAre us xs
  | [], _, .nil => .nil
  | x :: xs, _, .cons r t => by
    obtain ⟨tk, e⟩ := (show ∃ t, _ = Value.str x t from r)
    rw [e]
    exact .cons _ _ (qW t)
def nQ:V→List V→Hp→VK→Prop:=fun x vs H Q=>∃ (z:Str) (a:Addr) (xs:List Str),x=.str z∧vs=[.ref a]∧H a=some (.lst (xs.map V.str))∧(xs.map (·.length)).sum+xs.length*z.length≤16777216∧Q (.str (Txt.join z xs)) H
theorem qV:MtM X "str.join" nQ:=by
 intro pins s σ H x vs v us Q I rx rv h
 obtain ⟨z,a,xs,rfl,rfl,hH,hz,q⟩:=h
 obtain ⟨t,rfl⟩:=(show ∃ t,v=Value.str z t from rx)
 obtain ⟨u,rfl,ru⟩:=rv.one
 cases ru
 obtain ⟨_,its,n,rv,e⟩:=I.hok a _ hH
 refine join_list (items:=its.toArray) ⟨_,e,rfl,_,rfl⟩ (by simpa using qW rv) hz fun t' k=>⟨.str _,H,I.tok k,⟨_,rfl⟩,q⟩
end
end L2
namespace L2
open PySem PySem.Spec PyProof.Rows
@[irreducible] def Sel (b:Bool) (A B:Prop):Prop:=if b=true then A else B
theorem Sel.mk {b:Bool} {A B:Prop} (h1:b=true→A) (h2:b=false→B):Sel b A B:=by
 unfold Sel
 cases b with
 | true=>exact h1 rfl
 | false=>exact h2 rfl
theorem Sel.t {A B:Prop} (h:A):Sel true A B:=.mk (fun _=>h) fun e=>by cases e
theorem Sel.f {A B:Prop} (h:B):Sel false A B:=.mk (fun e=>by cases e) fun _=>h
theorem Sel.dec {p A B:Prop} [Decidable p] (h1:p→A) (h2:¬ p→B):Sel (decide p) A B:=.mk (fun e=>h1 (of_decide_eq_true e)) fun e=>h2 (of_decide_eq_false e)
theorem Sel.ndec {p A B:Prop} [Decidable p] (h1:¬ p→A) (h2:p→B):Sel (!decide p) A B:=.mk (fun e=>h1 (by simpa using e)) fun e=>h2 (by simpa using e)
theorem Sel.yes {b:Bool} {A B:Prop} (e:b=true) (h:A):Sel b A B:=by rw [e];exact .t h
theorem Sel.no {b:Bool} {A B:Prop} (e:b=false) (h:B):Sel b A B:=by rw [e];exact .f h
theorem dq {b:Bool} {A B:Prop} (h:Sel b A B):if b=true then A else B:=by unfold Sel at h;exact h
def ad (i:Nat):TE:=fun σ H Q=>match σ[i]? with | some (some v)=>Q v H | _=>False
section
variable {X:Cx}
theorem PE.imp {e:Expr} {t t':TE} (h:PE X e t) (i:∀ σ H Q,t' σ H Q→t σ H Q):PE X e t':=fun pins s σ H Q I q=>h pins s σ H Q I (i _ _ _ q)
theorem OpR.imp {f:Value→Value→Sem Value} {r r':R2} (h:OpR X f r) (i:∀ x y H Q,r' x y H Q→r x y H Q):OpR X f r':=fun pins s σ H x y v u Q I rx ry q=>h pins s σ H x y v u Q I rx ry (i _ _ _ _ q)
theorem qv (i:Nat) {x:Str} {pos:Pos} (hN:X.N[i]?=some x:=by rfl) (hv:Vis X.env.scope x:=by first | exact Or.inl rfl | exact Or.inr (Or.inl rfl) | exact Or.inr (Or.inr rfl)) (hd:(x==("__debug__" :Str))=false:=by decide)
   (hcd:(x==("__classdict__" :Str))=false:=by decide):PE X (.Name x pos) (ad i):=(Bo hN hv hd hcd).imp fun σ H Q q=>by
 unfold ad at q
 split at q
 · rename_i v e;exact ⟨v,e,q⟩
 · exact q.elim
theorem qgi {x:Str} {i:Int} {pos:Pos} (hm:∃ t,X.mg x=some (.int i t)) (hg:Gl X x:=by rfl) (hd:(x==("__debug__" :Str))=false:=by decide):PE X (.Name x pos) (tC (.int i)):=by
 obtain ⟨t,e⟩:=hm
 exact rh hg e ⟨t,rfl⟩ hd
def cC:R2:=fun x y H Q=>match x,y with | .int i,.int j=>Q (.int (i - j)) H | _,_=>False
theorem dh:OpR X (binaryOp .Sub) cC:=De.imp fun x y H Q q=>by
 unfold cC at q
 split at q
 · exact ⟨_,_,rfl,rfl,q⟩
 · exact q.elim
theorem zh:OpR X (binaryOp .Mult) (rI IntMulOk fun i j=> .int (i*j)):=opI fun _ _ _ _ _ _ _ hc q=>mul_int q hc
def vE:R2:=fun x y H Q=>match x,y with
 | .int i,.int j=>IntMulOk i j∧Q (.int (i*j)) H
 | _,_=>False
theorem Hx:OpR X (binaryOp .Mult) vE:=zh.imp fun x y H Q q=>by
 unfold vE at q
 split at q
 · exact ⟨_,_,rfl,rfl,q.1,q.2⟩
 · exact q.elim
def bn:R2:=fun x y H Q=>match x,y with | .int i,.int j=>0<j∧Q (.int (i%j)) H | _,_=>False
theorem bD:OpR X (binaryOp .Mod) bn:=BE.imp fun x y H Q q=>by
 unfold bn at q
 split at q
 · exact ⟨_,_,rfl,rfl,q.1,q.2⟩
 · exact q.elim
def kM:R2:=fun x y H Q=>match x,y with | .int i,.int j=>(0≤j∧j≤1000000∧i.natAbs<2^64)∧Q (.int (i^j.toNat)) H | _,_=>False
theorem oO:OpR X (binaryOp .Pow) kM:=AD.imp fun x y H Q q=>by
 unfold kM at q
 split at q
 · exact ⟨_,_,rfl,rfl,q.1,q.2⟩
 · exact q.elim
def iZ:R2:=fun x y H Q=>match x,y with | .int i,.int j=>(0≤j∧j≤1000000∧i.natAbs<2^64)∧Q (.int (i*2^j.toNat)) H | _,_=>False
theorem kU:OpR X (binaryOp .LShift) iZ:=Bc.imp fun x y H Q q=>by
 unfold iZ at q
 split at q
 · exact ⟨_,_,rfl,rfl,q.1,q.2⟩
 · exact q.elim
def mLt:R2:=fun x y H Q=>match x,y with | .int i,.int j=>Q (.bl (decide (i<j))) H | _,_=>False
theorem oLt:OpR X (compareOp .Lt) mLt:=Eb.imp fun x y H Q q=>by
 unfold mLt at q
 split at q
 · exact ⟨_,_,rfl,rfl,q⟩
 · exact q.elim
def mLe:R2:=fun x y H Q=>match x,y with | .int i,.int j=>Q (.bl (decide (i≤j))) H | _,_=>False
theorem oLe:OpR X (compareOp .LtE) mLe:=Ev.imp fun x y H Q q=>by
 unfold mLe at q
 split at q
 · exact ⟨_,_,rfl,rfl,q⟩
 · exact q.elim
def mGt:R2:=fun x y H Q=>match x,y with | .int i,.int j=>Q (.bl (decide (j<i))) H | _,_=>False
theorem oGt:OpR X (compareOp .Gt) mGt:=EA.imp fun x y H Q q=>by
 unfold mGt at q
 split at q
 · exact ⟨_,_,rfl,rfl,q⟩
 · exact q.elim
def mEq:R2:=fun x y H Q=>match x,y with
 | .int i,.int j=>Q (.bl (decide (i=j))) H
 | .str i,.str j=>Q (.bl (decide (i=j))) H
 | .bl i,.bl j=>Q (.bl (decide (i=j))) H
 | .non,.non=>Q (.bl true) H
 | .non,.int _=>Q (.bl false) H | .int _,.non=>Q (.bl false) H | .non,.bl _=>Q (.bl false) H | .bl _,.non=>Q (.bl false) H | .non,.str _=>Q (.bl false) H | .str _,.non=>Q (.bl false) H
 | .int _,.str _=>Q (.bl false) H | .str _,.int _=>Q (.bl false) H | .bl _,.str _=>Q (.bl false) H | .str _,.bl _=>Q (.bl false) H
 | _,_=>False
theorem jF {α:Type} [DecidableEq α] {f:α→V} (hf:∀ a b,f a=f b→a=b) (a b:α):decide (f a=f b)=decide (a=b):=by
 by_cases h:a=b
 · subst h;simp
 · rw [decide_eq_false h,decide_eq_false fun e=>h (hf a b e)]
theorem oEq:OpR X (compareOp .Eq) mEq:=EY.imp fun x y H Q q=>by
 unfold mEq at q
 split at q
 · exact ⟨rfl,by rw [jF (f:=V.int) fun _ _ e=>V.int.inj e];exact q⟩
 · exact ⟨rfl,by rw [jF (f:=V.str) fun _ _ e=>V.str.inj e];exact q⟩
 · exact ⟨rfl,by rw [jF (f:=V.bl) fun _ _ e=>V.bl.inj e];exact q⟩
 · exact ⟨rfl,by simpa using q⟩
 all_goals first | exact q.elim | exact ⟨rfl,q⟩
def mNe:R2:=fun x y H Q=>match x,y with
 | .int i,.int j=>Q (.bl (!decide (i=j))) H
 | .str i,.str j=>Q (.bl (!decide (i=j))) H
 | .bl i,.bl j=>Q (.bl (!decide (i=j))) H
 | .non,.non=>Q (.bl false) H
 | .non,.int _=>Q (.bl true) H | .int _,.non=>Q (.bl true) H | .non,.bl _=>Q (.bl true) H | .bl _,.non=>Q (.bl true) H | .non,.str _=>Q (.bl true) H | .str _,.non=>Q (.bl true) H
 | .int _,.str _=>Q (.bl true) H | .str _,.int _=>Q (.bl true) H | .bl _,.str _=>Q (.bl true) H | .str _,.bl _=>Q (.bl true) H
 | _,_=>False
theorem oNe:OpR X (compareOp .NotEq) mNe:=Fs.imp fun x y H Q q=>by
 unfold mNe at q
 split at q
 · exact ⟨rfl,by rw [jF (f:=V.int) fun _ _ e=>V.int.inj e];exact q⟩
 · exact ⟨rfl,by rw [jF (f:=V.str) fun _ _ e=>V.str.inj e];exact q⟩
 · exact ⟨rfl,by rw [jF (f:=V.bl) fun _ _ e=>V.bl.inj e];exact q⟩
 · exact ⟨rfl,by simpa using q⟩
 all_goals first | exact q.elim | exact ⟨rfl,q⟩
def vm:R2:=fun x y H Q=>match y with | .non=>Q (.bl (match x with | .non=>true | _=>false)) H | _=>False
theorem oIs:OpR X (compareOp .Is) vm:=Aj.imp fun x y H Q q=>by
 unfold vm at q
 split at q
 · refine ⟨rfl,?_⟩
   cases x <;> simpa using q
 · exact q.elim
def aT (t:TE):TT:=fun σ H Q=>t σ H fun x H'=>match x with | .bl k=>Q k H' | _=>False
theorem qtc {op:CmpOp} {r:R2} {a b:Expr} {ta tb:TE} {pos:Pos} (ho:OpR X (compareOp op) r) (ha:PE X a ta) (hb:PE X b tb) (hm:behindInMarks op b=false:=by first | exact la _ | rfl):PT X (.Compare a [op] [b] pos) (aT (tOp r ta tb)):=by
 intro pins s σ H Q I h
 refine wpAny_isTrue_Compare1 (thn (ha pins s σ H _ I h) fun v s1 ⟨x,H1,I1,r1,q1⟩=>thn (hb pins s1 σ H1 _ I1 q1) fun u s2 ⟨y,H2,I2,r2,q2⟩=>
  thn (ho pins s2 σ H2 x y v u _ I2 r1 r2 q2) fun c s3 ⟨z,H3,I3,r3,q3⟩=>?_) hm
 cases z <;> first | exact q3.elim | (cases r3;exact wpAny_truthy_bool ⟨H3,I3,q3⟩)
theorem qc {op:CmpOp} {r:R2} {a b:Expr} {ta tb:TE} {pos:Pos} (ho:OpR X (compareOp op) r) (ha:PE X a ta) (hb:PE X b tb) (hm:behindInMarks op b=false:=by first | exact la _ | rfl):PE X (.Compare a [op] [b] pos) (tOp r ta tb):=yX ho ha hb hm
def dD (r r':R2) (ta tb tc:TE):TE:=fun σ H Q=>ta σ H fun x H1=>tb σ H1 fun y H2=>r x y H2 fun z H3=>match z with
 | .bl k=>Sel k (tc σ H3 fun w' H4=>r' y w' H4 Q) (Q (.bl false) H3)
 | _=>False
theorem qch {op op':CmpOp} {r r':R2} {a b c:Expr} {ta tb tc:TE} {pos:Pos} (ho:OpR X (compareOp op) r) (ho':OpR X (compareOp op') r') (ha:PE X a ta) (hb:PE X b tb) (hc:PE X c tc)
  (hm:lastMarks [op,op'] [b,c]=false:=by with_unfolding_all rfl):PE X (.Compare a [op,op'] [b,c] pos) (dD r r' ta tb tc):=by
 intro pins s σ H Q I h
 refine Compare_chain (thn (ha pins s σ H _ I h) fun v s1 ⟨x,H1,I1,r1,q1⟩=>chain_link (thn (hb pins s1 σ H1 _ I1 q1) fun u s2 ⟨y,H2,I2,r2,q2⟩=>
  thn (ho pins s2 σ H2 x y v u _ I2 r1 r2 q2) fun d s3 ⟨z,H3,I3,r3,q3⟩=>?_)) hm
 cases z <;> first | exact q3.elim | skip
 rename_i k
 cases r3
 refine wpAny_truthy_bool ?_
 have q3:=dq q3
 cases k with
 | false=>exact ite_ff ⟨.bl false,H3,I3,rfl,q3⟩
 | true=>exact ite_tt (chain_last (thn (hc pins s3 σ H3 _ I3 q3) fun w' s4 ⟨z',H4,I4,r4,q4⟩=>ho' pins s4 σ H4 y z' u w' Q I4 r2 r4 q4))
theorem Iq {op op' : CmpOp} {r r' : R2} {a b c : Expr} {ta tb tc : TE} {pos : Pos} (ho : OpR X (compareOp op) r) (ho' : OpR X (compareOp op') r') (ha : PE X a ta) (hb : PE X b tb) (hc : PE X c tc)
    (hm : lastMarks [op, op'] [b, c] = false := by with_unfolding_all rfl) : PT X (.Compare a [op, op'] [b, c] pos) (aT (dD r r' ta tb tc)) := by
  intro pins s σ H Q I h
  refine isTrue_chain (thn (ha pins s σ H _ I h) fun v s1 ⟨x, H1, I1, r1, q1⟩ => test_link (thn (hb pins s1 σ H1 _ I1 q1) fun u s2 ⟨y, H2, I2, r2, q2⟩ =>
    thn (ho pins s2 σ H2 x y v u _ I2 r1 r2 q2) fun d s3 ⟨z, H3, I3, r3, q3⟩ => ?_)) hm
  cases z <;> first | exact q3.elim | skip
  rename_i k
  cases r3
  refine wpAny_truthy_bool ?_
  have q3 := dq q3
  cases k with
  | false => exact ite_ff ⟨H3, I3, q3⟩
  | true =>
    refine ite_tt (test_last (thn (hc pins s3 σ H3 _ I3 q3) fun w' s4 ⟨z', H4, I4, r4, q4⟩ => thn (ho' pins s4 σ H4 y z' u w' _ I4 r2 r4 q4) fun d' s5 ⟨z2, H5, I5, r5, q5⟩ => ?_))
    cases z2 <;> first | exact q5.elim | (cases r5; exact wpAny_truthy_bool ⟨H5, I5, q5⟩)
def bO (K:W.Frag) (t:TE):TT:=fun σ H Q=>t σ H fun x H'=>match x with
 | .bl k=>Q k H'
 | .non=>Q false H'
 | .int i=>Q (i !=0) H'
 | x=>∃ k,Br K x H' k∧Q k H'
theorem qtb {e:Expr} {t:TE} (h:PE X e t) (he:∀ whole,isTrue e X.env whole=(do let v←whole;standAt e.pos;holding [v] (truthy v)):=by intro _;rfl):PT X e (bO X.K t):=by
 intro pins s σ H Q I q
 refine isTrue_plain (thn (h pins s σ H _ I q) fun v s1 ⟨x,H1,I1,r1,q1⟩=>Af pins s1 σ H1 x v Q I1 r1 ?_) (he _)
 cases x <;> first | exact ⟨_,rfl,q1⟩ | exact q1
def mOr (t u:TT):TT:=fun σ H Q=>t σ H fun c H1=>Sel c (Q true H1) (u σ H1 Q)
variable {a b c:Expr} {ta tb:TE} {tA tB':TT} {cq:List Expr} {pos:Pos}
theorem Am (ha:PT X a tA):PW X (.BoolOp .Or [a] pos) tA:=BL ha
theorem EO (ha:PT X a tA) (hb:PW X (.BoolOp .Or (b::cq) pos) tB'):PW X (.BoolOp .Or (a::b::cq) pos) (mOr tA tB'):=by
 intro wh pins s σ H Q I h
 refine isTrue_or (thn (ha pins s σ H _ I h) fun c s1 ⟨H1,I1,q1⟩=>?_)
 have q1:=dq q1
 cases c with
 | true=>exact ⟨H1,I1,q1⟩
 | false=>exact hb wh pins s1 σ H1 Q I1 q1
def bZ (ta tb:TE):TE:=fun σ H Q=>ta σ H fun x H1=>match x with | .bl c=>Sel c (tb σ H1 Q) (Q (.bl false) H1) | _=>False
def oR (ta tb:TE):TE:=fun σ H Q=>ta σ H fun x H1=>match x with | .bl c=>Sel c (Q (.bl true) H1) (tb σ H1 Q) | _=>False
def oa (ta:TE):TE:=fun σ H Q=>ta σ H fun x H1=>match x with | .bl c=>Q (.bl (!c)) H1 | _=>False
theorem GP (ha:PE X a ta) (hb:PE X (.BoolOp .And (b::cq) pos) tb):PE X (.BoolOp .And (a::b::cq) pos) (bZ ta tb):=by
 intro pins s σ H Q I h
 refine BoolOp_and (thn (ha pins s σ H _ I h) fun v s1 ⟨x,H1,I1,r1,q1⟩=>?_)
 cases x <;> first | exact q1.elim | skip
 rename_i c
 cases r1
 refine wpAny_truthy_bool ?_
 have q1:=dq q1
 cases c with
 | true=>exact hb pins s1 σ H1 Q I1 q1
 | false=>exact ⟨.bl false,H1,I1,rfl,q1⟩
theorem qor (ha:PE X a ta) (hb:PE X (.BoolOp .Or (b::cq) pos) tb):PE X (.BoolOp .Or (a::b::cq) pos) (oR ta tb):=by
 intro pins s σ H Q I h
 refine BoolOp_or (thn (ha pins s σ H _ I h) fun v s1 ⟨x,H1,I1,r1,q1⟩=>?_)
 cases x <;> first | exact q1.elim | skip
 rename_i c
 cases r1
 refine wpAny_truthy_bool ?_
 have q1:=dq q1
 cases c with
 | false=>exact hb pins s1 σ H1 Q I1 q1
 | true=>exact ⟨.bl true,H1,I1,rfl,q1⟩
theorem Gv (ha:PE X a ta):PE X (.UnaryOp .Not a pos) (oa ta):=by
 intro pins s σ H Q I h
 refine UnaryOp_ (thn (ha pins s σ H _ I h) fun v s1 ⟨x,H1,I1,r1,q1⟩=>?_)
 cases x <;> first | exact q1.elim | skip
 rename_i c
 cases r1
 exact not_of (wpAny_truthy_bool ⟨.bl (!c),H1,I1,rfl,q1⟩)
def mIf (t:TT) (ta tb:TE):TE:=fun σ H Q=>t σ H fun c H1=>Sel c (ta σ H1 Q) (tb σ H1 Q)
theorem Ie {c:Expr} (hc:PT X c tA) (ha:PE X a ta) (hb:PE X b tb):PE X (.IfExp c a b pos) (mIf tA ta tb):=by
 intro pins s σ H Q I h
 refine wpAny_IfExp (thn (hc pins s σ H _ I h) fun d s1 ⟨H1,I1,q1⟩=>?_)
 have q1:=dq q1
 cases d with
 | true=>exact ha pins s1 σ H1 Q I1 q1
 | false=>exact hb pins s1 σ H1 Q I1 q1
def aR (c:TT) (t u:TS):TS:=fun D σ H=>c σ H fun b H1=>Sel b (t D σ H1) (u D σ H1)
theorem qif {c:Expr} {l m:List Stmt} {tc:TT} {t u:TS} (hc:PT X c tc) (ha:PSs X l t) (hb:PSs X m u):PS X (.If c l m pos) (aR tc t u):=by
 intro pins s σ H D I h
 refine wpAny_If (thn (hc pins s σ H _ I h) fun d s1 ⟨H1,I1,q1⟩=>?_)
 have q1:=dq q1
 cases d with
 | true=>exact ha pins s1 σ H1 D I1 q1
 | false=>exact hb pins s1 σ H1 D I1 q1
theorem GL:bB X (.builtin "len") (fun xs H Q=>match xs with
   | [.str y]=>y.length≤sizeLine∧Q (.int y.length) H
   | [.ref p]=>(∃ xs,SqL X.K H p xs∧Q (.int xs.length) H)∨(∃ xs,SqT X.K H p xs∧Q (.int xs.length) H)∨∃ kvs,H p=some (.dK kvs)∧Q (.int kvs.length) H
   | _=>False):=by
 intro pins s σ H xs us Q I r h
 split at h
 · rename_i y
   exact kO pins s σ H _ us Q I r ⟨_,_,rfl,⟨h.1,rfl⟩,h.2⟩
 · rename_i p
   rcases h with ⟨ys,h1,h2⟩ | ⟨ys,h1,h2⟩ | ⟨kvs,h1,h2⟩
   · exact kO pins s σ H _ us Q I r ⟨_,_,rfl,.inl ⟨ys,h1,rfl⟩,h2⟩
   · exact kO pins s σ H _ us Q I r ⟨_,_,rfl,.inr ⟨ys,h1,rfl⟩,h2⟩
   · exact tY pins s σ H _ us Q I r ⟨p,kvs,rfl,h1,h2⟩
 · exact h.elim
end
end L2
namespace L2
open PySem PySem.Spec PyProof.Rows
section
variable {X:Cx} {tg:Expr}
def dM:V→Hp→VK→Prop:=fun x H Q=>match x with | .int i=>Q (.int (-i)) H | _=>False
theorem GV:UnR X (unaryOp .USub) dM:=fun pins s σ H x v Q I rx q=>As pins s σ H x v Q I rx (by
 unfold dM at q
 split at q
 · exact ⟨_,rfl,q⟩
 · exact q.elim)
def Cj (K:W.Frag):List V→Hp→VK→Prop:=fun xs H Q=>match xs with
 | [.str y]=>y.length≤sizeLine∧Q (.int y.length) H
 | [.ref p]=>(∃ xs,SqL K H p xs∧Q (.int xs.length) H)∨(∃ xs,SqT K H p xs∧Q (.int xs.length) H)∨∃ kvs,H p=some (.dK kvs)∧Q (.int kvs.length) H
 | _=>False
theorem HB:bB X (.builtin "len") (Cj X.K):=GL
def eD:List V→Hp→VK→Prop:=fun xs H Q=>match xs with
 | [x,.ty T]=>T∈["int", "bool", "str", "tuple", "list", "dict"]∧∃ t,tyN H x=some t∧Q (.bl (isI t T)) H
 | _=>False
theorem fL:bB X (.builtin "isinstance") eD:=fun pins s σ H xs us Q I r h=>by
 unfold eD at h
 split at h
 · obtain ⟨h1,t,h2,h3⟩:=h
   exact vI pins s σ H _ us Q I r ⟨_,_,t,rfl,h1,h2,h3⟩
 · exact h.elim
def wk:List V→Hp→VK→Prop:=fun xs H Q=>∃ (a:Addr) (bs:List Bool),xs=[.ref a]∧H a=some (.lst (bs.map V.bl))∧Q (.bl (bs.all id)) H
theorem Cl (hc:X.calm=true):bB X (.builtin "all") wk:=xg hc
def rW (K:W.Frag):List V→Hp→VK→Prop:=fun xs H Q=>∃ p ys,xs=[.ref p]∧(SqL K H p ys∨SqT K H p ys)∧∀ l,H l=none→Q (.ref l) (upd H l (.lst ys))
theorem DT:bB X (.type "list") (rW X.K):=pX
def pG (K:W.Frag):List V→Hp→VK→Prop:=fun xs H Q=>∃ p ys,xs=[.ref p]∧((SqL K H p ys∧∀ l,H l=none→Q (.ref l) (upd H l (.tup ys)))∨(SqT K H p ys∧Q (.ref p) H))
theorem AN:bB X (.type "tuple") (pG X.K):=nK
def mm:List V→Hp→VK→Prop:=fun xs H Q=>match xs with
 | [.int i]=>i.natAbs.log2<1920∧Q (.str (toString i)) H
 | _=>False
theorem rA:bB X (.type "str") mm:=fun pins s σ H xs us Q I r h=>by
 unfold mm at h
 split at h
 · exact pE pins s σ H _ us Q I r ⟨_,rfl,h.1,h.2⟩
 · exact h.elim
end
end L2
namespace L2
open PySem PySem.Spec PyProof.Rows
theorem uL:bootBuiltins "all" =some (.builtin "all"):=by decide +kernel
structure dQ (J:It) (n:Nat) (it:Nat→V) (Pv:Hp→Prop):Prop where
 go:∀ i H,i<n→Pv H→J.go i H
 yld:∀ i H x H',i<n→Pv H→J.yld i H x H'→H'=H∧x=it i
 stop:∀ H,Pv H→J.stop n H
theorem dQ.tuple {K:W.Frag} {a:Addr} {xs:List V} (d:V):dQ (Itt K a) xs.length (fun i=>xs.getD i d) (fun H=>SqT K H a xs) where
 go:=fun i H hi h=>⟨xs,xs[i],h,by simp [hi]⟩
 yld:=fun i H x H' hi h y=>⟨y.1,by have:=y.2 xs h;rw [List.getD_eq_getElem?_getD,this];rfl⟩
 stop:=fun H h=>⟨xs,h,Nat.le_refl _⟩
theorem dQ.range {lo:Int} {n:Nat}:dQ (Itr lo n) n (fun i=> .int (lo+i)) (fun _=>True) where
 go:=fun i H hi _=>hi
 yld:=fun i H x H' hi _ y=>y
 stop:=fun H _=>Nat.le_refl _
def CWd (n:Nat) (Pv:Nat→List V→Hp→Prop):Nat→Nat→List V→Hp→Prop:=fun i m ys H=>i≤n∧m=n - i∧Pv i ys H
theorem CWd.next {n i:Nat} {Pv:Nat→List V→Hp→Prop} {ys:List V} {H:Hp} (hi:i<n) (h:Pv (i+1) ys H):∃ m',m'<n - i∧CWd n Pv (i+1) m' ys H:=⟨n - (i+1),by omega,hi,rfl,h⟩
theorem eQ {J : It} {n : Nat} {it : Nat → V} {Pk : Hp → Prop} {σ : St} {is : List Nat} {tc : TT} {te : TE} {Q : VK} {H1 : Hp} {D : Addr} (T : dQ J n it Pk) (Pv : Nat → List V → Hp → Prop)
   (hk : ∀ i ys H, i ≤ n → Pv i ys H → Pk H) (h0 : Pv 0 [] (upd H1 D (.lst [])))
   (hs : ∀ i ys H2, i < n → Pv i ys H2 → tc (some (it i) :: bG σ is) H2 fun b H4 => if b = true then
    te (some (it i) :: bG σ is) H4 fun y H5 => H5 D = some (.lst ys) ∧ ys.length < sizeLine ∧ ∃ m', m' < n - i ∧ CWd n Pv (i + 1) m' (ys ++ [y]) (upd H5 D (.lst (ys ++ [y])))
    else ∃ m', m' < n - i ∧ CWd n Pv (i + 1) m' ys H4)
   (hd : ∀ ys H, Pv n ys H → Q (.ref D) H) : xW is tc te σ D J H1 Q := by
 refine ⟨CWd n Pv, ⟨n, Nat.zero_le _, rfl, h0⟩, ?_⟩
 rintro i m ys H2 ⟨hi, rfl, p⟩
 by_cases hlt : i < n
 · refine .inr ⟨T.go i H2 hlt (hk i ys H2 hi p), fun x H3 y => ?_⟩
   obtain ⟨rfl, rfl⟩ := T.yld i H2 x H3 hlt (hk i ys H2 hi p) y
   exact hs i ys _ hlt p
 · have e : i = n := by omega
   subst e
   exact .inl ⟨T.stop H2 (hk _ ys H2 hi p), hd ys H2 p⟩
theorem ao.upd {H:Hp} {p:Addr} {o:HO} (h:H p=none):ao H (upd H p o):=fun b u e=>by rw [aq (ay e h)];exact e
theorem oV {xs:List V} {i:Int} (h0:0≤i) (h1:i<xs.length):atI xs i=some (xs.getD i.toNat .non):=by
 unfold atI ixN
 rw [if_pos h0,if_pos h1]
 show xs[i.toNat]?=_
 rw [List.getD_eq_getElem?_getD]
 have:i.toNat<xs.length:=by omega
 rw [List.getElem?_eq_getElem this];rfl
end L2
namespace L2
open PySem PySem.Spec PyProof.Rows
def bM:Expr→Bool
 | .Starred _ _=>false
 | _=>true
theorem bc {e:Expr} (h:bM e=true) (cq:List Expr) (env:Env):starEach (e::cq) env=(false,eval e env)::starEach cq env:=by
 cases e <;> first | rfl | cases h
def bj:List Expr→Bool
 | []=>true
 | e::r=>bM e&&bj r
theorem bT : ∀ {es : List Expr} {env : Env} {pos : Pos}, bj es = true → (backTo pos (starEach es env)).any (·.1) = false
  | [], _, _, _ => rfl
  | e :: r, env, pos, h => by
    have h : (bM e && bj r) = true := h
    rw [Bool.and_eq_true] at h
    rw [bc h.1]
    show (false || (backTo pos (starEach r env)).any (·.1)) = false
    rw [bT h.2]; rfl
section
variable {X:Cx} {e:Expr} {es:List Expr} {te:TE} {t:TA} {pos:Pos}
theorem zE (ha:PE X e te) (hr:PA X es t) (hs:bM e=true:=by rfl):PA X (e::es) (aa te t):=zU ha hr (bc hs es X.env)
variable {x:Str} {p apos cpos:Pos} {id T:String} {r:List V→Hp→VK→Prop}
theorem yM (hc:bB X (.builtin id) r) (hg:Gl X x) (hm:X.mg x=none) (hv:bootBuiltins x=some (.builtin id)) (ha:PA X (e::es) t) (hn:x≠ "__name__" :=by decide) (hdb:(x==("__debug__" :Str))=false:=by decide)
  (hs:bj (e::es)=true:=by rfl):PE X (.Call (.Name x p) (e::es) [] pos) (tCB r t):=
 have h:(bM e&&bj es)=true:=hs
 wZ hc hg hm hv ha hn hdb (bc (Bool.and_eq_true_iff.mp h).1 es X.env) (bT (Bool.and_eq_true_iff.mp h).2)
theorem wN (hc:bB X (.type T) r) (hg:Gl X x) (hm:X.mg x=none) (hv:bootBuiltins x=some (.type T)) (ha:PA X (e::es) t) (hn:x≠ "__name__" :=by decide) (hdb:(x==("__debug__" :Str))=false:=by decide)
  (hs:bj (e::es)=true:=by rfl):PE X (.Call (.Name x p) (e::es) [] pos) (tCB r t):=
 have h:(bM e&&bj es)=true:=hs
 uJ hc hg hm hv ha hn hdb (bc (Bool.and_eq_true_iff.mp h).1 es X.env) (bT (Bool.and_eq_true_iff.mp h).2)
variable {CX:CXT} {k:Nat} {f C:Addr} {fd:FuncData} {ps:List Str} {sp:Sp} {dvs:List V} {ds:List Value} {E:XK} {m:Str} {o:Expr} {ta:TE}
theorem kq : ∀ {es : List Expr} {env : Env} {pos : Pos}, bj es = true → (backTo pos (starEach es env)).all (fun x => !x.1) = true
  | [], _, _, _ => rfl
  | e :: r, env, pos, h => by
    have h : (bM e && bj r) = true := h
    rw [Bool.and_eq_true] at h
    rw [bc h.1]
    show (true && (backTo pos (starEach r env)).all (fun x => !x.1)) = true
    rw [kq h.2]; rfl
variable {to:TE} {name:Str} {rm:V→List V→Hp→VK→Prop}
theorem Iw (pa:PlainAttrs T) (slot:Slot T name id) (hty:typeOf (.builtin id)=pure (.type "method_descriptor")) (hm:MtR X id rm) (ho:PE X o to) (ha:PA X (e::es) t)
  (hbase:attributeBase o name X.env (eval o X.env)=eval o X.env:=by rfl) (hfew:decide ((e::es).length<30)=true:=by rfl)
  (hline:(apos.endLine==cpos.line)=true:=by rfl) (hs:bj (e::es)=true:=by rfl):PE X (.Call (.Attribute o name apos) (e::es) [] cpos) (tBM X.K T rm to t):=
 have h:(bM e&&bj es)=true:=hs
 FX pa slot hty hm ho ha hbase (by rw [kq hs];exact hfew) hline (bc (Bool.and_eq_true_iff.mp h).1 es X.env) (bT (Bool.and_eq_true_iff.mp h).2)
end
end L2
namespace L2
open PySem PySem.Spec PyProof.Rows
structure QE (X:Cx) (e:Expr) (t:TE):Prop where
 out:PE X e t
structure QT (X:Cx) (e:Expr) (t:TT):Prop where
 out:PT X e t
structure QW (X:Cx) (e:Expr) (t:TT):Prop where
 out:PW X e t
structure QA (X:Cx) (e:List Expr) (t:TA):Prop where
 out:PA X e t
structure QS (X:Cx) (e:Stmt) (t:TS):Prop where
 out:PS X e t
structure QSs (X:Cx) (e:List Stmt) (t:TS):Prop where
 out:PSs X e t
structure QI (X:Cx) (tg iter:Expr) (t:TI):Prop where
 out:PI X tg iter t
structure QO (X:Cx) (e:Option Expr) (t:TO):Prop where
 out:PO X e t
structure vc (X:Cx) (e:List Expr) (t:TT):Prop where
 out:sE X e t
section
variable {X:Cx} {a b c e o:Expr} {es cq:List Expr} {ta tb tc te to tv:TE} {tA tB':TT} {t:TA} {pos apos cpos p:Pos} {x y:Str}
theorem ae (i:Nat) (hN:X.N[i]?=some x:=by rfl) (hv:Vis X.env.scope x:=by first | exact Or.inl rfl | exact Or.inr (Or.inl rfl) | exact Or.inr (Or.inr rfl)) (hd:(x==("__debug__" :Str))=false:=by decide)
 (hcd:(x==("__classdict__" :Str))=false:=by decide):QE X (.Name x pos) (ad i):=⟨qv i hN hv hd hcd⟩
theorem GW {i:Int} (hm:∃ t,X.mg x=some (.int i t)) (hg:Gl X x:=by rfl) (hd:(x==("__debug__" :Str))=false:=by decide):QE X (.Name x pos) (tC (.int i)):=⟨qgi hm hg hd⟩
theorem fw {T:String} (hm:X.mg x=none) (hv:bootBuiltins x=some (.type T)) (hg:Gl X x:=by rfl) (hn:x≠ "__name__" :=by decide) (hd:(x==("__debug__" :Str))=false:=by decide):QE X (.Name x pos) (tC (.ty T)):=⟨yQ hg hm hv rfl hn hd⟩
theorem aj {i:Int} {j}:QE X (.Constant (.int i) j pos) (tC (.int i)):=⟨AE⟩
theorem eE {b:Bool} {j}:QE X (.Constant (.bool b) j pos) (tC (.bl b)):=⟨Gw⟩
theorem gG {j}:QE X (.Constant .none j pos) (tC .non):=⟨Aa⟩
theorem bE {z:Str} {j}:QE X (.Constant (.str z) j pos) (tC (.str z)):=⟨Ci⟩
theorem er (ha:QE X a ta):QE X (.UnaryOp .USub a pos) (tUn dM ta):=⟨DR GV ha.out⟩
theorem xG (ha:QE X a ta):QE X (.UnaryOp .Not a pos) (oa ta):=⟨Gv ha.out⟩
theorem az {op:Operator} {r:R2} (ho:OpR X (binaryOp op) r) (ha:QE X a ta) (hb:QE X b tb):QE X (.BinOp a op b pos) (tOp r ta tb):=⟨DW ho ha.out hb.out⟩
theorem dS {op:CmpOp} {r:R2} (ho:OpR X (compareOp op) r) (ha:QE X a ta) (hb:QE X b tb) (hm:behindInMarks op b=false:=by first | exact la _ | rfl):QE X (.Compare a [op] [b] pos) (tOp r ta tb):=⟨qc ho ha.out hb.out hm⟩
theorem jP {op op':CmpOp} {r r':R2} (ho:OpR X (compareOp op) r) (ho':OpR X (compareOp op') r') (ha:QE X a ta) (hb:QE X b tb) (hc:QE X c tc) (hm:lastMarks [op,op'] [b,c]=false:=by with_unfolding_all rfl):
 QE X (.Compare a [op,op'] [b,c] pos) (dD r r' ta tb tc):=⟨qch ho ho' ha.out hb.out hc.out hm⟩
theorem dL {op} (h:QE X a ta):QE X (.BoolOp op [a] pos) ta:=⟨CF h.out⟩
theorem dc (ha:QE X a ta) (hb:QE X (.BoolOp .And (b::cq) pos) tb):QE X (.BoolOp .And (a::b::cq) pos) (bZ ta tb):=⟨GP ha.out hb.out⟩
theorem Cv (ha:QE X a ta) (hb:QE X (.BoolOp .Or (b::cq) pos) tb):QE X (.BoolOp .Or (a::b::cq) pos) (oR ta tb):=⟨qor ha.out hb.out⟩
theorem se (hc:QT X c tA) (ha:QE X a ta) (hb:QE X b tb):QE X (.IfExp c a b pos) (mIf tA ta tb):=⟨Ie hc.out ha.out hb.out⟩
theorem ag:QA X [] af:=⟨BD⟩
theorem ac (ha:QE X e te) (hr:QA X es t) (hs:bM e=true:=by rfl):QA X (e::es) (aa te t):=⟨zE ha.out hr.out hs⟩
theorem cf (h:QA X es t):QE X (.List es pos) (bQ t):=⟨Dm h.out⟩
theorem aU {x1} (h:QA X es t):QE X (.Tuple es x1 pos) (aO t):=⟨Dp h.out⟩
theorem aZ {r:R2} (hr:IxR X r) (ha:QE X a ta) (hb:QE X b tb) (hs:qS b):QE X (.Subscript a b pos) (tOp r ta tb):=⟨DV hr ha.out hb.out hs⟩
theorem gj:QO X none cX:=⟨zO⟩
theorem gh (h:QE X e te):QO X (some e) (dZ te):=⟨zo h.out⟩
theorem gf {r:V→Option Int→Option Int→Hp→VK→Prop} {lo hi:Option Expr} {tl th:TO} {p2:Pos} (hr:SlR X r) (he:QE X e te) (hl:QO X lo tl) (hu:QO X hi th):QE X (.Subscript e (.Slice lo hi none p2) pos) (tSl r te tl th):=⟨wj hr he.out hl.out hu.out⟩
variable {id T:String} {r:List V→Hp→VK→Prop}
theorem aY (hc:bB X (.builtin id) r) (hm:X.mg x=none) (hv:bootBuiltins x=some (.builtin id)) (ha:QA X (e::es) t) (hg:Gl X x:=by rfl) (hn:x≠ "__name__" :=by decide) (hdb:(x==("__debug__" :Str))=false:=by decide)
 (hs:bj (e::es)=true:=by rfl):QE X (.Call (.Name x p) (e::es) [] pos) (tCB r t):=⟨yM hc hg hm hv ha.out hn hdb hs⟩
theorem eC (hc:bB X (.type T) r) (hm:X.mg x=none) (hv:bootBuiltins x=some (.type T)) (ha:QA X (e::es) t) (hg:Gl X x:=by rfl) (hn:x≠ "__name__" :=by decide) (hdb:(x==("__debug__" :Str))=false:=by decide)
 (hs:bj (e::es)=true:=by rfl):QE X (.Call (.Name x p) (e::es) [] pos) (tCB r t):=⟨wN hc hg hm hv ha.out hn hdb hs⟩
variable {CX:CXT} {k:Nat} {f C:Addr} {fd:FuncData} {ps:List Str} {sp:Sp} {dvs:List V} {ds:List Value} {E:XK} {m:Str}
variable {name:Str} {rm:V→List V→Hp→VK→Prop}
theorem fM (pa:PlainAttrs T) (slot:Slot T name id) (hty:typeOf (.builtin id)=pure (.type "method_descriptor")) (hm:MtR X id rm) (ho:QE X o to) (ha:QA X (e::es) t)
 (hbase:attributeBase o name X.env (eval o X.env)=eval o X.env:=by rfl) (hfew:decide ((e::es).length<30)=true:=by rfl)
 (hline:(apos.endLine==cpos.line)=true:=by rfl) (hs:bj (e::es)=true:=by rfl):QE X (.Call (.Attribute o name apos) (e::es) [] cpos) (tBM X.K T rm to t):=⟨Iw pa slot hty hm ho.out ha.out hbase hfew hline hs⟩
theorem be {op:CmpOp} {r:R2} (ho:OpR X (compareOp op) r) (ha:QE X a ta) (hb:QE X b tb) (hm:behindInMarks op b=false:=by first | exact la _ | rfl):QT X (.Compare a [op] [b] pos) (aT (tOp r ta tb)):=⟨qtc ho ha.out hb.out hm⟩
theorem kG {op op':CmpOp} {r r':R2} (ho:OpR X (compareOp op) r) (ho':OpR X (compareOp op') r') (ha:QE X a ta) (hb:QE X b tb) (hc:QE X c tc) (hm:lastMarks [op,op'] [b,c]=false:=by with_unfolding_all rfl):
 QT X (.Compare a [op,op'] [b,c] pos) (aT (dD r r' ta tb tc)):=⟨Iq ho ho' ha.out hb.out hc.out hm⟩
theorem bL (h:QE X e te) (he:∀ whole,isTrue e X.env whole=(do let v←whole;standAt e.pos;holding [v] (truthy v)):=by intro _;rfl):QT X e (bO X.K te):=⟨qtb h.out he⟩
theorem df (ha:QT X a tA):QT X (.UnaryOp .Not a pos) (dj tA):=⟨Ae ha.out⟩
theorem x_w (h:QW X e tA):QT X e tA:=⟨h.out.pt⟩
theorem pf (ha:QT X a tA):QW X (.BoolOp .Or [a] pos) tA:=⟨Am ha.out⟩
theorem sW (ha:QT X a tA) (hb:QW X (.BoolOp .Or (b::cq) pos) tB'):QW X (.BoolOp .Or (a::b::cq) pos) (mOr tA tB'):=⟨EO ha.out hb.out⟩
variable {tg iter elt:Expr} {wi:TI} {ifs:List Expr} {scope:Scope} {ys:List Str} {is:List Nat} {px py spos:Pos}
theorem iE (hm:X.mg "range" =none) (ha:QA X [a] t) (hg:Gl X "range" :=by rfl) (hs:bM a=true:=by rfl):QI X tg (.Call (.Name "range" p) [a] [] pos) (gJ t):=⟨uK hg hm ha.out (bc hs [] X.env)⟩
theorem iJ (hm:X.mg "range" =none) (ha:QA X [a,b] t) (hg:Gl X "range" :=by rfl) (hs:bM a=true:=by rfl) (hs2:bM b=true:=by rfl):QI X tg (.Call (.Name "range" p) [a,b] [] pos) (gH t):=
 ⟨uD hg hm ha.out (by rw [bc hs,bc hs2];rfl) (bc hs2 [] X.env)⟩
theorem fI:vc X [] (fun _ H Q=>Q true H):=⟨rfl⟩
theorem ip {tcn:TT} (S:eK scope x ys) (hcap:fO X scope ys is) (hi:QI X (.Name x px) iter wi)
 (hif:∀ C s H fp,vc (bw X scope C (x::ys) s H fp) ifs tcn) (he:∀ C s H fp,QE (bw X scope C (x::ys) s H fp) elt te) (hc:X.calm=true:=by rfl)
 (hs:∀ x,foldedSetIterable iter X.env x=pure x:=by intro _;rfl):QE X (.ListComp elt [⟨.Name x px,iter,ifs,0⟩] scope pos) (dJ is wi tcn te):=⟨zF hc S hcap hi.out (fun C s H fp=>(hif C s H fp).out) (fun C s H fp=>(he C s H fp).out) hs⟩
variable {st:Stmt} {sts:List Stmt} {tS uS:TS} {i j:Nat}
theorem aP:QSs X [] aK:=⟨zg⟩
theorem ar (h:QS X st tS):QSs X [st] tS:=⟨zC h.out⟩
theorem ak (h1:QS X st tS) (h2:QSs X sts uS):QSs X (st::sts) (av tS uS):=⟨vj h1.out h2.out⟩
theorem aF (h:QE X e te):QS X (.Return (some e) pos) (aD te):=⟨Au h.out⟩
theorem aV {l m:List Stmt} (hc:QT X c tA) (ha:QSs X l tS) (hb:QSs X m uS):QS X (.If c l m pos) (aR tA tS uS):=⟨qif hc.out ha.out hb.out⟩
theorem aC (i:Nat) (hN:X.N.Nodup) (he:QE X e te) (hi:X.N[i]?=some x:=by rfl) (hx:Loc X.env.scope x:=by first | exact .inl rfl | exact .inr rfl)
 (hs:swapsWith e (some (.Name x p)) pos.line X.env=pure false:=by rfl) (hf:X.fn x=true∨X.env.scope.names.lookup x=some .local:=by first | exact .inl rfl | exact .inr rfl):QS X (.Assign [.Name x p] e pos) (aA te (aw i)):=⟨Az hN hi hx he.out hs hf⟩
theorem nA (j:Nat) {tcn:TT} (hN:X.N.Nodup) (S:eK scope x ys) (hcap:fO X scope ys is) (hi:QI X (.Name x px) iter wi)
  (hif:∀ C s H fp,vc (bw X scope C (x::ys) s H fp) ifs tcn) (he:∀ C s H fp,QE (bw X scope C (x::ys) s H fp) elt te) (hc:X.calm=true:=by rfl)
  (hj:X.N[j]?=some y:=by rfl) (hy:Loc X.env.scope y:=by first | exact .inl rfl | exact .inr rfl)
  (hsw:swapsWith (.ListComp elt [⟨.Name x px,iter,ifs,0⟩] scope pos) (some (.Name y py)) spos.line X.env=pure true:=by rfl) (hf:X.fn y=true∨X.env.scope.names.lookup y=some .local:=by first | exact .inl rfl | exact .inr rfl)
  (hs:∀ x,foldedSetIterable iter X.env x=pure x:=by intro _;rfl):QS X (.Assign [.Name y py] (.ListComp elt [⟨.Name x px,iter,ifs,0⟩] scope pos) spos) (aA (dJ is wi tcn te) (aw j)):=
 ⟨rB hN hj hy hc S hcap hi.out (fun C s H fp=>(hif C s H fp).out) (fun C s H fp=>(he C s H fp).out) hsw hf hs⟩
theorem cF (h:QE X e te) (hs:swapsWith e none pos.line X.env=pure false:=by rfl):QS X (.Expr e pos) (cz te):=⟨zr h.out hs⟩
theorem jS (i:Nat) (hN:X.N.Nodup) {body:List Stmt} (hi:QI X (.Name x px) iter wi) (hb:QSs X body tS) (hp:PassesOwn (model X.prog X.w) X.A X.env X.xe) (hc:X.calm=true:=by rfl)
 (hj:X.N[i]?=some x:=by rfl) (hx:Loc X.env.scope x:=by first | exact .inl rfl | exact .inr rfl) (hf:X.fn x=true∨X.env.scope.names.lookup x=some .local:=by first | exact .inl rfl | exact .inr rfl)
 (hs:∀ x,foldedSetIterable iter X.env x=pure x:=by intro _;rfl):QS X (.For (.Name x px) iter body [] pos) (gQ wi (aw i) tS):=⟨AR hp hc hi.out (me hN hj hx hf) hb.out hs⟩
theorem ms {body:List Stmt} (hc:QT X c tA) (hb:QSs X body tS) (hp:PassesOwn (model X.prog X.w) X.A X.env X.xe):QS X (.While c body [] pos) (ii tA tS):=⟨xn hp hc.out hb.out⟩
theorem mq:QS X st jq:=⟨wS⟩
end
end L2
namespace HT
open PySem PyProof.Rows
structure Hd0 (vs:Array Value) (a0:Value):Prop where
 a:vs[0]?=some a0
 b:vs[2]?=some .none
structure TrD (h base:Heap) (e:Addr) (cls a0:Value) (d:Option Addr) (fl:Value):Prop where
 ex:∃ oe vs T oT ts,h.get? e=some oe∧oe.cls=cls∧oe.dict=d∧oe.data=.fields vs∧Hd0 vs a0∧vs[1]?=some (.ref T)∧base.get? T=none∧T≠e∧h.get? T=some oT∧oT.data=.fields ts∧ts[3]?=some fl
structure kX (base:Heap) (l:List Env) (e:Addr) (cls a0:Value) (d:Option Addr) (fl:Value) (h h':Heap):Prop where
 st:base.StaysIn h'
 fr:h'.FunFrames base l
 tr:TrD h' base e cls a0 d fl
 up:h.UpToSlots h'
theorem mF (o:Obj) (f:Array Value→Array Value):(Obj.mapFields f o).dict=o.dict:=by
 obtain ⟨c,d,dt,sl⟩:=o
 cases dt <;> rfl
section
variable {M:Model} {A:Around} {E:Value→Shared→Prop} {s:Shared} {base:Heap} {env:Env} {outer:List Env} {L e:Addr} {cls a0:Value} {d:Option Addr} {Q:Unit→Shared→Prop}
theorem tL {oe:Obj} {vs:Array Value} {head:Value} {hadNext:Bool} (hfr:A.frames=some (env::outer)) (hl:s.heap.FunFrames base (env::outer)) (hf:env.frame=some L) (he:s.heap.get? e=some oe) (hc:oe.cls=cls) (hdc:oe.dict=d)
   (hkb:base.StaysIn s.heap) (hen:base.get? e=none) (hd:oe.data=.fields vs) (hsz:1<vs.size) (h0:Hd0 vs a0) (h:∀ h',kX base (env::outer) e cls a0 d (rawInt L) s.heap h'→Q () { s with heap:=h' }):
   wpAny M A (do let a←frameOf env;let pl←entryPlaceOf L hadNext;let b←EntryCells.newEntry head a .none (rawInt L) .none pl;setField (.ref e) 1 b) Q E s:=by
 have nfr:e∉(env::outer).filterMap (·.frame):=fun hm=>by
   obtain ⟨_,o,ho,hnf⟩:=hl.mem hm
   rw [he] at ho
   cases ho
   exact hnf vs hd
 refine wpAny_bind (wpAny_frameOf_fun hfr hl hf fun h1 s1=>wpAny_bind (wpAny_entryPlaceOf fun pl hpl=>?_))
 unfold EntryCells.newEntry newFields
 refine wpAny_bind (wpAny_newObj_type ?_ (hpl.sizeOk5 _ _ _ _ _))
 generalize hts:([head,Value.ref L,.none,rawInt L,.none]++(if pl.isEmpty then List.replicate 6 Value.none else pl)).toArray=ts
 have hts3:ts[3]?=some (rawInt L):=by rw [← hts];first | (simp;done) | (rcases hpl with rfl | ⟨_,_,_,_,_,_,_,rfl⟩ <;> simp)
 have e1:h1.get? e=some oe:=(s1.2.1 e nfr).trans he
 have kb1:base.StaysIn h1:=fun b o hbo=>(s1.2.1 b fun hm=>by rw [(hl.mem hm).1] at hbo;cases hbo).trans (hkb b o hbo)
 have e2:(h1.push { cls:=.type "traceback",dict:=none,data:=.fields ts }).get? e=some oe:=Heap.get?_push_of_some _ e1
 have nT:h1.objs.size≠e:=Nat.ne_of_gt (Heap.lt_size e1)
 refine wpAny_setField e2 hd hsz (h _ ?_)
 have d3:=Obj.data_mapFields hd (·.setIfInBounds 1 (Value.ref h1.objs.size))
 have e3:=Heap.get?_update_self (Obj.mapFields (·.setIfInBounds 1 (Value.ref h1.objs.size))) e2 (Obj.isFreed_of_fields d3)
 have kp:∀ b o,b≠e→h1.get? b=some o→((h1.push { cls:=.type "traceback",dict:=none,data:=.fields ts }).update e (Obj.mapFields (·.setIfInBounds 1 (Value.ref h1.objs.size)))).get? b=some o:=fun b o nb eb=>
   (Heap.get?_update_other _ _ (Ne.symm nb)).trans (Heap.get?_push_of_some _ eb)
 have T3:=(Heap.get?_update_other (h1.push { cls:=.type "traceback",dict:=none,data:=.fields ts }) (Obj.mapFields (·.setIfInBounds 1 (Value.ref h1.objs.size))) (Ne.symm nT)).trans (Heap.get?_push_size h1 rfl)
 have nr:∀ b o,s.heap.get? b=some o→(∀ vs,o.data≠ .fields vs)→b≠e:=fun b o hb hnf q=>by
   rw [q,he] at hb
   cases hb
   exact hnf vs hd
 refine ⟨fun b o hbo=>kp b o (fun q=>by rw [q,hen] at hbo;cases hbo) (kb1 b o hbo),hl.of_keeps fun b o hb hnf=>?_,⟨_,_,h1.objs.size,_,ts,e3,(Obj.cls_mapFields ..).trans hc,(mF ..).trans hdc,d3,?_,by simp [hsz],kb1.fresh,nT,T3,rfl,hts3⟩,fun b o hb hnf=>?_⟩
 · obtain ⟨sl,hs⟩:=s1.2.2 b o hb
   exact ⟨_,kp b _ (nr b o hb hnf) hs,rfl⟩
 · exact ⟨by rw [Array.getElem?_setIfInBounds_ne (by decide)];exact h0.a,by rw [Array.getElem?_setIfInBounds_ne (by decide)];exact h0.b⟩
 · obtain ⟨sl,hs⟩:=s1.2.2 b o hb
   exact ⟨sl,kp b _ (nr b o hb hnf) hs⟩
theorem qf {oe:Obj} {vs:Array Value} (hfr:A.frames=some (env::outer)) (hl:s.heap.FunFrames base (env::outer)) (hf:env.frame=some L) (he:s.heap.get? e=some oe) (hc:oe.cls=cls) (hdc:oe.dict=d) (hkb:base.StaysIn s.heap) (hen:base.get? e=none)
  (hd:oe.data=.fields vs) (h1:vs[1]?=some .none) (h0:Hd0 vs a0) (h:∀ h',kX base (env::outer) e cls a0 d (rawInt L) s.heap h'→Q () { s with heap:=h' }):wpAny M A (noteFrame (.ref e) env) Q E s:=by
 unfold noteFrame
 simp only [hf]
 refine wpAny_bind (wpAny_field he hd h1 ?_)
 rw [if_neg (by decide)]
 exact tL hfr hl hf he hc hdc hkb hen hd (Array.getElem?_eq_some_iff.mp h1).1 h0 h
theorem Ad {fl fl':Value} {T:Addr} {oT:Obj} {ts:Array Value} {l:List Env} {oe:Obj} {vs:Array Value} (hkb:base.StaysIn s.heap) (hl:s.heap.FunFrames base l) (he:s.heap.get? e=some oe) (hc:oe.cls=cls) (hdc:oe.dict=d) (hd:oe.data=.fields vs) (h0:Hd0 vs a0)
  (h1:vs[1]?=some (.ref T)) (nT:base.get? T=none) (Te:T≠e) (hT:s.heap.get? T=some oT) (hdT:oT.data=.fields ts) (h3:ts[3]?=some fl) (h:∀ h',kX base l e cls a0 d fl' s.heap h'→(h'.get? e=some oe)→Q () { s with heap:=h' }):wpAny M A (setField (.ref T) 3 fl') Q E s:=by
 have sz:=(Array.getElem?_eq_some_iff.mp h3).1
 have ot:∀ b,b≠T→(s.heap.update T (Obj.mapFields (·.setIfInBounds 3 fl'))).get? b=s.heap.get? b:=fun b hb=>Heap.get?_update_other _ _ (Ne.symm hb)
 have nr:∀ b o,s.heap.get? b=some o→(∀ vs,o.data≠ .fields vs)→b≠T:=fun b o hb hnf q=>by
  rw [q,hT] at hb
  cases hb
  exact hnf ts hdT
 refine wpAny_setField hT hdT sz (h _ ⟨fun b o hbo=>(ot b fun q=>by rw [q,nT] at hbo;cases hbo).trans (hkb b o hbo),hl.of_keeps fun b o hb hnf=>⟨o,(ot b (nr b o hb hnf)).trans hb,rfl⟩,
  ⟨oe,vs,T,_,_,(ot e (Ne.symm Te)).trans he,hc,hdc,hd,h0,h1,nT,Te,Heap.get?_update_self _ hT (Obj.isFreed_of_fields (Obj.data_mapFields hdT _)),Obj.data_mapFields hdT _,by simp [sz]⟩,fun b o hb hnf=>⟨o.slots,(ot b (nr b o hb hnf)).trans hb⟩⟩ ((ot e (Ne.symm Te)).trans he))
theorem kf {fl:Value} {l:List Env} (hkb:base.StaysIn s.heap) (hl:s.heap.FunFrames base l) (ht:TrD s.heap base e cls a0 d fl) (h:∀ h',kX base l e cls a0 d .none s.heap h'→Q () { s with heap:=h' }):wpAny M A (setFlight (.ref e) none) Q E s:=by
 obtain ⟨oe,vs,T,oT,ts,he,hc,hdc,hd,h0,h1,nT,Te,hT,hdT,h3⟩:=ht.ex
 unfold setFlight
 refine wpAny_bind (wpAny_field he hd h1 ?_)
 rw [if_pos (show (Value.ref T !=Value.none)=true from by simp)]
 exact Ad hkb hl he hc hdc hd h0 h1 nT Te hT hdT h3 fun h' n _=>h h' n
theorem lV (hfr:A.frames=some (env::outer)) (hl:s.heap.FunFrames base (env::outer)) (hf:env.frame=some L) (ht:TrD s.heap base e cls a0 d .none) (hkb:base.StaysIn s.heap) (hen:base.get? e=none)
  (h:∀ h',kX base (env::outer) e cls a0 d (rawInt L) s.heap h'→Q () { s with heap:=h' }):wpAny M A (noteFrame (.ref e) env) Q E s:=by
 obtain ⟨oe,vs,T,oT,ts,he,hc,hdc,hd,h0,h1,nT,Te,hT,hdT,h3⟩:=ht.ex
 unfold noteFrame
 simp only [hf]
 refine wpAny_bind (wpAny_field he hd h1 ?_)
 rw [if_pos (show (Value.ref T !=Value.none)=true from by simp)]
 refine wpAny_bind (wpAny_field hT hdT h3 ?_)
 rw [if_neg (show ¬ ((Value.none==rawInt L)=true) from by simp [rawInt])]
 refine wpAny_bind (Ad (fl':=.none) hkb hl he hc hdc hd h0 h1 nT Te hT hdT h3 fun h' n he'=>?_)
 exact tL (s:={ s with heap:=h' }) hfr n.fr hf he' hc hdc n.st hen hd (Array.getElem?_eq_some_iff.mp h1).1 h0 fun h2 n2=>h h2 ⟨n2.st,n2.fr,n2.tr,n.up.trans n2.up⟩
theorem pb {oe:Obj} {vs:Array Value} (hfr:A.frames=some (env::outer)) (hl:s.heap.FunFrames base (env::outer)) (hf:env.frame=some L) (he:s.heap.get? e=some oe) (hc:oe.cls=cls) (hdc:oe.dict=d) (hkb:base.StaysIn s.heap) (hen:base.get? e=none)
  (hd:oe.data=.fields vs) (h1:vs[1]?=some .none) (h0:Hd0 vs a0) (h:∀ h',kX base outer e cls a0 d .none s.heap h'→Q () { s with heap:=h' }):wpAny M A (leaving env (.ref e)) Q E s:=by
 unfold leaving
 refine wpAny_bind (qf hfr hl hf he hc hdc hkb hen hd h1 h0 fun h' n=>?_)
 obtain ⟨n1,⟨_,_,n2⟩,n3,n4⟩:=n
 exact kf (s:={ s with heap:=h' }) n1 n2 n3 fun h2 m=>h h2 ⟨m.st,m.fr,m.tr,n4.trans m.up⟩
theorem qh (hfr:A.frames=some (env::outer)) (hl:s.heap.FunFrames base (env::outer)) (hf:env.frame=some L) (ht:TrD s.heap base e cls a0 d .none) (hkb:base.StaysIn s.heap) (hen:base.get? e=none)
  (h:∀ h',kX base outer e cls a0 d .none s.heap h'→Q () { s with heap:=h' }):wpAny M A (leaving env (.ref e)) Q E s:=by
 unfold leaving
 refine wpAny_bind (lV hfr hl hf ht hkb hen fun h' n=>?_)
 obtain ⟨n1,⟨_,_,n2⟩,n3,n4⟩:=n
 exact kf (s:={ s with heap:=h' }) n1 n2 n3 fun h2 m=>h h2 ⟨m.st,m.fr,m.tr,n4.trans m.up⟩
end
end HT
namespace L2
open PySem PySem.Spec PyProof.Rows
abbrev veM:List Value:=[.type "ValueError",.type "Exception",.type "BaseException",.type "object"]
def eZ (K:W.Frag) (C D:Addr):Option Bool:=match K.lookup C with
 | some ⟨_,_,.cls cd,_⟩=>some (cd.mro.contains (.ref D))
 | _=>none
def lQ (K : W.Frag) (C : Addr) : Bool := match K.lookup C with
  | some ⟨.type "type", _, .cls cd, sl⟩ => (match cd.mro, sl.toList with
    | .ref C' :: bm, [_, _, _, _, some (.builtin n), _] => C' == C && n == "ValueError.__new__" && !cd.hasDel && W.tailIn K veM bm && W.nsOkIn K cd.ns
    | _, _ => false)
  | _ => false
def bV (K:W.Frag) (C:Addr):Prop:=lQ K C=true
def cY (K:W.Frag) (C:Addr):Prop:=W.excIn K C veM "ValueError.__new__" =true
theorem cY.ok {K:W.Frag} {C:Addr} (q:cY K C):bV K C:=by
 unfold cY W.excIn at q
 unfold bV lQ
 split at q
 · rename_i dd cd sl ho
   split at q
   · rename_i C' bm k0 k1 k2 k3 n k5 hm hs
     rw [ho]
     simp only [hm,hs]
     simp only [Bool.and_eq_true] at q ⊢
     exact q.1
   · cases q
 · cases q
theorem eO {K : W.Frag} {h : Heap} {C : Addr} (X : K.In h) (q : bV K C) :
   ∃ bm N nm qn bs hdct sn sub ab col dd k0 k1 k2 k3 k5 mN, h.get? C = some (excClassObj nm qn C N bs bm hdct sn sub ab col dd k0 k1 k2 k3 k5 "ValueError.__new__") ∧ h.Ns N mN ∧ (cY K C → mN "__init__" = none) ∧ OwnTail h veM bm ∧
     ∀ D, eZ K C D = some ((Value.ref C :: bm).contains (.ref D)) := by
 have q2 := q
 unfold bV lQ at q
 split at q
 · rename_i dd cd sl ho
   split at q
   · rename_i C' bm k0 k1 k2 k3 n k5 hm hs
     simp only [Bool.and_eq_true, beq_iff_eq, Bool.not_eq_true'] at q
     obtain ⟨⟨⟨⟨rfl, rfl⟩, hdel⟩, ht⟩, hok⟩ := q
     obtain ⟨nm, bs, mro, ns, qn, hd, sn, sub, ab, col, del⟩ := cd
     dsimp only at hm hdel hok
     subst hm hdel
     have hsl : sl = #[k0, k1, k2, k3, some (.builtin "ValueError.__new__"), k5] := by
       obtain ⟨l⟩ := sl
       simp only at hs
       rw [hs]
     subst hsl
     refine ⟨bm, ns, nm, qn, bs, hd, sn, sub, ab, col, dd, k0, k1, k2, k3, k5, _, X _ _ ho, .of_isNs (W.isNs_of_in X hok), fun r => ?_, W.tail_of_in X ht, fun D => ?_⟩
     · unfold cY W.excIn at r
       rw [ho] at r
       simp only [Bool.and_eq_true, beq_iff_eq] at r
       exact W.nsMap_none_of_in X hok r.2
     · unfold eZ
       rw [ho]
   · cases q
 · cases q
theorem mw {M:Model} {A:Around} {E:Value→Shared→Prop} {s:Shared} {K:W.Frag} {C D e:Addr} {oe:Obj} {Q:Bool→Shared→Prop} {b:Bool} (X:K.In s.heap) (hC:bV K C) (hD:bV K D) (he:s.heap.get? e=some oe) (hcls:oe.cls=.ref C)
  (hs:eZ K C D=some b) (hq:Q b s):wpAny M A (excMatches (.ref e) (.ref D)) Q E s:=by
 obtain ⟨bm,N,nm,qn,bs,hdct,sn,sub,ab,col,dd,k0,k1,k2,k3,k5,mN,oC,_,_,_,hsub⟩:=eO X hC
 obtain ⟨bm',N',nm',qn',bs',hdct',sn',sub',ab',col',dd',k0',k1',k2',k3',k5',mN',oD,_,_,T',_⟩:=eO X hD
 have hb:(Value.ref C::bm).contains (.ref D)=b:=Option.some.inj ((hsub D).symm.trans hs)
 have hbase:(Value.ref D::bm').contains (.type "BaseException")=true:=by
  rw [List.contains_cons,T'.hasType (X:= "BaseException") (b:=true) (by decide +kernel),Bool.or_true]
 have f:=tc_notTuple
 obtain ⟨hp,g,d,t,os⟩:=s
 unfold excMatches
 repeat (first | (with_reducible refine wpAny_loadPart_at he ?_;rw [hcls]) | with_reducible refine wpAny_loadPart_at oD ?_ | (with_reducible refine wpAny_isSubtype_exc oC ?_;rw [hb]) | (with_reducible refine wpAny_isSubtype_exc oD ?_;rw [hbase]) | wp_step)
 all_goals first | exact hq | (cases b <;> first | exact hq | (repeat (first | exact hq | wp_step)))
structure Fly (P:Program) (w:World) (l:List Env) (H:Hp) (s:Shared) (cls fl:Value) (a:Addr) (d:Option Addr) (H':Hp) (s':Shared):Prop where
 os:s'.os=s.os
 bare:AllBare s'.gens
 un:Un (frs l) [] H H' s.heap s'.heap
 hok:HOk P w H' s'.heap
 new:s.heap.get? a=none
 free:H' a=none
 tr:∃ oe vs a0 T oT ts,s'.heap.get? a=some oe∧oe.cls=cls∧oe.dict=d∧oe.data=.fields vs∧HT.Hd0 vs a0∧vs[1]?=some (.ref T)∧T≠a∧s'.heap.get? T=some oT∧oT.data=.fields ts∧ts[3]?=some fl∧s.heap.get? T=none∧H' T=none
def CX1 (P:Program) (w:World):CXT:=fun outer H s E e s'=>∃ a C d H',e=.ref a∧Fly P w outer H s (.ref C) .none a d H' s'∧E (.ref C) d H'
theorem iH {P:Program} {w:World} {H:Hp} {h:Heap} {a:Addr} {o:HO} (x:ba P w H h a o):∃ u,h.get? a=some u:=by
 cases o with
 | lst xs=>obtain ⟨_,_,_,_,e⟩:=x;exact ⟨_,e⟩
 | tup xs=>obtain ⟨_,_,_,p⟩:=x;obtain ⟨o,e,_⟩:=p;exact ⟨_,e⟩
 | dK kvs=>obtain ⟨_,_,_,_,o,_,_,e,_⟩:=x;exact ⟨_,e⟩
 | dT kvs=>obtain ⟨_,_,_,_,o,_,_,e,_⟩:=x;exact ⟨_,e⟩
 | set S n=>obtain ⟨o,_,_,_,e,_⟩:=x;exact ⟨_,e⟩
 | ins C dx fs=>obtain ⟨_,_,_,e,_⟩:=x;exact ⟨_,e⟩
 | own y=>exact x
 | xd fs=>obtain ⟨_,⟨_,_,_,e,_⟩,_⟩:=x;exact ⟨_,e⟩
 | rng lo hi=>obtain ⟨_,_,_,e⟩:=x;exact ⟨_,e⟩
 | frz ob u=>obtain ⟨e,_⟩:=x;exact ⟨_,e⟩
 | tbl ps=>exact ⟨_,(show h.get? a=some _ from x)⟩
 | met f y=>exact ⟨_,(show h.get? a=some _ from x)⟩
 | ext φ=>obtain ⟨_,e,_⟩:=x;exact e
section
variable {P:Program} {w:World} {l:List Env} {H H':Hp} {s s':Shared} {cls fl fl':Value} {a:Addr} {d:Option Addr} {base:Heap}
def fv (h:Heap) (l:List Env) (a T:Addr):Heap:=W.hideAll h (a::T::frs l)
theorem Fly.frames (F : Fly P w l H s cls fl a d H' s') (ff : s.heap.FunFrames base l) (frf : ∀ b ∈ frs l, H b = none) : s'.heap.FunFrames base l := by
  have all : ∀ (k : List Env), (∀ b ∈ frs k, b ∈ frs l) → s.heap.FunFrames base k → s'.heap.FunFrames base k := by
    intro k
    induction k with
    | nil => intro _ _; trivial
    | cons env r ih =>
      intro hs hl
      obtain ⟨hk, ⟨L, o, hf, hn, ho, hd⟩, hr⟩ := hl
      have hL : L ∈ frs l := hs L (by unfold frs; rw [List.filterMap_cons, hf]; exact List.mem_cons_self)
      obtain ⟨sl, e⟩ := F.un.slot L o ho (frf L hL) hL (by simp)
      exact ⟨hk, ⟨L, _, hf, hn, e, hd⟩, ih (fun b hb => hs b (by unfold frs; rw [List.filterMap_cons, hf]; exact List.mem_cons_of_mem _ hb)) hr⟩
  exact all l (fun _ hb => hb) ff
theorem jI {h B B':Heap}:∀ {k:List Env},h.FunFrames B k→(∀ b∈frs k,B'.get? b=none)→h.FunFrames B' k
 | [],_,_=>trivial
 | env::r,⟨hk,⟨L,o,hf,hn,ho,hd⟩,hr⟩,hb=>⟨hk,⟨L,o,hf,hb L (by unfold frs;rw [List.filterMap_cons,hf];exact List.mem_cons_self),ho,hd⟩,jI hr fun b h=>hb b (by unfold frs;rw [List.filterMap_cons,hf];exact List.mem_cons_of_mem _ h)⟩
theorem Fly.moved (F : Fly P w l H s cls fl a d H' s') (ff : s.heap.FunFrames base l) (frf : ∀ b ∈ frs l, H b = none) (ffs : ∀ b ∈ frs l, H' b = none) {T : Addr} {oT : Obj} (hT0 : s.heap.get? T = none) (hT1 : H' T = none) {h' : Heap} {a0 : Value}
    (st : (fv s'.heap l a T).StaysIn h') (up : s'.heap.UpToSlots h') (tr : HT.TrD h' (fv s'.heap l a T) a cls a0 d fl') : Fly P w l H s cls fl' a d H' { s' with heap := h' } := by
  have kp : ∀ b o, s'.heap.get? b = some o → b ≠ a → b ≠ T → b ∉ frs l → h'.get? b = some o := fun b o e h1 h2 h3 => st b o (W.hideAll_get _ e (by simp [h1, h2, h3]))
  have ff' := F.frames ff frf
  have nf : ∀ b ∈ frs l, ∀ o, s'.heap.get? b = some o → ∀ vs, o.data ≠ .fields vs := fun b hb o e vs z => by
    obtain ⟨_, o', ho, hd⟩ := ff'.mem hb
    rw [e] at ho; cases ho
    exact hd vs z
  have old : ∀ b o, s.heap.get? b = some o → b ≠ a ∧ b ≠ T := fun b o e => ⟨fun z => (by rw [z, F.new] at e; cases e), fun z => (by rw [z, hT0] at e; cases e)⟩
  refine ⟨F.os, F.bare, ⟨fun b o e n hb hx => ?_, fun b o e n hb hx => ?_, F.un.free, fun b o e hx => ?_, F.un.tups, F.un.frzs, F.un.tbls⟩, fun b o e => ?_, F.new, F.free, ?_⟩
  · exact kp b o (F.un.keep b o e n hb hx) (old b o e).1 (old b o e).2 hb
  · obtain ⟨sl, e1⟩ := F.un.slot b o e n hb hx
    obtain ⟨sl', e2⟩ := up b _ e1 (nf b hb _ e1)
    exact ⟨sl', e2⟩
  · obtain ⟨o', e1⟩ := F.un.there b o e hx
    by_cases hb : b ∈ frs l
    · obtain ⟨sl', e2⟩ := up b _ e1 (nf b hb _ e1)
      exact ⟨_, e2⟩
    · exact ⟨o', kp b o' e1 (old b o e).1 (old b o e).2 hb⟩
  · refine (F.hok b o e).stay (fun c u hc q => kp c u q ?_ ?_ ?_) (fun _ q => q) fun _ _ q => q
    · rintro rfl
      rcases hc with r | r
      · rw [← r, F.free] at e; cases e
      · rw [F.free] at r; cases r
    · rintro rfl
      rcases hc with r | r
      · rw [← r, hT1] at e; cases e
      · rw [hT1] at r; cases r
    · intro hm
      rcases hc with r | r
      · rw [← r, ffs _ hm] at e; cases e
      · rw [ffs _ hm] at r; cases r
  · obtain ⟨oe, vs, T', oT', ts, he, hc, hdc, hd, h0, h1, hn, hne, hT', hdT, h3⟩ := tr.ex
    have key : s'.heap.get? T' = none ∨ T' = T := by
      cases q : s'.heap.get? T' with
      | none => exact .inl rfl
      | some o =>
        refine .inr (Classical.byContradiction fun hz => ?_)
        by_cases hf : T' ∈ frs l
        · obtain ⟨sl', e2⟩ := up T' o q (nf T' hf o q)
          rw [hT'] at e2; cases e2
          exact nf T' hf o q ts hdT
        · have : (fv s'.heap l a T).get? T' = some o := W.hideAll_get _ q (by simp [hz, hne, hf])
          rw [hn] at this; cases this
    refine ⟨oe, vs, a0, T', oT', ts, he, hc, hdc, hd, h0, h1, hne, hT', hdT, h3, ?_, ?_⟩
    · rcases key with z | z
      · cases q : s.heap.get? T' with
        | none => rfl
        | some o =>
          obtain ⟨o', e⟩ := F.un.there T' o q (by simp)
          rw [z] at e; cases e
      · rw [z]; exact hT0
    · rcases key with z | z
      · cases q : H' T' with
        | none => rfl
        | some o =>
          obtain ⟨o1, e1⟩ := iH (F.hok T' o q)
          rw [z] at e1; cases e1
      · rw [z]; exact hT1
end
end L2
namespace L2
open PySem PySem.Spec PyProof.Rows
section
variable {X:Cx} {pins:List (Addr×Obj)} {σ:St} {H H':Hp} {s s':Shared} {cls fl:Value} {a:Addr} {d:Option Addr}
theorem Fly.inv (I:Inv X pins σ H s) (F:Fly X.prog X.w X.stack H s cls fl a d H' s'):Inv X pins σ H' s':=I.call' (ch:=[]) F.os F.un F.hok F.bare fun b z=>absurd z (by simp)
theorem Fly.up (I : Inv X pins σ H s) (hex : X.ex = []) (F : Fly X.prog X.w X.stack H s cls fl a d H' s') : Fly X.prog X.w X.outer X.H₀ X.s₀ cls fl a d H' s' := by
  have I2 := F.inv I
  have back : ∀ b, s.heap.get? b = none → X.s₀.heap.get? b = none := fun b e => by
    cases q : X.s₀.heap.get? b with
    | none => rfl
    | some o =>
      obtain ⟨o', e'⟩ := I.base.there b o q (by rw [hex]; simp)
      rw [e] at e'; cases e'
  obtain ⟨oe, vs, a0, T, oT, ts, h1, h2, hd, h3, h4, h5, h6, h7, h8, h9, h10, h11⟩ := F.tr
  have b := I2.base
  rw [hex] at b
  exact ⟨I2.os, I2.bare, b, I2.hok, back a F.new, F.free, oe, vs, a0, T, oT, ts, h1, h2, hd, h3, h4, h5, h6, h7, h8, h9, back T h10, h11⟩
theorem Fly.flying (I:Inv X pins σ H s) (F:Fly X.prog X.w X.stack H s cls .none a d H' s'):∃ T a0,s.heap.get? T=none∧H' T=none∧(fv s'.heap X.stack a T).StaysIn s'.heap∧(fv s'.heap X.stack a T).get? a=none∧s'.heap.FunFrames (fv s'.heap X.stack a T) X.stack∧
  HT.TrD s'.heap (fv s'.heap X.stack a T) a cls a0 d .none:=by
 obtain ⟨oe,vs,a0,T,oT,ts,h1,h2,hd,h3,h4,h5,h6,h7,h8,h9,h10,h11⟩:=F.tr
 exact ⟨T,a0,h10,h11,fun b o e=>W.of_hideAll _ e,W.hideAll_none _ (by simp),jI (F.frames I.stack I.stkFree) fun b hb=>W.hideAll_none _ (by simp [hb]),⟨oe,vs,T,oT,ts,h1,h2,hd,h3,h4,h5,W.hideAll_none _ (by simp),h6,h7,h8,h9⟩⟩
end
structure sm (P:Program) (w:World) (l:List Env) (H:Hp) (s:Shared) (cls:Value) (a:Addr) (d:Option Addr) (H':Hp) (s':Shared):Prop where
 os:s'.os=s.os
 bare:AllBare s'.gens
 un:Un (frs l) [] H H' s.heap s'.heap
 hok:HOk P w H' s'.heap
 new:s.heap.get? a=none
 free:H' a=none
 tr:∃ oe vs a0,s'.heap.get? a=some oe∧oe.cls=cls∧oe.dict=d∧oe.data=.fields vs∧HT.Hd0 vs a0∧vs[1]?=some .none
section
variable {P:Program} {w:World} {l:List Env} {H H':Hp} {s s':Shared} {cls fl':Value} {a:Addr} {d:Option Addr} {base:Heap}
theorem nG (un : Un (frs l) [] H H' s.heap s'.heap) (ff : s.heap.FunFrames base l) (frf : ∀ b ∈ frs l, H b = none) : s'.heap.FunFrames base l := by
  have all : ∀ (k : List Env), (∀ b ∈ frs k, b ∈ frs l) → s.heap.FunFrames base k → s'.heap.FunFrames base k := by
    intro k
    induction k with
    | nil => intro _ _; trivial
    | cons env r ih =>
      intro hs hl
      obtain ⟨hk, ⟨L, o, hf, hn, ho, hd⟩, hr⟩ := hl
      have hL : L ∈ frs l := hs L (by unfold frs; rw [List.filterMap_cons, hf]; exact List.mem_cons_self)
      obtain ⟨sl, e⟩ := un.slot L o ho (frf L hL) hL (by simp)
      exact ⟨hk, ⟨L, _, hf, hn, e, hd⟩, ih (fun b hb => hs b (by unfold frs; rw [List.filterMap_cons, hf]; exact List.mem_cons_of_mem _ hb)) hr⟩
  exact all l (fun _ hb => hb) ff
theorem sm.moved (F : sm P w l H s cls a d H' s') (ff : s.heap.FunFrames base l) (frf : ∀ b ∈ frs l, H b = none) (ffs : ∀ b ∈ frs l, H' b = none) {h' : Heap} {a0 : Value}
    (st : (fv s'.heap l a a).StaysIn h') (up : s'.heap.UpToSlots h') (tr : HT.TrD h' (fv s'.heap l a a) a cls a0 d fl') : Fly P w l H s cls fl' a d H' { s' with heap := h' } := by
  have kp : ∀ b o, s'.heap.get? b = some o → b ≠ a → b ∉ frs l → h'.get? b = some o := fun b o e h1 h3 => st b o (W.hideAll_get _ e (by simp [h1, h3]))
  have ff' := nG F.un ff frf
  have nf : ∀ b ∈ frs l, ∀ o, s'.heap.get? b = some o → ∀ vs, o.data ≠ .fields vs := fun b hb o e vs z => by
    obtain ⟨_, o', ho, hd⟩ := ff'.mem hb
    rw [e] at ho; cases ho
    exact hd vs z
  have old : ∀ b o, s.heap.get? b = some o → b ≠ a := fun b o e z => by rw [z, F.new] at e; cases e
  refine ⟨F.os, F.bare, ⟨fun b o e n hb hx => ?_, fun b o e n hb hx => ?_, F.un.free, fun b o e hx => ?_, F.un.tups, F.un.frzs, F.un.tbls⟩, fun b o e => ?_, F.new, F.free, ?_⟩
  · exact kp b o (F.un.keep b o e n hb hx) (old b o e) hb
  · obtain ⟨sl, e1⟩ := F.un.slot b o e n hb hx
    obtain ⟨sl', e2⟩ := up b _ e1 (nf b hb _ e1)
    exact ⟨sl', e2⟩
  · obtain ⟨o', e1⟩ := F.un.there b o e hx
    by_cases hb : b ∈ frs l
    · obtain ⟨sl', e2⟩ := up b _ e1 (nf b hb _ e1)
      exact ⟨_, e2⟩
    · exact ⟨o', kp b o' e1 (old b o e) hb⟩
  · refine (F.hok b o e).stay (fun c u hc q => kp c u q ?_ ?_) (fun _ q => q) fun _ _ q => q
    · rintro rfl
      rcases hc with r | r
      · rw [← r, F.free] at e; cases e
      · rw [F.free] at r; cases r
    · intro hm
      rcases hc with r | r
      · rw [← r, ffs _ hm] at e; cases e
      · rw [ffs _ hm] at r; cases r
  · obtain ⟨oe, vs, T', oT', ts, he, hc, hdc, hd, h0, h1, hn, hne, hT', hdT, h3⟩ := tr.ex
    have key : s'.heap.get? T' = none := by
      cases q : s'.heap.get? T' with
      | none => rfl
      | some o =>
        by_cases hf : T' ∈ frs l
        · obtain ⟨sl', e2⟩ := up T' o q (nf T' hf o q)
          rw [hT'] at e2; cases e2
          exact (nf T' hf o q ts hdT).elim
        · have : (fv s'.heap l a a).get? T' = some o := W.hideAll_get _ q (by simp [hne, hf])
          rw [hn] at this; cases this
    refine ⟨oe, vs, a0, T', oT', ts, he, hc, hdc, hd, h0, h1, hne, hT', hdT, h3, ?_, ?_⟩
    · cases q : s.heap.get? T' with
      | none => rfl
      | some o =>
        obtain ⟨o', e⟩ := F.un.there T' o q (by simp)
        rw [key] at e; cases e
    · cases q : H' T' with
      | none => rfl
      | some o =>
        obtain ⟨o1, e1⟩ := iH (F.hok T' o q)
        rw [key] at e1; cases e1
end
def dI (CX:CXT) (X:Cx) (E:St→XK):Prop:=∀ (pins:List (Addr×Obj)) (σ:St) (H:Hp) (s:Shared) (e:Value) (s':Shared),Inv X pins σ H s→CX X.stack H s (E σ) e s'→X.xe e s'
def pJ (X:Cx) (E:St→XK):Prop:=∀ (pins:List (Addr×Obj)) (σ:St) (H:Hp) (s:Shared) (C a:Addr) (d:Option Addr) (H2:Hp) (s2:Shared),Inv X pins σ H s→sm X.prog X.w X.stack H s (.ref C) a d H2 s2→E σ (.ref C) d H2→X.xe (.ref a) s2
theorem bq {P:Program} {w:World} {X:Cx}:dI (CX1 P w) X (fun _=>E0):=fun pins σ H s e s' I ⟨_,_,_,_,_,_,h⟩=>h.elim
section
variable {P:Program} {w:World} {K:W.Frag} {mg:Str→Option Value} {base:Heap} {N:List Str} {qual:Str} {scope:Scope} {f:Addr} {cd:Value} {A:Around} {outer:List Env} {s:Shared} {H:Hp} {E:XK}
theorem pS:dI (CX1 P w) (cI (CX1 P w) P w K mg base N qual scope f cd A outer s H E) (fun _=>E):=by
 intro pins σ H1 s1 e s' I hx
 obtain ⟨a,C,d,H',rfl,F,hE⟩:=hx
 obtain ⟨T,a0,hT0,hT1,f1,f2,f3,f4⟩:=F.flying I
 refine HT.qh (I.ok.frames) f3 rfl f4 f1 f2 fun h' n=>?_
 have F2:=F.moved (oT:={ cls:=.none,data:=.dict #[] }) I.stack I.stkFree (F.inv I).stkFree hT0 hT1 n.st n.up n.tr
 exact ⟨a,C,d,H',rfl,F2.up I rfl,hE⟩
theorem eN:pJ (cI (CX1 P w) P w K mg base N qual scope f cd A outer s H E) (fun _=>E):=by
 intro pins σ H1 s1 C a d H2 s2 I F hE
 have I2:Inv (cI (CX1 P w) P w K mg base N qual scope f cd A outer s H E) pins σ H2 s2:=I.call' (ch:=[]) F.os F.un F.hok F.bare fun b z=>absurd z (by simp)
 obtain ⟨oe,vs,a0,he,hc,hdc,hd,h0,h1⟩:=F.tr
 refine HT.pb I.ok.frames (jI (B':=fv s2.heap (cI (CX1 P w) P w K mg base N qual scope f cd A outer s H E).stack a a) (nG F.un I.stack I.stkFree) fun b hb=>W.hideAll_none _ (List.mem_cons_of_mem _ (List.mem_cons_of_mem _ hb))) rfl he hc hdc (fun b o e=>W.of_hideAll _ e) (W.hideAll_none _ (by simp)) hd h1 h0 fun h' n=>?_
 have F2:=F.moved I.stack I.stkFree I2.stkFree n.st n.up n.tr
 exact ⟨a,C,d,H2,rfl,F2.up I rfl,hE⟩
theorem FH {X : Cx} {pins : List (Addr × Obj)} {σ : St} {H : Hp} {s : Shared} {C a : Addr} {h1 : Heap} (I : Inv X pins σ H s) (hm : Heap.MadeExcOf s.heap h1 a (.ref C) []) : sm X.prog X.w X.stack H s (.ref C) a none H { s with heap := h1 } := by
  obtain ⟨t, ht, _, _⟩ := hm.there
  refine ⟨rfl, I.bare, Un.kept hm.keeps, I.hok.kept hm.keeps, hm.new, ?_, ⟨_, _, .ref t, ht, rfl, rfl, rfl, ⟨rfl, rfl⟩, rfl⟩⟩
  cases q : H a with
  | none => rfl
  | some o =>
    obtain ⟨u, e'⟩ := iH (I.hok a o q)
    rw [hm.new] at e'; cases e'
end
def au (sp:Sp) (E:St→XK) (t:TA):TE:=fun σ H Q=>t σ H fun vs H1=>sp vs H1 Q (E σ)
section
variable {X:Cx} {CX:CXT} {k:Nat} {f:Addr} {fd:FuncData} {ps:List Str} {sp:Sp} {E:St→XK} {x:Str} {p pos:Pos} {e:Expr} {es:List Expr} {t:TA}
theorem jM {pins : List (Addr × Obj)} {σ : St} {H : Hp} {s : Shared} {Q : VK} {us : List Value} {vs : List V} (F : aN X.prog X.w X.K X.mg X.base CX k f fd ps sp) (hr : bh k X.A) (hb : bA X.K fd ps []) (hx : dI CX X E)
    (I : Inv X pins σ H s) (r : aS vs us) (h : sp vs H Q (E σ)) : wpAny (model X.prog X.w) X.A (call (.ref f) us) (EP X pins σ Q) X.xe s := by
  have hl : us.length = ps.length := by rw [← r.length]; exact F.len _ _ _ _ h
  have hb' := hb s us I.kIn (by rw [List.append_nil]; exact hl)
  rw [List.append_nil] at hb'
  refine wpAny_call (codeAny_mono (F.run X.A X.stack s H ⟨us, []⟩ us vs Q (E σ) hr I.env0 hb' r h) fun r s' hq => ?_)
  cases r with
  | error e => exact hx pins σ H s e s' I hq
  | ok fl =>
    cases fl with
    | ret u => exact I.after hq
    | next => exact False.elim hq
    | brk => exact False.elim hq
    | cont => exact False.elim hq
theorem hU (F:aN X.prog X.w X.K X.mg X.base CX k f fd ps sp) (hr:bh k X.A) (hm:X.mg x=some (.ref f)) (hk:W.keepIn X.K (.ref f)=true) (hb:bA X.K fd ps []) (hx:dI CX X E)
  (ha:QA X (e::es) t) (hg:Gl X x:=by rfl) (hdb:(x==("__debug__" :Str))=false:=by decide) (hs:bj (e::es)=true:=by rfl):QE X (.Call (.Name x p) (e::es) [] pos) (au sp E t):=by
 refine ⟨fun pins s σ H Q I h=>?_⟩
 have h':(bM e&&bj es)=true:=hs
 refine wpAny_Call_Name_kw (fm I hg hm ?_ hdb)
 refine W.callWith_K (h₀:=X.base) I.ok.mod.kin hk (thn (ha.out pos pins s σ H _ I h) fun us s1 ⟨vs,H1,I1,r,q⟩=>⟨I1.kIn,?_⟩) (bc (Bool.and_eq_true_iff.mp h').1 es X.env) (bT (Bool.and_eq_true_iff.mp h').2)
 exact jM F hr hb hx I1 r q
theorem pV (F:aN X.prog X.w X.K X.mg X.base CX k f fd ps sp) (hr:bh k X.A) (hm:X.mg x=some (.ref f)) (hk:W.keepIn X.K (.ref f)=true) (hb:bA X.K fd ps []) (hx:dI CX X E)
  (hg:Gl X x:=by rfl) (hdb:(x==("__debug__" :Str))=false:=by decide):QE X (.Call (.Name x p) [] [] pos) (au sp E af):=by
 refine ⟨fun pins s σ H Q I h=>?_⟩
 refine wpAny_Call_Name_kw (fm I hg hm ?_ hdb)
 exact W.callWith_K0 I.kIn hk (jM (us:=[]) F hr hb hx I .nil h)
def hJ (C:Addr) (E:St→XK):TS:=fun _ σ H=>E σ (.ref C) none H
theorem ij {C:Addr} {np cpos:Pos} (hC:cY X.K C) (hm:X.mg x=some (.ref C)) (hR:pJ X E) (hc:X.calm=true:=by rfl) (hg:Gl X x:=by rfl) (hdb:(x==("__debug__" :Str))=false:=by decide):
  QS X (.Raise (some (.Call (.Name x np) [] [] cpos)) none pos) (hJ C E):=by
 refine ⟨fun pins s σ H D I h=>?_⟩
 obtain ⟨bm,N,nm,qn,bs,hdct,sn,sub,ab,col,dd,k0,k1,k2,k3,k5,mN,oC,hN,hni,T,_⟩:=eO I.kIn hC.ok
 refine wpAny_Raise_call_subU (C:=C) (nm:=nm) (q:=qn) (N:=N) (bs:=bs) (bm:=bm) (hdct:=hdct) (sn:=sn) (sub:=sub) (ab:=ab) (col:=col) (dd:=dd) (k0:=k0) (k1:=k1) (k2:=k2) (k3:=k3) (k5:=k5)
  F.excBase_ValueError (by decide +kernel) F.excBase_ValueError (mN:=mN) (T.hasType F.excBase_ValueError.hasBase) (I.ok.hd hc) rfl (hni hC) (fm I hg hm ⟨rfl,?_⟩ hdb)
 exact evalArgs_empty ⟨rfl,Nat.zero_le _,oC,hN,T,fun h' e hm'=>hR pins σ H s C e none H _ I (FH I hm') h⟩
end
theorem Fun.okX {P : Program} {w : World} {K : W.Frag} {mg : Str → Option Value} {base : Heap} {x qual : Str} {st : Stmt} {f : Addr} {fd : FuncData} {N ps : List Str} {k : Nat} {sp : Sp} (F : Fun K x qual st f fd) (S : aB N ps (am st)) (len : ∀ vs H Q E, sp vs H Q E → vs.length = ps.length)
  (hbody : ∀ (cdv : Value) (A : Around) (outer : List Env) (s : Shared) (H : Hp) (vs : List V) (Q : VK) (E : XK), bh k (A.deeper (envOfC qual (am st) s.heap.objs.size f cdv)) → sp vs H Q E →
   ∃ t, PSs (cI (CX1 P w) P w K mg base N qual (am st) f cdv A outer s H E) (aQ st) t ∧ t { nx := fun _ H' => Q .non H', rt := Q } (start N vs) H) : aN P w K mg base (CX1 P w) (k + 1) f fd ps sp := by
 obtain ⟨oc, od, kV, doc, pm, an, cdv, ct, osl, rfl, lk, hcd⟩ := F.ex
 exact yE lk hcd S len fun A outer s H vs Q E hr hsp => hbody cdv A outer s H vs Q E hr hsp
end L2
namespace L2
open PySem PySem.Spec PyProof.Rows
def kP (C:Addr) (d:Option Addr) (a:Addr):HO:=.ext fun h=>∃ o vs,h.get? a=some o∧o.cls=.ref C∧o.dict=d∧o.data=.fields vs∧vs[2]?=some .none
theorem zJ {P:Program} {w:World} {H:Hp} {h:Heap} {C a:Addr} {d:Option Addr} {o:Obj} {vs:Array Value} (e:h.get? a=some o) (hc:o.cls=.ref C) (hdc:o.dict=d) (hd:o.data=.fields vs) (h2:vs[2]?=some .none):ba P w H h a (kP C d a):=
 ⟨⟨o,vs,e,hc,hdc,hd,h2⟩,⟨o,e⟩,fun _ _ ⟨o1,vs1,e1,c1,x1,d1,y1⟩ k=>⟨o1,vs1,k o1 e1,c1,x1,d1,y1⟩⟩
theorem yR {P:Program} {w:World} {H:Hp} {h:Heap} {C a:Addr} {d:Option Addr} (x:ba P w H h a (kP C d a)):∃ o vs,h.get? a=some o∧o.cls=.ref C∧o.dict=d∧o.data=.fields vs∧vs[2]?=some .none:=x.1
section
variable {X:Cx} {pins:List (Addr×Obj)} {σ:St} {H H1 H':Hp} {s s0:Shared} {a:Addr} {o:HO}
theorem Inv.track (I0:Inv X pins σ H1 s0) (hex:X.ex=[]) (I:Inv X pins σ H s) (new:s0.heap.get? a=none) (hn:H a=none) (ok:ba X.prog X.w (upd H a o) s.heap a o):Inv X pins σ (upd H a o) s:=by
 have ne:∀ b u,s0.heap.get? b=some u→b≠a:=fun b u e z=>by rw [z,new] at e;cases e
 have ne0:∀ b u,X.s₀.heap.get? b=some u→b≠a:=fun b u e=>by
   obtain ⟨u',e'⟩:=I0.base.there b u e (by rw [hex];simp)
   exact ne b u' e'
 have nL:X.env.locals≠a:=by
   obtain ⟨m,⟨o',_,_,e,_⟩,_⟩:=I0.loc
   exact ne _ _ e
 refine ⟨I.ok,I.os,I.bare,⟨I.base.keep,I.base.slot,fun b u e n hx=>?_,I.base.there,fun b xs e=>?_,fun b u v e=>?_,fun b ps e=>?_⟩,I.loc,I.cell,?_,fun x c e=>?_,fun p hp=>?_,fun b u e=>?_,I.len⟩
 · rw [aq (ne0 b u e)];exact I.base.free b u e n hx
 · have:=I.base.tups b xs e
   rw [aq (ay this hn)];exact this
 · have:=I.base.frzs b u v e
   rw [aq (ay this hn)];exact this
 · obtain ⟨more,this⟩:=I.base.tbls b ps e
   exact ⟨more,by rw [aq (ay this hn)];exact this⟩
 · rw [aq nL];exact I.free
 · obtain ⟨v,o',e',_⟩:=I0.cell x c e
   rw [aq (ne _ _ e')];exact I.freeC x c e
 · obtain ⟨h1,h2,h3⟩:=I.pin p hp
   exact ⟨h1,by rw [aq (ne _ _ (I0.pin p hp).1)];exact h2,h3⟩
 · by_cases hb:b=a
   · subst hb
     rw [ai] at e;cases e
     exact ok
   · rw [aq hb] at e
     exact (I.hok b u e).stay (fun c v _ q=>q) (fun c q=>by
      have:c≠a:=ay q hn
      rw [aq this];exact q) fun c xs q=>by
      have:c≠a:=ay q hn
      rw [aq this];exact q
end
def cxH (X:Cx) (a:Addr):Cx:={ X with A:=X.A.mark (some (.ref a)),calm:=false,xe:=fun _ _=>False }
section
variable {X:Cx} {pins:List (Addr×Obj)} {σ:St} {H:Hp} {s:Shared} {a:Addr}
theorem Cx.Ok.toH (ok:X.Ok):(cxH X a).Ok:=⟨ok.mod,ok.kind,ok.glob,ok.blt,ok.above,ok.inj,ok.has,ok.cab,fun h=>absurd (show false=true from h) Bool.false_ne_true,ok.frames,ok.stk,ok.exf,ok.bs,ok.bsz,ok.noex,ok.exfs,ok.funs,ok.frf⟩
theorem Inv.toH (I:Inv X pins σ H s):Inv (cxH X a) pins σ H s:=⟨I.ok.toH,I.os,I.bare,I.base,I.loc,I.cell,I.free,I.freeC,I.pin,I.hok,I.len⟩
theorem Inv.ofH (ok:X.Ok) (I:Inv (cxH X a) pins σ H s):Inv X pins σ H s:=⟨ok,I.os,I.bare,I.base,I.loc,I.cell,I.free,I.freeC,I.pin,I.hok,I.len⟩
theorem SP.ofH {D:eU} {f:Flow} (ok:X.Ok) (h:SP (cxH X a) pins D f s):SP X pins D f s:=by
 cases f with
 | next=>obtain ⟨σ',H',J,q⟩:=h;exact ⟨σ',H',J.ofH ok,q⟩
 | brk=>obtain ⟨σ',H',J,q⟩:=h;exact ⟨σ',H',J.ofH ok,q⟩
 | cont=>obtain ⟨σ',H',J,q⟩:=h;exact ⟨σ',H',J.ofH ok,q⟩
 | ret u=>obtain ⟨v,σ',H',J,r,q⟩:=h;exact ⟨v,σ',H',J.ofH ok,r,q⟩
end
abbrev TH:=eU→St→Addr→Option Addr→Hp→Prop
def PH (X:Cx) (hs:List ExceptHandler) (t:TH):Prop:=∀ (pins:List (Addr×Obj)) (s0:Shared) (σ:St) (H1 H':Hp) (C a:Addr) (d:Option Addr) (s3:Shared) (D:eU),X.stack=X.env::X.outer→X.env.frame=some X.env.locals→X.ex=[]→
 Inv X pins σ H1 s0→Fly X.prog X.w X.stack H1 s0 (.ref C) .none a d H' s3→bV X.K C→t D σ C d H'→wpAny (model X.prog X.w) X.A (handleBy (.ref a) X.env hs) (SP X pins D) X.xe s3
structure QH (X:Cx) (hs:List ExceptHandler) (t:TH):Prop where
 out:PH X hs t
def lL:TH:=fun _ _ _ _ _=>False
def uG (i:Nat) (D:eU):eU:=⟨fun σ H=>D.nx (σ.set i none) H,D.rt,fun σ H=>D.bk (σ.set i none) H,fun σ H=>D.ct (σ.set i none) H⟩
def hAs (K:W.Frag) (Dc:Addr) (i:Nat) (ts:TS) (r:TH):TH:=fun D σ C d H=>∃ b,eZ K C Dc=some b∧Sel b (∀ a,H a=none→ts (uG i D) (σ.set i (some (.ref a))) (upd H a (kP C d a))) (r D σ C d H)
section
variable {X:Cx}
theorem tU:QH X [] lL:=⟨fun _ _ _ _ _ _ _ _ _ _ _ _ _ _ _ _ h=>h.elim⟩
theorem tE {pins:List (Addr×Obj)} {σ:St} {H H':Hp} {s s':Shared} {cls:Value} {a:Addr} {d:Option Addr} {M:Model} {A:Around} {E:Value→Shared→Prop} {Q:Unit→Shared→Prop} (I:Inv X pins σ H s) (F:Fly X.prog X.w X.stack H s cls .none a d H' s')
  (hQ:∀ s'',Fly X.prog X.w X.stack H s cls .none a d H' s''→Q () s''):wpAny M A (setFlight (.ref a) none) Q E s':=by
 obtain ⟨T,a0,hT0,hT1,f1,f2,f3,f4⟩:=F.flying I
 refine HT.kf f1 f3 f4 fun h' n=>?_
 exact hQ _ (F.moved (oT:={ cls:=.none,data:=.dict #[] }) I.stack I.stkFree (F.inv I).stkFree hT0 hT1 n.st n.up n.tr)
variable {x n:Str} {np hp:Pos} {Dc:Addr} {b0:Stmt} {suite:List Stmt} {cq:List ExceptHandler} {ts:TS} {r:TH} {i:Nat}
theorem wy {A:Around} {E:Value→Shared→Prop} {pins:List (Addr×Obj)} {s:Shared} {σ:St} {H:Hp} {u:Value} {pos:Pos} {Q:Value→Shared→Prop} (I:Inv X pins σ H s) (hg:Gl X x) (hm:X.mg x=some u) (h:Q u s)
  (hd:(x==("__debug__" :Str))=false:=by decide):wpAny (model X.prog X.w) A (eval (.Name x pos) X.env) Q E s:=
 Calls.Name_function_global I.ok.kind hg (Calls.loadGlobal_global (by rw [I.ok.glob];exact I.mod.glob.keeps I.bk) hm h) hd
theorem yB (i : Nat) (hN : X.N.Nodup) (hD : bV X.K Dc) (hm : X.mg x = some (.ref Dc)) (hs : ∀ a, QSs (cxH X a) (b0 :: suite) ts) (hr : QH X cq r) (hg : Gl X x := by rfl) (hdb : (x == ("__debug__" : Str)) = false := by decide)
    (hi : X.N[i]? = some n := by rfl) (hl : X.env.scope.names.lookup n = some .local := by rfl) :
    QH X (.ExceptHandler (some (.Name x np)) (some n) (b0 :: suite) hp :: cq) (hAs X.K Dc i ts r) := by
  refine ⟨fun pins s0 σ H1 H' C a d s3 D e1 e2 hex I F hC h => ?_⟩
  obtain ⟨b, hb, q⟩ := h
  have I3 := F.inv I
  obtain ⟨oe, vs, _, _, _, _, he, hc, hdc, hd, _⟩ := F.tr
  refine wpAny_handleBy_cons (codeAny_handlers_test (wy I3 hg hm ?_ hdb)) (by intro q; cases q)
  refine mw I3.kIn hC hD he hc hb ?_
  have q := dq q
  cases b with
  | false => exact hr.out pins s0 σ H1 H' C a d s3 D e1 e2 hex I F hC q
  | true =>
    refine codeAny_handlers_suite_as (tE I F fun s4 F4 => ?_)
    have I4 := F4.inv I
    obtain ⟨oe4, vs4, _, _, _, _, he4, hc4, hdc4, hd4, h04, _⟩ := F4.tr
    have I5 : Inv X pins σ (upd H' a (kP C d a)) s4 := Inv.track I hex I4 F.new F.free (zJ he4 hc4 hdc4 hd4 h04.b)
    have hcls : (X.env.scope.kind == .class || (X.env.scope.kind == .module && X.env.locals != X.env.globals)) = false := by rw [I.ok.kind]; rfl
    refine fu (v := .ref a) I5 hN hi (.inl hl) rfl (fun s6 I6 => ?_) (.inr hl)
    refine wpAny_mono ((hs a).out pins s6 _ _ (uG i D) I6.toH (q a F.free)) (fun f s7 h7 => ?_) fun _ _ z => z.elim
    have h7 := SP.ofH I.ok h7
    have go : ∀ {σ' : St} {H'' : Hp} {Q : Unit → Shared → Prop}, Inv X pins σ' H'' s7 → (∀ s8, Inv X pins (σ'.set i none) H'' s8 → Q () s8) → wpAny (model X.prog X.w) X.A (do bindName X.env n .none; unbindBehindTheSuite X.env n hp) Q X.xe s7 := fun {σ' H'' Q} J hQ => by
      obtain ⟨m, hn, hloc⟩ := id J.loc
      refine wpAny_nameGoes_keeps hl hn hcls fun h' v hn' hs' => hQ _ ?_
      obtain ⟨oL, _, _, hoL, _⟩ := id hn
      refine ⟨J.ok, J.os, J.bare, ⟨fun b o e n hb hx => ?_, fun b o e n hb hx => ?_, J.base.free, fun b o e hx => ?_, J.base.tups, J.base.frzs, J.base.tbls⟩, ⟨_, hn', fun j y v' e1 e2 e3 => ?_⟩, fun y c e => ?_, J.free, J.freeC, fun p hp => ?_, fun b ob e => ?_, by simpa using J.len⟩
      · exact (hs'.2 b (Nat.ne_of_lt (Nat.lt_of_lt_of_le (Heap.lt_size e) J.ok.above))).trans (J.base.keep b o e n hb hx)
      · obtain ⟨sl, e1⟩ := J.base.slot b o e n hb hx
        exact ⟨sl, (hs'.2 b (Nat.ne_of_lt (Nat.lt_of_lt_of_le (Heap.lt_size e) J.ok.above))).trans e1⟩
      · obtain ⟨o', e1⟩ := J.base.there b o e hx
        exact ⟨o', (hs'.2 b (Nat.ne_of_lt (Nat.lt_of_lt_of_le (Heap.lt_size e) J.ok.above))).trans e1⟩
      · have hji : j ≠ i := by
          rintro rfl
          have : j < σ'.length := by rw [J.len]; exact (List.getElem?_eq_some_iff.mp hi).1
          rw [List.getElem?_set_self this] at e2; cases e2
        rw [List.getElem?_set_ne (Ne.symm hji)] at e2
        obtain ⟨u, ru, lk⟩ := hloc j y v' e1 e2 e3
        refine ⟨u, ru, ?_⟩
        rcases lk with ⟨k, e⟩ | ⟨k, c, e, z⟩
        · refine .inl ⟨k, ?_⟩
          have : y ≠ n := fun e => hji (kT hN e1 (e ▸ hi))
          simp [this, e]
        · exact .inr ⟨k, c, e, z.sameBut hs' (J.cne y c e)⟩
      · obtain ⟨w', z⟩ := J.cell y c e
        exact ⟨w', z.sameBut hs' (J.cne y c e)⟩
      · obtain ⟨e, n, ne, nf, d⟩ := J.pin p hp
        exact ⟨(hs'.2 p.1 ne).trans e, n, ne, nf, d⟩
      · refine (J.hok b ob e).stay (fun c w' hc q => (hs'.2 c ?_).trans q) (fun _ q => q) fun _ _ q => q
        rintro rfl
        rcases hc with r | hc
        · rw [← r, J.free] at e; cases e
        · rw [J.free] at hc; cases hc
    cases f with
    | next => obtain ⟨σ', H'', J, q'⟩ := h7; exact go J fun s8 J8 => ⟨_, _, J8, q'⟩
    | brk => obtain ⟨σ', H'', J, q'⟩ := h7; exact go J fun s8 J8 => ⟨_, _, J8, q'⟩
    | cont => obtain ⟨σ', H'', J, q'⟩ := h7; exact go J fun s8 J8 => ⟨_, _, J8, q'⟩
    | ret u => obtain ⟨v, σ', H'', J, rv, q'⟩ := h7; exact go J fun s8 J8 => ⟨v, _, _, J8, rv, q'⟩
end
end L2
namespace L2
open PySem PySem.Spec PyProof.Rows
def vb (K:W.Frag) (tb:(St→XK)→TS) (th:TH) (te:TS):TS:=fun D σ H=>
 tb (fun σ' cls d H'=>∃ C,cls=.ref C∧bV K C∧th D σ' C d H') { D with nx:=te D } σ H
abbrev cxT (X:Cx) (pn:List (Addr×Obj)) (E':Value→Shared→Prop):Cx:={ X with pn:=pn,xe:=E' }
section
variable {X:Cx} {pins pn:List (Addr×Obj)} {σ:St} {H:Hp} {s:Shared} {E':Value→Shared→Prop}
theorem Cx.Ok.toT (ok:X.Ok):(cxT X pn E').Ok:=⟨ok.mod,ok.kind,ok.glob,ok.blt,ok.above,ok.inj,ok.has,ok.cab,ok.hd,ok.frames,ok.stk,ok.exf,ok.bs,ok.bsz,ok.noex,ok.exfs,ok.funs,ok.frf⟩
theorem Inv.toT (I:Inv X pins σ H s):Inv (cxT X (X.pn++pins) E') [] σ H s:=⟨I.ok.toT,I.os,I.bare,I.base,I.loc,I.cell,I.free,I.freeC,fun p hp=>I.pin p (by
 have hp:p∈(X.pn++pins)++[]:=hp
 rwa [List.append_nil] at hp),I.hok,I.len⟩
theorem Inv.ofT {pins':List (Addr×Obj)} (ok:X.Ok) (I:Inv (cxT X (X.pn++pins) E') pins' σ H s):Inv X pins σ H s:=⟨ok,I.os,I.bare,I.base,I.loc,I.cell,I.free,I.freeC,fun p hp=>I.pin p (List.mem_append_left _ hp),I.hok,I.len⟩
theorem xI {body orelse : List Stmt} {h0 : ExceptHandler} {hs : List ExceptHandler} {pos : Pos} {tb : (St → XK) → TS} {te : TS} {th : TH}
    (hb : ∀ (pn' : List (Addr × Obj)) (E' : Value → Shared → Prop) (EH : St → XK), dI (CX1 X.prog X.w) (cxT X pn' E') EH → QSs (cxT X pn' E') body (tb EH)) (hh : QH X (h0 :: hs) th) (he : QSs X orelse te)
    (e1 : X.stack = X.env :: X.outer := by rfl) (e2 : X.env.frame = some X.env.locals := by rfl) (hex : X.ex = [] := by rfl) : QS X (.Try body (h0 :: hs) orelse [] pos) (vb X.K tb th te) := by
  refine ⟨fun pins s σ H D I h => ?_⟩
  let E' : Value → Shared → Prop := fun e s1 => ∃ σ1 H1 s0 C a d H', e = .ref a ∧ Inv X pins σ1 H1 s0 ∧ Fly X.prog X.w X.stack H1 s0 (.ref C) .none a d H' s1 ∧ bV X.K C ∧ th D σ1 C d H'
  have pass : dI (CX1 X.prog X.w) (cxT X (X.pn ++ pins) E') (fun σ' cls d H' => ∃ C, cls = .ref C ∧ bV X.K C ∧ th D σ' C d H') := by
    intro pins' σ1 H1 s0 e s1 I1 hx
    obtain ⟨a, C, d, H', rfl, F, C', ec, hC, ht⟩ := hx
    cases ec
    exact ⟨σ1, H1, s0, C, a, d, H', rfl, I1.ofT I.ok, F, hC, ht⟩
  refine wpAny_Try_except (wpAny_mono ((hb (X.pn ++ pins) E' _ pass).out [] s σ H _ I.toT h) (fun f s1 h1 => ?_) fun e s1 h1 => ?_)
  · cases f with
    | next =>
      obtain ⟨σ', H', J, q⟩ := h1
      exact he.out pins s1 σ' H' D (J.ofT I.ok) q
    | brk => obtain ⟨σ', H', J, q⟩ := h1; exact ⟨σ', H', J.ofT I.ok, q⟩
    | cont => obtain ⟨σ', H', J, q⟩ := h1; exact ⟨σ', H', J.ofT I.ok, q⟩
    | ret u => obtain ⟨v, σ', H', J, rv, q⟩ := h1; exact ⟨v, σ', H', J.ofT I.ok, rv, q⟩
  · obtain ⟨σ1, H1, s0, C, a, d, H', rfl, I1, F, hC, ht⟩ := h1
    obtain ⟨T, a0, hT0, hT1, f1, f2, f3, f4⟩ := F.flying I1
    have hfr := I1.ok.frames
    rw [e1] at hfr
    have f3' := f3
    rw [e1] at f3'
    have f1' := f1
    have f2' := f2
    have f4' := f4
    rw [e1] at f1' f2' f4'
    refine HT.lV hfr f3' e2 f4' f1' f2' fun h' n1 => ?_
    refine HT.kf (s := { s1 with heap := h' }) n1.st n1.fr n1.tr fun h'' n2 => ?_
    have st : (fv s1.heap X.stack a T).StaysIn h'' := by rw [e1]; exact n2.st
    have tr : HT.TrD h'' (fv s1.heap X.stack a T) a (.ref C) a0 d .none := by rw [e1]; exact n2.tr
    have F3 := F.moved (oT := { cls := .none, data := .dict #[] }) I1.stack I1.stkFree (F.inv I1).stkFree hT0 hT1 st (n1.up.trans n2.up) tr
    exact hh.out pins s0 σ1 H1 H' C a d _ D e1 e2 hex I1 F3 hC ht
end
section
variable {X:Cx}
end
end L2
namespace L2
open PySem PySem.Spec PyProof.Rows
structure cZ (K:W.Frag) (C:Addr):Prop where
 ga:W.findIn K (.ref C) "__getattribute__" =some (some (.builtin "BaseException.__getattribute__"))
 na:W.findIn K (.ref C) "__getattr__" =some none
 cl:W.findIn K (.ref C) "__class__" =some (some (.builtin "object.__class__"))
 mo:W.mroIn K C (.type "object")=some true
 mb:W.mroIn K C (.type "BaseException")=some true
section
variable {K:W.Frag} {prog:Program} {w:World} {A:Around} {E:Value→Shared→Prop} {h:Heap} {g:Array GenState} {d:Drawn} {t:Nat} {os:OsState} {a C:Addr} {o:Obj}
theorem zV {M:Model} (hx:h.get? a=some o) (hc:o.cls=.ref C):W.Looks M h (typeOf (.ref a)) (.ref C):=hc▸(W.Looks.ld hx).andThen .now
theorem zZ {R:Result→Shared→Prop} (X:K.In h) (G:cZ K C) (hx:h.get? a=some o) (hc:o.cls=.ref C) (hq:R (.ok (.ret (.ref C))) ⟨h,g,d,t,os⟩):
  codeAny (model prog w) A (.call (.builtin "getset_descriptor.__get__") ⟨[.builtin "object.__class__",.ref a,.ref C],[]⟩) R ⟨h,g,d,t,os⟩:=by
 have hT5:(⟨h,g,d,t,os⟩:Shared).TypeIs (.builtin "object.__class__") "getset_descriptor" :=F.typeOf_object_class
 have f8:=W.looks_mroIn (M:=model prog w) X G.mo
 have hcB:(".".intercalate ("object.__class__".cutAt '.').dropLast)= "object" :=F.owner_object_class
 refine codeAny_call_builtin F.slot_gs_get.plain F.entry_gs_get (F.slot_gs_get.check _ _ _ _ _ _ _ _ hT5 (F.args_gs_get _ _ _) ?_)
 repeat (any_goals (first | assumption | (with_reducible refine wpAny_loadPart_at hx ?_;rw [hc]) | (rw [hcB];with_reducible refine f8.at ?_) | wp_step))
 refine ⟨Code.quiet_builtin _ (by decide +kernel),codeAny_builtin F.entry_object_class ?_⟩
 repeat (any_goals (first | assumption | (with_reducible refine wpAny_loadPart_at hx ?_;rw [hc]) | wp_step))
theorem wq {tk:Tok} {Q:Fin→Shared→Prop} (X:K.In h) (G:cZ K C) (hx:h.get? a=some o) (hc:o.cls=.ref C) (hq:Q (.done (.ret (.ref C))) ⟨h,g,d,t,os⟩):
  wpAny (model prog w) A (Builtin.«object.__getattribute__» ⟨[.ref a,.str "__class__" tk],[]⟩) Q E ⟨h,g,d,t,os⟩:=by
 have hT5:(⟨h,g,d,t,os⟩:Shared).TypeIs (.builtin "object.__class__") "getset_descriptor" :=F.typeOf_object_class
 have f4:=W.looks_findIn (M:=model prog w) X G.cl
 have f5:=F.typeOf_object_class
 have f6:=F.slot_gs_get.lookup
 have f7:=F.slot_gs_set.lookup
 repeat (any_goals (first | assumption | (with_reducible refine wpAny_loadPart_at hx ?_;rw [hc]) | with_reducible refine f4.at ?_ | wp_step))
 refine zZ X G hx hc ?_
 repeat (any_goals (first | assumption | wp_step))
theorem xc {M:Model} {nameV:Value} {Q:Unit→Shared→Prop} (X:K.In h) (G:cZ K C) (hx:h.get? a=some o) (hc:o.cls=.ref C) (hq:Q () ⟨h,g,d,t,os⟩):wpAny M A (checkBuiltinCall "BaseException.__getattribute__" ⟨[.ref a,nameV],[]⟩) Q E ⟨h,g,d,t,os⟩:=by
 have hk:builtinKind "BaseException.__getattribute__" =some .slot:=by decide +kernel
 have hsplit:splitId "BaseException.__getattribute__" =some ("BaseException", "__getattribute__"):=by decide +kernel
 have f8:=W.looks_mroIn (M:=M) X G.mb
 have ha:=F.args_bexc_ga (.ref a) nameV
 simp only [checkBuiltinCall,hk,hsplit]
 refine wpAny_bind ?_
 · unfold isInstance
   repeat (first | (with_reducible refine wpAny_loadPart_at hx ?_;rw [hc]) | with_reducible refine f8.at ?_ | wp_step)
   exact hq
theorem zB {tk:Tok} {R:Result→Shared→Prop} (X:K.In h) (G:cZ K C) (hx:h.get? a=some o) (hc:o.cls=.ref C) (hq:R (.ok (.ret (.ref C))) ⟨h,g,d,t,os⟩):
  codeAny (model prog w) A (.call (.builtin "BaseException.__getattribute__") ⟨[.ref a,.str "__class__" tk],[]⟩) R ⟨h,g,d,t,os⟩:=
 codeAny_call_builtin F.excAttr_ValueError.ga.plain F.entry_bexc_ga (xc X G hx hc (wq X G hx hc hq))
theorem EJ {tk:Tok} {Q:Value→Shared→Prop} (X:K.In h) (G:cZ K C) (hx:h.get? a=some o) (hc:o.cls=.ref C) (hq:Q (.ref C) ⟨h,g,d,t,os⟩):
  wpAny (model prog w) A (getAttrBy (.ref a) (.str "__class__" tk) false) Q E ⟨h,g,d,t,os⟩:=by
 have f3:=F.excAttr_ValueError.ga.bind (.ref a)
 have f1:=W.looks_findIn (M:=model prog w) X G.ga
 have f2:=W.looks_findIn (M:=model prog w) X G.na
 have hx2:(Value.builtin "BaseException.__getattribute__" ==Value.builtin "object.__getattribute__")=false:=by decide +kernel
 have hx1:(onTheHeap (Value.ref C)&&Value.builtin "BaseException.__getattribute__" ==Value.builtin "object.__getattribute__")=false:=by rw [hx2];rfl
 repeat (any_goals (first | assumption | (with_reducible refine wpAny_loadPart_at hx ?_;rw [hc]) | with_reducible refine f1.at ?_ | with_reducible refine f2.at ?_ | wp_step))
 refine zB X G hx hc ?_
 repeat (any_goals (first | assumption | wp_step))
theorem zQ {Q:Option Value→Shared→Prop} (X:K.In h) (G:cZ K C) (hx:h.get? a=some o) (hc:o.cls=.ref C) (hq:Q (some (.ref C)) ⟨h,g,d,t+1,os⟩):
  wpAny (model prog w) A (getAttr? (.ref a) "__class__") Q E ⟨h,g,d,t,os⟩:=by
 unfold getAttr? getAttrBy?
 repeat (any_goals (first | assumption | with_reducible apply EJ X G hx hc | wp_step))
theorem AQ {a C:Addr} (hC:bV K C) (G:cZ K C):W.KitX K (.ref a) (.ref C) (fun h=>∃ o,h.get? a=some o∧o.cls=.ref C) where
 ty:=fun M h X ⟨o,hx,hc⟩=>zV hx hc
 it:=fun M h X _=>by
  obtain ⟨bm,N,nm,qn,bs,hdct,sn,sub,ab,col,dd,k0,k1,k2,k3,k5,mN,oC,_⟩:=eO X hC
  intro A' Q' E' s' k q
  unfold isType loadHead
  exact wpAny_bind (wpAny_loadPart (k _ _ oC) (wpAny_pure q))
 ne:=fun h tp dd its n sl X htp=>by
  obtain ⟨bm,N,nm,qn,bs,hdct,sn,sub,ab,col,dd,k0,k1,k2,k3,k5,mN,oC,_⟩:=eO X hC
  refine Bool.eq_false_iff.mpr fun q=>?_
  have e:C=tp:=Value.ref.inj (beq_iff_eq.mp q)
  subst e
  rw [oC] at htp
  have z:Value.type "type" =Value.type "tuple" :=congrArg Obj.cls (Option.some.inj htp)
  exact absurd z (by decide)
 ca:=fun {prog w A E Q s} X ⟨o,hx,hc⟩ k=>by
  obtain ⟨h,g,d,t,os⟩:=s
  exact zQ X G hx hc k
end
section
variable {X:Cx}
def iP (K:W.Frag):List V→Hp→VK→Prop:=fun xs H Q=>∃ a C dd b c cv,xs=[.ref a,c]∧H a=some (kP C dd a)∧bV K C∧cZ K C∧aX c cv∧(∀ u,aX c u→u=cv)∧W.kitOne K (.ref C) cv=some b∧Q (.bl b) H
theorem jQ:bB X (.builtin "isinstance") (iP X.K):=fun pins s σ H xs us Q I r h=>by
 obtain ⟨a,C,dd,b,c,cv,rfl,ha,hC,G,rc,un,hk,q⟩:=h
 obtain ⟨u,w',rfl,r1,r2⟩:=lN r
 cases un _ r2
 cases (show u=Value.ref a from r1)
 obtain ⟨o,vs,ho,hc,_,_⟩:=yR (P:=X.prog) (w:=X.w) (I.hok a _ ha)
 exact W.kia_one (AQ hC G) I.kIn ⟨o,ho,hc⟩ hk (fun z=>nomatch z) fun tk=>⟨.bl _,H,I.tok tk,rfl,q⟩
theorem oZ {x:Str} {D:Addr} {pos:Pos} (hm:X.mg x=some (.ref D)) (hg:Gl X x:=by rfl) (hd:(x==("__debug__" :Str))=false:=by decide):QE X (.Name x pos) (tC (.ref D)):=⟨rh hg hm rfl hd⟩
end
end L2
namespace HT
open PySem PyProof.Rows
section
variable {prog:Program} {w:World} {A:Around} {E:Value→Shared→Prop} {s:Shared}
theorem ji {t sl:Addr} {items:Array Value} {vl vu:Value} {lo hi:Option Int} {Q:Value→Shared→Prop} (ht:IsTup s.heap t items) (hs:s.heap.IsSliceOf sl vl vu .none) (pl:IsPart vl lo) (pu:IsPart vu hi)
  (hw:sIx items.size 0 lo=0∧sIx items.size items.size hi=items.size) (h:Q (.ref t) s):wpAny (model prog w) A (getItem (.ref t) (.ref sl)) Q E s:=by
 obtain ⟨os,hos,hcs,hds⟩:=id hs
 have hTs:s.TypeIs (.ref sl) "slice" :=⟨os,hos,hcs⟩
 unfold getItem
 try with_reducible refine wpAny_holding ?_
 first | refine wpAny_bind (wpAny_pure ?_) | skip
 refine wpAny_bind (wpAny_sequenceKey ht.typeIs (by decide) ?_)
 refine wpAny_bind (wpAny_callSpecial?_slot (name:=Str.ofString "__getitem__") ht.typeIs PyProof.Rows.slot_tuple_getitem
  (wpAny_call_entry PyProof.Rows.slot_tuple_getitem ht.typeIs entry_tuple_getitem ?_ (args_tuple_getitem _ _)))
 show wpAny _ _ (Builtin.Tuple.tupleItemsOf (.ref t)>>=_) _ _ s
 refine wpAny_bind (tupleItemsOf_ ht ?_)
 refine wpAny_bind (wpAny_typeOf hTs ?_)
 rw [if_pos (by decide)]
 refine wpAny_bind (gA hs pl pu ?_)
 have hyes:(((sIx items.size 0 lo:Nat):Int)==0&&(1:Int)==1&&(sIx items.size items.size hi - sIx items.size 0 lo)==items.size)=true:=by
  rw [hw.1,hw.2];simp
 show wpAny _ _ (if (((sIx items.size 0 lo:Nat):Int)==0&&(1:Int)==1&&(sIx items.size items.size hi - sIx items.size 0 lo)==items.size)=true then _ else _) _ _ s
 rw [if_pos hyes]
 have hte:s.TypeIs (.ref t) "tuple" :=ht.typeIs
 unfold Builtin.Tuple.tupleIsExact
 repeat (first | exact ⟨_,rfl,wpAny_pure h⟩ | (with_reducible refine wpAny_typeOf hte ?_) | wp_step)
end
end HT
namespace HT
open PySem PyProof.Rows
section
variable {prog:Program} {w:World} {A:Around} {E:Value→Shared→Prop} {s:Shared}
theorem xv {t b:Addr} {ws:List Value} {Q:Value→Shared→Prop} (ht:IsTup s.heap t #[]) (hb:IsTup s.heap b ws.toArray) (h1:Q (.ref b) s):wpAny (model prog w) A (binaryOp .Add (.ref t) (.ref b)) Q E s:=by
 obtain ⟨⟨cls,dd,data,sl⟩,ho,hc,n,hd⟩:=id ht
 obtain ⟨⟨cls2,dd2,data2,sl2⟩,ho2,hc2,n2,hd2⟩:=id hb
 simp only at hc hd hc2 hd2
 subst hc hd hc2 hd2
 exact concat_meets ⟨_,ho,rfl⟩ ⟨_,ho2,rfl⟩ noFill_tuple_add seq_tuple_add PySem.F.slot_tuple_add PySem.F.entry_tuple_add (PySem.F.args_tuple_add_2 _ _)
  (tuple_addW0 t b #[] ws.toArray n n2 dd dd2 sl sl2 (by simp)) ⟨ho,ho2,h1⟩
end
end HT
namespace L2
open PySem PySem.Spec PyProof.Rows
theorem ao.rfl' {H:Hp}:ao H H:=fun _ _ e=>e
theorem rH {xs:List V} {lo hi:Option Int} (h:HT.sIx xs.length 0 lo=0∧HT.sIx xs.length xs.length hi=xs.length):eF xs lo hi=xs:=by
 unfold eF
 rw [h.1,h.2,List.drop_zero,Nat.sub_zero,List.take_length]
section
variable {X:Cx}
def yc:V→Option Int→Option Int→Hp→VK→Prop:=fun x lo hi H Q=>∃ a xs,x=.ref a∧H a=some (.tup xs)∧∀ p H',ao H H'→H' p=some (.tup (eF xs lo hi))→Q (.ref p) H'
theorem zw:SlR X yc:=by
 intro pins s σ H x v vl vu lo hi sl Q I rx hs pl pu h
 obtain ⟨a,xs,rfl,hx,q⟩:=h
 have hq:SqT X.K H a xs:=.inl (.inl hx)
 by_cases hw:HT.sIx xs.length 0 lo=0∧HT.sIx xs.length xs.length hi=xs.length
 · cases rx
   obtain ⟨its,r,ht,hz⟩:=I.tuple hq
   have hlen:its.toArray.size=xs.length:=by rw [List.size_toArray];exact r.length.symm
   refine ⟨"tuple",_,PyProof.Rows.slot_tuple_getitem.lookup,ht.typeIs,?_⟩
   refine HT.ji ht hs pl pu (by rw [hlen];exact hw) ?_
   exact ⟨.ref a,H,I,rfl,q a H ao.rfl' (by rw [rH hw];exact hx)⟩
 · exact Cr pins s σ H _ v vl vu lo hi sl Q I rx hs pl pu ⟨a,xs,rfl,hq,hw,fun p hp=>q p _ (ao.upd hp) (ai ..)⟩
def xN:R2:=fun x y H Q=>∃ a b xs ys,x=.ref a∧y=.ref b∧H a=some (.tup xs)∧H b=some (.tup ys)∧xs.length+ys.length≤sizeLine∧∀ p H',ao H H'→H' p=some (.tup (xs++ys))→Q (.ref p) H'
theorem zt:OpR X (binaryOp .Add) xN:=by
 intro pins s σ H x y v u Q I rx ry h
 obtain ⟨a,b,xs,ys,rfl,rfl,ha,hb,hz,q⟩:=h
 by_cases hx:xs=[]
 · subst hx
   cases rx
   cases ry
   obtain ⟨its,r1,p1,_⟩:=I.tuple (.inl (.inl ha))
   obtain ⟨its2,r2,p2,_⟩:=I.tuple (.inl (.inl hb))
   cases r1
   exact HT.xv p1 p2 ⟨.ref b,H,I,rfl,q b H ao.rfl' hb⟩
 · refine zp pins s σ H _ _ v u Q I rx ry ⟨a,b,xs,ys,rfl,rfl,.inl (.inl ha),.inl (.inl hb),hx,hz,fun e=>?_,fun _ p hp=>q p _ (ao.upd hp) (ai ..)⟩
   subst e
   exact q a H ao.rfl' (by rw [List.append_nil];exact ha)
def aL (K:W.Frag):R2:=fun x y H Q=>match x,y with
 | .int i,.int j=>Q (.int (i+j)) H
 | .str i,.str j=>i.length+j.length≤sizeLine∧Q (.str (i++j)) H
 | .ref a,.ref b=>Ax (.ref a) (.ref b) H Q∨xN (.ref a) (.ref b) H Q
 | _,_=>False
theorem bi:OpR X (binaryOp .Add) (aL X.K):=(Bq.or (sP.or (By.or zt))).imp fun x y H Q q=>by
 unfold aL at q
 split at q
 · exact .inl ⟨_,_,rfl,rfl,q⟩
 · exact .inr (.inl ⟨_,_,rfl,rfl,q.1,q.2⟩)
 · exact .inr (.inr q)
 · exact q.elim
def Ct (K:W.Frag):V→Option Int→Option Int→Hp→VK→Prop:=fun x lo hi H Q=>BU K x lo hi H Q∨yc x lo hi H Q
theorem Bi:SlR X (Ct X.K):=zy.or zw
def tu (t:TE):TE:=fun σ H Q=>t σ H fun x H'=>match x with
 | .int i=>i.natAbs.log2<1920∧Q (.str (toString i)) H'
 | .str z=>z.length≤sizeLine∧Q (.str z) H'
 | _=>False
theorem rF {e:Expr} {te:TE} {pos:Pos} (h:QE X e te):QE X (.FormattedValue e (-1) none pos) (tu te):=⟨fun pins s σ H Q I q=>by
 refine FormattedValue_plain (thn (h.out pins s σ H _ I q) fun v s1 ⟨x,H1,I1,r1,q1⟩=>?_)
 cases x <;> first | exact q1.elim | skip
 · rename_i i
   obtain ⟨t,rfl⟩:=(show ∃ t,v=Value.int i t from r1)
   exact formatField_int_small q1.1 ⟨.str _,H1,I1.tok _,⟨_,rfl⟩,q1.2⟩
 · rename_i z
   obtain ⟨t,rfl⟩:=(show ∃ t,v=Value.str z t from r1)
   exact formatField_str (fun t' tk=>⟨.str _,H1,I1.tok _,⟨_,rfl⟩,q1.2⟩) q1.1⟩
def mJ : List TE → Str → TE
  | [], acc => fun σ H Q => acc.length ≤ sizeLine ∧ Q (.str acc) H
  | t :: r, acc => fun σ H Q => t σ H fun x H' => match x with
    | .str y => (acc ++ y).length ≤ sizeLine ∧ mJ r (acc ++ y) σ H' Q
    | _ => False
inductive QJ (X:Cx):List Expr→List TE→Prop where
 | nil:QJ X [] []
 | cons {e:Expr} {t:TE} {es:List Expr} {ts:List TE}:QE X e t→QJ X es ts→QJ X (e::es) (t::ts)
theorem Gd {es : List Expr} {ts : List TE} (j : QJ X es ts) : ∀ {pins : List (Addr × Obj)} {s : Shared} {σ : St} {H : Hp} {Q : VK} {acc : Str}, Inv X pins σ H s → mJ ts acc σ H Q → wpAny (model X.prog X.w) X.A (joinParts acc (evalEach es X.env)) (EP X pins σ Q) X.xe s := by
  induction j with
  | nil => intro pins s σ H Q acc I q; exact joinParts_nil ⟨.str _, H, I.tok _, ⟨_, rfl⟩, q.2⟩ q.1
  | cons h _ ih =>
    intro pins s σ H Q acc I q
    refine joinParts_cons (thn (h.out pins s σ H _ I q) fun v s1 ⟨x, H1, I1, r1, q1⟩ => ?_)
    cases x <;> first | exact q1.elim | skip
    rename_i z
    obtain ⟨t, rfl⟩ := (show ∃ t, v = Value.str z t from r1)
    exact ⟨q1.1, ih I1 q1.2⟩
theorem ut {v1 v2:Expr} {cq:List Expr} {ts:List TE} {pos:Pos} (j:QJ X (v1::v2::cq) ts):QE X (.JoinedStr (v1::v2::cq) pos) (mJ ts Str.empty):=⟨fun pins s σ H Q I q=>JoinedStr_many (Gd j I q)⟩
end
end L2
namespace L2
open PySem PySem.Spec PyProof.Rows
theorem nH:bootBuiltins "ValueError" =some (.type "ValueError"):=by decide +kernel
theorem iU {K:W.Frag} {C D:Addr} {b:Bool} (h:W.mroIn K C (.ref D)=some b):eZ K C D=some b:=by
 unfold W.mroIn W.clsIn at h
 unfold eZ
 split at h
 · rename_i cd sl e
   rw [e]
   dsimp only [Option.bind] at h ⊢
   split at h
   · cases h
   · exact h
 · cases h
theorem Fun.okN {P : Program} {w : World} {K : W.Frag} {mg : Str → Option Value} {base : Heap} {CX : CXT} {x qual : Str} {st : Stmt} {f : Addr} {fd : FuncData} {N ps : List Str} {k : Nat} {sp : Sp} (F : Fun K x qual st f fd) (S : aB N ps (am st)) (len : ∀ vs H Q E, sp vs H Q E → vs.length = ps.length)
  (hbody : ∀ (cdv : Value) (A : Around) (outer : List Env) (s : Shared) (H : Hp) (vs : List V) (Q : VK) (E : XK), bh k (A.deeper (envOfC qual (am st) s.heap.objs.size f cdv)) → sp vs H Q E →
   ∃ t, PSs (cI CX P w K mg base N qual (am st) f cdv A outer s H E).nox (aQ st) t ∧ t { nx := fun _ H' => Q .non H', rt := Q } (start N vs) H) : aN P w K mg base CX (k + 1) f fd ps sp := by
 obtain ⟨oc, od, kV, doc, pm, an, cdv, ct, osl, rfl, lk, hcd⟩ := F.ex
 refine yE lk hcd S len fun A outer s H vs Q E hr hsp => ?_
 obtain ⟨t, h, q⟩ := hbody cdv A outer s H vs Q E hr hsp
 exact ⟨t, h.nox, q⟩
end L2
namespace L2
open PySem PySem.Spec PyProof.Rows
section
variable {X:Cx}
def Di:V→Option Int→Option Int→Hp→VK→Prop:=fun x lo hi H Q=>∃ z,x=.str z∧z.length≤sizeLine∧Q (.str (Txt.slice z lo hi)) H
theorem Cy : SlR X Di := by
  intro pins s σ H x v vl vu lo hi sl Q I rx hs pl pu h
  obtain ⟨z, rfl, hz, q⟩ := h
  obtain ⟨t, rfl⟩ := (show ∃ t, v = Value.str z t from rx)
  refine ⟨"str", _, F.slot_str_getitem.lookup, typeIs_str _ _ _, ?_⟩
  have fin : ∀ (l u : Option (Int × Tok)), l.map (·.1) = lo → u.map (·.1) = hi → s.heap.IsSlice sl l u none → wpAny (model X.prog X.w) X.A (getItem (.str z t) (.ref sl)) (EP X pins σ Q) X.xe s := fun l u e1 e2 hs' => by
    subst e1 e2
    refine wpAny_getItem_str_slice (l := l) (u := u) (st := none) hs' rfl (post_val_or_str ⟨Nat.le_trans (Txt.slice_le z _ _) hz, fun t' k => ⟨.str _, H, I.tok k, ⟨_, rfl⟩, q⟩⟩)
  obtain ⟨os, hos, hcs, hds⟩ := hs
  cases pl with
  | none => cases pu with
    | none => exact fin none none rfl rfl ⟨os, hos, hcs, hds⟩
    | int j tj => exact fin none (some (j, tj)) rfl rfl ⟨os, hos, hcs, hds⟩
  | int i ti => cases pu with
    | none => exact fin (some (i, ti)) none rfl rfl ⟨os, hos, hcs, hds⟩
    | int j tj => exact fin (some (i, ti)) (some (j, tj)) rfl rfl ⟨os, hos, hcs, hds⟩
def gr (K:W.Frag):V→Option Int→Option Int→Hp→VK→Prop:=fun x lo hi H Q=>Ct K x lo hi H Q∨Di x lo hi H Q
theorem ig:SlR X (gr X.K):=Bi.or Cy
def lv:V→Bool
 | .int _=>true
 | .str _=>true
 | _=>false
theorem rS {A:Around} {s:Shared} {x y:V} {u v:Value} (rx:aX x u) (ry:aX y v) (hx:lv x=true) (hy:lv y=true):PySem.SeqAt.EqAt A s u v (decide (x=y)):=by
 cases x <;> first | cases hx | skip
 all_goals (cases y <;> first | cases hy | skip)
 · obtain ⟨t,rfl⟩:=rx;obtain ⟨t',rfl⟩:=ry
   have e:=PySem.SeqAt.EqAt.int_int (A:=A) (s:=s) ‹Int› t ‹Int› t'
   rename_i i j
   have e2:decide (V.int i=V.int j)=(i==j):=by rw [jF (f:=V.int) fun _ _ e=>V.int.inj e];rfl
   rw [e2];exact PySem.SeqAt.EqAt.int_int i t j t'
 · obtain ⟨t,rfl⟩:=rx;obtain ⟨t',rfl⟩:=ry
   exact PySem.SeqAt.EqAt.int_str _ _ _ _
 · obtain ⟨t,rfl⟩:=rx;obtain ⟨t',rfl⟩:=ry
   exact PySem.SeqAt.EqAt.str_int _ _ _ _
 · obtain ⟨t,rfl⟩:=rx;obtain ⟨t',rfl⟩:=ry
   rename_i i j
   have e2:decide (V.str i=V.str j)=(i==j):=by
    rw [jF (f:=V.str) fun _ _ e=>V.str.inj e]
    by_cases h:i=j
    · rw [h];simp
    · rw [decide_eq_false h];exact (beq_eq_false_iff_ne.mpr h).symm
   rw [e2];exact PySem.SeqAt.EqAt.str_str i t j t'
theorem tK {xs ys:List V}:decide (xs=ys)=((List.range (min xs.length ys.length)).all (fun j=>decide (xs[j]?=ys[j]?))&&xs.length==ys.length):=by
 by_cases h:xs=ys
 · subst h;simp
 · rw [decide_eq_false h]
   by_cases hl:xs.length=ys.length
   · rw [hl,Nat.min_self,beq_self_eq_true,Bool.and_true]
     symm
     rw [List.all_eq_false]
     apply Classical.byContradiction
     intro hn
     apply h
     apply List.ext_getElem? fun i=>?_
     by_cases hi:i<ys.length
     · apply Classical.byContradiction
       intro hne
       exact hn ⟨i,List.mem_range.mpr hi,by simpa using hne⟩
     · rw [List.getElem?_eq_none (by omega),List.getElem?_eq_none (by omega)]
   · have:(xs.length==ys.length)=false:=by simpa using hl
     rw [this,Bool.and_false]
def CQ (K:W.Frag):R2:=fun x y H Q=>∃ a b xs ys,x=.ref a∧y=.ref b∧SqT K H a xs∧SqT K H b ys∧xs.all lv=true∧ys.all lv=true∧Q (.bl (decide (xs=ys))) H
theorem AT (hu:X.A.units<cLine):OpR X (compareOp .Eq) (CQ X.K):=by
 intro pins s σ H x y v u Q I rx ry h
 obtain ⟨a,b,xs,ys,rfl,rfl,ha,hb,px,py,q⟩:=h
 cases rx
 cases ry
 obtain ⟨its,r1,p1,_⟩:=I.tuple ha
 obtain ⟨its2,r2,p2,_⟩:=I.tuple hb
 have l1:=r1.length
 have l2:=r2.length
 refine PySem.SeqAt.eq_tupleAt (e:=fun j=>decide (xs[j]?=ys[j]?)) p1 p2 hu (fun j h1 h2=>?_) ?_
 · have h1:j<its.length:=by simpa using h1
   have h2:j<its2.length:=by simpa using h2
   have e1:xs[j]?=some xs[j]:=List.getElem?_eq_getElem (by omega)
   have e2:ys[j]?=some ys[j]:=List.getElem?_eq_getElem (by omega)
   obtain ⟨u1,g1,ru1⟩:=r1.get e1
   obtain ⟨u2,g2,ru2⟩:=r2.get e2
   have g1':its.toArray[j]=u1:=by
    rw [List.getElem?_eq_getElem h1] at g1;simpa using Option.some.inj g1
   have g2':its2.toArray[j]=u2:=by
    rw [List.getElem?_eq_getElem h2] at g2;simpa using Option.some.inj g2
   rw [g1',g2',e1,e2]
   have:decide (some xs[j]=some ys[j])=decide (xs[j]=ys[j]):=by simp
   rw [this]
   exact rS ru1 ru2 (List.all_eq_true.mp px _ (List.getElem_mem _)) (List.all_eq_true.mp py _ (List.getElem_mem _))
 · have e:=tK (xs:=xs) (ys:=ys)
   rw [l1,l2] at e
   simp only [List.size_toArray]
   rw [← e]
   exact ⟨.bl _,H,I,rfl,q⟩
def pH:List V→Hp→VK→Prop:=fun xs H Q=>match xs with
 | [.str z]=>∃ n,PySem.intText? z=some n∧z.length≤640∧Q (.int n) H
 | [.bl b]=>Q (.int (if b then 1 else 0)) H
 | _=>False
theorem IB:bB X (.type "int") pH:=fun pins s σ H xs us Q I r h=>by
 unfold pH at h
 split at h
 · obtain ⟨n,h1,h2,q⟩:=h
   obtain ⟨u,rfl,ru⟩:=fD r
   obtain ⟨t,rfl⟩:=ru
   exact W.KIN.call_text h1 h2 ⟨.int n,H,I.tok _,⟨_,rfl⟩,q⟩
 · obtain ⟨u,rfl,ru⟩:=fD r
   cases ru
   exact call_int_bool ⟨.int _,H,I.tok _,⟨_,rfl⟩,h⟩
 · exact h.elim
end
end L2
namespace HT
open PySem PyProof.Rows
section
variable {prog:Program} {w:World} {A:Around} {E:Value→Shared→Prop} {s:Shared}
end
end HT
namespace HT
open PySem PyProof.Rows
section
variable {prog:Program} {w:World} {A:Around} {E:Value→Shared→Prop} {s:Shared}
end
end HT
namespace L2
open PySem PySem.Spec PyProof.Rows
section
variable {X:Cx} {pins:List (Addr×Obj)} {σ:St} {H:Hp} {s:Shared} {h':Heap}
end
section
variable {X:Cx} {pins:List (Addr×Obj)} {σ:St} {H H1:Hp} {s s0:Shared} {a:Addr} {o:HO}
theorem Inv.track2 (I0:Inv X pins σ H1 s0) (I:Inv X pins σ H s) (new:s0.heap.objs.size≤a) (hn:H a=none) (ok:ba X.prog X.w (upd H a o) s.heap a o):Inv X pins σ (upd H a o) s:=by
 have ne:∀ b u,s0.heap.get? b=some u→b≠a:=fun b u e=>Nat.ne_of_lt (Nat.lt_of_lt_of_le (Heap.lt_size e) new)
 have ne0:∀ b u,X.s₀.heap.get? b=some u→b≠a:=fun b u e=>Nat.ne_of_lt (Nat.lt_of_lt_of_le (Heap.lt_size e) (Nat.le_trans I0.sz new))
 have nL:X.env.locals≠a:=by
   obtain ⟨m,⟨o',_,_,e,_⟩,_⟩:=I0.loc
   exact ne _ _ e
 refine ⟨I.ok,I.os,I.bare,⟨I.base.keep,I.base.slot,fun b u e n hx=>?_,I.base.there,fun b xs e=>?_,fun b u v e=>?_,fun b ps e=>?_⟩,I.loc,I.cell,?_,fun x c e=>?_,fun p hp=>?_,fun b u e=>?_,I.len⟩
 · rw [aq (ne0 b u e)];exact I.base.free b u e n hx
 · have:=I.base.tups b xs e
   rw [aq (ay this hn)];exact this
 · have:=I.base.frzs b u v e
   rw [aq (ay this hn)];exact this
 · obtain ⟨more,this⟩:=I.base.tbls b ps e
   exact ⟨more,by rw [aq (ay this hn)];exact this⟩
 · rw [aq nL];exact I.free
 · obtain ⟨v,o',e',_⟩:=I0.cell x c e
   rw [aq (ne _ _ e')];exact I.freeC x c e
 · obtain ⟨h1,h2,h3⟩:=I.pin p hp
   exact ⟨h1,by rw [aq (ne _ _ (I0.pin p hp).1)];exact h2,h3⟩
 · by_cases hb:b=a
   · subst hb
     rw [ai] at e;cases e
     exact ok
   · rw [aq hb] at e
     exact (I.hok b u e).stay (fun c v _ q=>q) (fun c q=>by
      have:c≠a:=ay q hn
      rw [aq this];exact q) fun c xs q=>by
      have:c≠a:=ay q hn
      rw [aq this];exact q
end
end L2
namespace L2
open PySem PySem.Spec PyProof.Rows
section
variable {X:Cx} {a b:Expr} {t:TA} {p pos ep:Pos} {elts:List Expr} {ek:Nat}
end
end L2
namespace L2
open PySem PySem.Spec PyProof.Rows
theorem Ba:bootBuiltins "int" =some (.type "int"):=by decide +kernel
section
variable {X:Cx} {a b:Expr} {t:TA} {p pos ep px py:Pos} {elts:List Expr} {ek:Nat} {x y:Str} {iter:Expr} {wi:TI} {tS:TS}
end
end L2
namespace L2
open PySem PySem.Spec PyProof.Rows
def bx (C:Addr) (m:Str) (sp:Sp) (E:St→XK) (ta:TE) (t:TA):TE:=fun σ H Q=>ta σ H fun x H1=>∃ a dx fs,x=.ref a∧H1 a=some (.ins C dx fs)∧fs.lookup m=none∧t σ H1 fun vs H2=>sp (x::vs) H2 Q (E σ)
def lP (C:Addr) (sp:Sp) (E:St→XK) (t:TA):TE:=fun σ H Q=>t σ H fun vs H1=>∀ x dx,H1 x=none→H1 dx=none→dx≠x→
 sp (.ref x::vs) (upd (upd H1 dx (.own x)) x (.ins C dx [])) (fun v H2=>v=.non∧Q (.ref x) H2) (E σ)
section
variable {X:Cx} {CX:CXT} {k:Nat} {f C:Addr} {fd:FuncData} {ps:List Str} {sp:Sp} {E:St→XK} {x m fl:Str} {p pos apos pos':Pos} {e o value:Expr} {es:List Expr} {ta tv to:TE} {t:TA}
theorem fe (he:QE X e ta) (hb:attributeBase e fl X.env (eval e X.env)=eval e X.env:=by rfl):QE X (.Attribute e fl pos) (fz X.K ta fl):=⟨BR he.out hb⟩
theorem iV (ho:QE X o to) (hv:QE X value tv) (hs:swapsWith value (some (.Attribute o fl pos')) pos.line X.env=pure false:=by rfl):QS X (.Assign [.Attribute o fl pos'] value pos) (mL X.K to tv fl):=⟨Cg ho.out hv.out hs⟩
theorem bS {pl : Sem Bool} (he : QE X o ta) (c : Cls X.K C) (hm : fN X.K C m f) (F : aN X.prog X.w X.K X.mg X.base CX k f fd ps sp) (hr : bh k X.A) (hb : bA X.K fd ps []) (hx : dI CX X E) (ha : QA X (e :: es) t)
  (hs : bj (e :: es) = true := by rfl)
  (ht : eval (.Call (.Attribute o m apos) (e :: es) [] pos) X.env = (do
   let ov ← eval o X.env
   standAt apos.atName
   let (f, first) ← holding [ov] (getMethod ov m pl)
   callWith pos f first (backTo pos (starEach (e :: es) X.env)) (backToKw pos (keywordEach [] X.env))) := by rfl) :
  QE X (.Call (.Attribute o m apos) (e :: es) [] pos) (bx C m sp E ta t) := ⟨fun pins s σ H Q I h => by
 have h' : (bM e && bj es) = true := hs
 refine W.methodCall_KW (pl := pl) (thn (he.out pins s σ H _ I h) fun u s1 ⟨x, H1, I1, rx, a, dx, fs, ex, ea, l, q⟩ => ?_) ht
 subst ex
 obtain rfl : u = Value.ref a := rx
 refine lm I1 ea c hm l ?_
 refine W.callWith_K (first := [.ref a]) (h₀ := X.base) I.ok.mod.kin hm.kp (thn (ha.out pos pins s1 σ H1 _ I1 q) fun us s2 ⟨vs, H2, I2, r, q2⟩ => ⟨I2.kIn, ?_⟩)
  (bc (Bool.and_eq_true_iff.mp h').1 es X.env) (bT (Bool.and_eq_true_iff.mp h').2)
 exact jM (us := .ref a :: us) (vs := .ref a :: vs) F hr hb hx I2 (.cons rfl r) q2⟩
theorem kD {pl : Sem Bool} (he : QE X o ta) (c : Cls X.K C) (hm : fN X.K C m f) (F : aN X.prog X.w X.K X.mg X.base CX k f fd ps sp) (hr : bh k X.A) (hb : bA X.K fd ps []) (hx : dI CX X E)
  (ht : eval (.Call (.Attribute o m apos) [] [] pos) X.env = (do
   let ov ← eval o X.env
   standAt apos.atName
   let (f, first) ← holding [ov] (getMethod ov m pl)
   callWith pos f first (backTo pos (starEach [] X.env)) (backToKw pos (keywordEach [] X.env))) := by rfl) :
  QE X (.Call (.Attribute o m apos) [] [] pos) (bx C m sp E ta af) := ⟨fun pins s σ H Q I h => by
 refine W.methodCall_KW (pl := pl) (thn (he.out pins s σ H _ I h) fun u s1 ⟨x, H1, I1, rx, a, dx, fs, ex, ea, l, q⟩ => ?_) ht
 subst ex
 obtain rfl : u = Value.ref a := rx
 refine lm I1 ea c hm l ?_
 exact W.callWith_K0 (first := [.ref a]) I1.kIn hm.kp (jM (us := [.ref a]) (vs := [.ref a]) F hr hb hx I1 (.cons rfl .nil) q)⟩
theorem mR {pins : List (Addr × Obj)} {σ : St} {H : Hp} {s : Shared} {Q : VK} {us : List Value} {vs : List V} (M : Mk X.K C f) (F : aN X.prog X.w X.K X.mg X.base CX k f fd ps sp) (hr : bh (k + 1) X.A) (hb : bA X.K fd ps [])
    (hx : dI CX X E) (I : Inv X pins σ H s) (r : aS vs us)
    (h : ∀ x dx, H x = none → H dx = none → dx ≠ x → sp (.ref x :: vs) (upd (upd H dx (.own x)) x (.ins C dx [])) (fun v H2 => v = .non ∧ Q (.ref x) H2) (E σ)) :
    wpAny (model X.prog X.w) X.A (call (.ref C) us) (EP X pins σ Q) X.xe s := by
  have hq := h (s.heap.objs.size + 1) s.heap.objs.size (I.hok.fresh (Nat.le_succ _)) (I.hok.fresh (Nat.le_refl _)) (Nat.ne_of_lt (Nat.lt_succ_self _))
  have I2 := Inv.made (C := C) I
  have r2 : aS (V.ref (s.heap.objs.size + 1) :: vs) (Value.ref (s.heap.objs.size + 1) :: us) := .cons rfl r
  have hl : (Value.ref (s.heap.objs.size + 1) :: us).length = ps.length := by
    have e := r2.length
    rw [F.len _ _ _ _ hq] at e
    exact e.symm
  have hb' := hb _ (Value.ref (s.heap.objs.size + 1) :: us) I2.kIn (by rw [List.append_nil]; exact hl)
  rw [List.append_nil] at hb'
  refine wpAny_call (uT (f := f) I.kIn M.makes M.init (beq_iff_eq.mp M.fn) (codeAny_mono (F.run _ X.stack _ _ ⟨Value.ref (s.heap.objs.size + 1) :: us, []⟩ (Value.ref (s.heap.objs.size + 1) :: us) _ _ (E σ) (hr.make C us [])
    (I2.env0.make C us []) hb' r2 hq) fun r s' hq' => ?_))
  cases r with
  | error e => exact hx pins σ _ _ e s' I2 hq'
  | ok fl =>
    cases fl with
    | ret u =>
      obtain ⟨v, H', I3, rv, ev, q3⟩ := I2.after hq'
      subst ev
      exact ⟨rv, ⟨V.ref (s.heap.objs.size + 1), H', I3, rfl, q3⟩⟩
    | next => exact False.elim hq'
    | brk => exact False.elim hq'
    | cont => exact False.elim hq'
theorem zM (M:Mk X.K C f) (F:aN X.prog X.w X.K X.mg X.base CX k f fd ps sp) (hr:bh (k+1) X.A) (hm:X.mg x=some (.ref C)) (hb:bA X.K fd ps []) (hx:dI CX X E) (ha:QA X (e::es) t)
  (hg:Gl X x:=by rfl) (hdb:(x==("__debug__" :Str))=false:=by decide) (hs:bj (e::es)=true:=by rfl):QE X (.Call (.Name x p) (e::es) [] pos) (lP C sp E t):=⟨fun pins s σ H Q I h=>by
 have h':(bM e&&bj es)=true:=hs
 refine wpAny_Call_Name_kw (fm I hg hm ?_ hdb)
 refine W.callWith_K (h₀:=X.base) I.ok.mod.kin M.kp (thn (ha.out pos pins s σ H _ I h) fun us s1 ⟨vs,H1,I1,r,q⟩=>⟨I1.kIn,?_⟩) (bc (Bool.and_eq_true_iff.mp h').1 es X.env) (bT (Bool.and_eq_true_iff.mp h').2)
 exact mR M F hr hb hx I1 r q⟩
theorem xj (M:Mk X.K C f) (F:aN X.prog X.w X.K X.mg X.base CX k f fd ps sp) (hr:bh (k+1) X.A) (hm:X.mg x=some (.ref C)) (hb:bA X.K fd ps []) (hx:dI CX X E)
  (hg:Gl X x:=by rfl) (hdb:(x==("__debug__" :Str))=false:=by decide):QE X (.Call (.Name x p) [] [] pos) (lP C sp E af):=⟨fun pins s σ H Q I h=>by
 refine wpAny_Call_Name_kw (fm I hg hm ?_ hdb)
 exact W.callWith_K0 I.kIn M.kp (mR (us:=[]) M F hr hb hx I .nil h)⟩
end
end L2
namespace L2
open PySem PySem.Spec PyProof.Rows
mutual
inductive dU (K:W.Frag) (H:Hp):V→PyData→Prop
 | non:dU K H .non .none
 | bl (b):dU K H (.bl b) (.bool b)
 | int (i):dU K H (.int i) (.int i)
 | str (z):dU K H (.str z) (.str z)
 | lst {a xs ds}:SqL K H a xs→DatVs K H xs ds→dU K H (.ref a) (.list ds)
 | tup {a xs ds}:SqT K H a xs→DatVs K H xs ds→dU K H (.ref a) (.tuple ds)
inductive DatVs (K:W.Frag) (H:Hp):List V→List PyData→Prop
 | nil:DatVs K H [] []
 | cons {x xs d ds}:dU K H x d→DatVs K H xs ds→DatVs K H (x::xs) (d::ds)
end
section
variable {X:Cx}
mutual
theorem de {pins : List (Addr × Obj)} {σ : St} {H : Hp} {s : Shared} (I : Inv X pins σ H s) : ∀ {x : V} {d : PyData}, dU X.K H x d → ∀ {v : Value}, aX x v → ∃ as, Reads s.heap v d as
  | _, _, .non, _, r => by cases r; exact ⟨_, .none⟩
  | _, _, .bl b, _, r => by cases r; exact ⟨_, .bool b⟩
  | _, _, .int i, _, r => by obtain ⟨t, rfl⟩ := r; exact ⟨_, .int i t⟩
  | _, _, .str z, _, r => by obtain ⟨t, rfl⟩ := r; exact ⟨_, .str z t⟩
  | _, _, .lst h hs, _, r => by
    cases r
    obtain ⟨its, r1, ⟨o, n, h1, h2, _, h3⟩, _⟩ := I.list h
    obtain ⟨as, ra⟩ := datVs_reads I hs r1
    exact ⟨_, .list h1 h2 h3 (by simpa using ra)⟩
  | _, _, .tup h hs, _, r => by
    cases r
    obtain ⟨its, r1, ⟨o, h1, h2, n, h3⟩, _⟩ := I.tuple h
    obtain ⟨as, ra⟩ := datVs_reads I hs r1
    exact ⟨_, .tuple h1 h2 h3 (by simpa using ra)⟩
theorem datVs_reads {pins : List (Addr × Obj)} {σ : St} {H : Hp} {s : Shared} (I : Inv X pins σ H s) : ∀ {xs : List V} {ds : List PyData}, DatVs X.K H xs ds → ∀ {vs : List Value}, aS xs vs → ∃ as, ReadsAll s.heap vs ds as
  | _, _, .nil, _, r => by cases r; exact ⟨_, .nil⟩
  | _, _, .cons h hs, _, r => by
    cases r with
    | cons r1 r2 =>
      obtain ⟨as, a⟩ := de I h r1
      obtain ⟨bs, b⟩ := datVs_reads I hs r2
      exact ⟨_, .cons a b⟩
end
def rG (K:W.Frag):R2:=fun x y H Q=>∃ d e,dU K H x d∧dU K H y e∧d.canLay0=true∧e.canLay0=true∧d.depth≤150∧Q (.bl (d.eqv e)) H
def ww (K:W.Frag):R2:=fun x y H Q=>∃ d e,dU K H x d∧dU K H y e∧d.canLay0=true∧e.canLay0=true∧d.depth≤150∧Q (.bl (!d.eqv e)) H
theorem CW (hu:X.A.units+150<cLine):OpR X (compareOp .Eq) (rG X.K):=by
 intro pins s σ H x y v u Q I rx ry h
 obtain ⟨d,e,hd,he,cd,ce,dp,q⟩:=h
 obtain ⟨as,ra⟩:=de I hd rx
 obtain ⟨bs,rb⟩:=de I he ry
 exact PySem.SeqAt.compareEq_reads ra rb cd ce (by have:=Nat.min_le_left d.depth e.depth;omega) ⟨.bl _,H,I,rfl,q⟩
theorem CH (hu:X.A.units+150<cLine):OpR X (compareOp .NotEq) (ww X.K):=by
 intro pins s σ H x y v u Q I rx ry h
 obtain ⟨d,e,hd,he,cd,ce,dp,q⟩:=h
 obtain ⟨as,ra⟩:=de I hd rx
 obtain ⟨bs,rb⟩:=de I he ry
 exact PySem.SeqAt.compareNe_reads ra rb cd ce (by have:=Nat.min_le_left d.depth e.depth;omega) ⟨.bl _,H,I,rfl,q⟩
theorem bh.units150 {k:Nat} {A:Around} (r:bh k A):A.units+150<cLine:=by have:=r.un;omega
def gl (K:W.Frag):R2:=fun x y H Q=>match x,y with
 | .ref a,y=>ww K (.ref a) y H Q
 | x,.ref b=>ww K x (.ref b) H Q
 | x,y=>mNe x y H Q
theorem rq (hu:X.A.units+150<cLine):OpR X (compareOp .NotEq) (gl X.K):=((CH hu).or oNe).imp fun x y H Q q=>by
 unfold gl at q
 split at q
 · exact .inl q
 · exact .inl q
 · exact .inr q
def rY:V→List V→Hp→VK→Prop:=fun x vs H Q=>match x,vs with | .int i,[]=>Q (.int (Builtin.Int.intBits i)) H | _,_=>False
theorem yH:MtR X "int.bit_length" rY:=by
 intro pins s σ H x xs v us Q I rx rs q
 unfold rY at q
 split at q
 · obtain ⟨t,rfl⟩:=rx
   cases rs
   exact call_int_bit_length ⟨.int _,H,I.tok _,⟨_,rfl⟩,q⟩
 · exact q.elim
def pQ:List V→Hp→VK→Prop:=fun xs H Q=>match xs with | [.int i,.int j]=>Q (.int (if j<i then j else i)) H | _=>False
theorem Dh (hc:X.calm=true):bB X (.builtin "min") pQ:=fun pins s σ H xs us Q I r q=>by
 unfold pQ at q
 split at q
 · exact ux hc pins s σ H _ us Q I r ⟨_,_,rfl,q⟩
 · exact q.elim
variable {o:Expr} {to:TE} {name:Str} {apos cpos:Pos} {T id:String} {rm:V→List V→Hp→VK→Prop}
theorem xX (pa:PlainAttrs T) (slot:Slot T name id) (hty:typeOf (.builtin id)=pure (.type "method_descriptor")) (hm:MtR X id rm) (ho:QE X o to)
 (hbase:attributeBase o name X.env (eval o X.env)=eval o X.env:=by rfl) (hline:(apos.endLine==cpos.line)=true:=by rfl):QE X (.Call (.Attribute o name apos) [] [] cpos) (pO X.K T rm to):=⟨Ah pa slot hty hm ho.out hbase hline⟩
end
end L2
namespace L2
open PySem PySem.Spec PyProof.Rows
theorem tN:(("" :String):Str)=Str.empty:=by decide
theorem yz : ∀ xs : List Str, Str.join "" xs = xs.foldr (· ++ ·) Str.empty
  | [] => rfl
  | [x] => (Str.append_empty x).symm
  | x :: y :: r => by
    show x ++ (("" : String) : Str) ++ Str.join "" (y :: r) = x ++ (y :: r).foldr (· ++ ·) Str.empty
    rw [yz (y :: r), tN, Str.append_empty]
theorem mh (xs:List Str):Txt.join "" xs=xs.foldr (·++·) Str.empty:=(eq_of_beq (join_plain_closes "" xs)).trans (yz xs)
theorem pU : ∀ xs : List Str, (xs.foldr (· ++ ·) Str.empty).length = (xs.map (·.length)).sum
  | [] => by decide
  | x :: r => by
    show (x ++ r.foldr (· ++ ·) Str.empty).length = _
    rw [strLen_append, pU r, List.map_cons, List.sum_cons]
theorem ax {n:Nat} (h:n≤1000000):n≤sizeLine:=by rw [sizeLine_eq];omega
theorem xJ (k:Nat):((2^k:Nat):Int)=(2:Int)^k:=by simp
theorem qa {K:W.Frag} {H:Hp} {Q:VK} {p:Addr} {xs:List V} {i:Int} (hp:H p=some (.lst xs)) (h0:0≤i) (h1:i<xs.length) (q:∀ v∈xs,Q v H):rIx K (.ref p) (.int i) H Q:=by
 refine .inl ⟨p,xs,i,_,rfl,rfl,SqL.of hp,oV h0 h1,q _ ?_⟩
 have h2:i.toNat<xs.length:=by omega
 rw [List.getD_eq_getElem?_getD,List.getElem?_eq_getElem h2];exact List.getElem_mem h2
theorem tW {α:Type} {xs:List α} {i:Int} (h0:0≤i) (h1:i<xs.length):∃ c,atI xs i=some c:=by
 unfold atI ixN
 rw [if_pos h0,if_pos h1]
 have:i.toNat<xs.length:=by omega
 exact ⟨xs[i.toNat],by show xs[i.toNat]?=_;rw [List.getElem?_eq_getElem this]⟩
theorem kE : ∀ (xs : List Str), (∀ x ∈ xs, x.length = 1) → (xs.map (·.length)).sum = xs.length
  | [], _ => rfl
  | x :: r, h => by
    rw [List.map_cons, List.sum_cons, List.length_cons, kE r fun y hy => h y (List.mem_cons_of_mem _ hy), h x List.mem_cons_self]; omega
theorem xu (xs:List Str) (h:∀ x∈xs,x.length=1):(Txt.join "" xs).length=xs.length:=by rw [mh,pU,kE xs h]
end L2
namespace L2
open PySem PySem.Spec PyProof.Rows
section
variable {X:Cx}
theorem bh.units1 {k:Nat} {A:Around} (r:bh k A):A.units+1<cLine:=by have:=r.un;omega
def BC:R2:=fun x y H Q=>∃ a v,x=.ref a∧fb H a y (some v)∧Q v H
theorem ze (hu:X.A.units+1<cLine):IxR X BC:=by
 intro value slice pins s σ H x y v u Q I rx ry h hs
 obtain ⟨a,w0,rfl,g,q⟩:=h
 obtain rfl:v=Value.ref a:=rx
 have hT:=qp I g
 have h2:wpAny (model X.prog X.w) X.A (getItem (.ref a) u) (EP X pins σ Q) X.xe s:=ug hu I g ry fun w' s3 I3 rw'=>⟨w0,H,I3,rw',q⟩
 unfold subscriptTail
 refine wpAny_bind ?_
 rw [getitemInPython_of_ne hT.not_modules]
 refine wpAny_bind (wpAny_specialOf hT PySem.F.slot_dict_getitem.lookup ?_)
 have fin:wpAny (model X.prog X.w) X.A (subscripted slice false (.ref a) u) (fun r s₃=>wpAny (model X.prog X.w) X.A (letTemporaryGo value (.ref a) r>>=fun _=>pure r) (EP X pins σ Q) X.xe s₃) X.xe s:=by
  rw [hs]
  exact wpAny_operating (wpAny_mono h2 (fun r s₃ h₃=>wpAny_bind (wpAny_letTemporaryGo (wpAny_pure h₃))) fun _ _ x=>x)
 first
  | exact wpAny_pure (wpAny_bind fin)
  | exact wpAny_bind (wpAny_pure (wpAny_bind fin))
  | exact wpAny_bind fin
def aI (K:W.Frag):R2:=fun x y H Q=>rIx K x y H Q∨BC x y H Q
theorem aH (hu:X.A.units+1<cLine):IxR X (aI X.K):=BI.or (ze hu)
def xF:V→V→V→Hp→(Hp→Prop)→Prop:=fun o i v H Q=>∃ a H',o=.ref a∧vk H a i v H'∧Q H'
theorem vh (hu:X.A.units+1<cLine):sU X xF:=by
 intro pins s σ H o i v ov iv u Q I ro ri rv h
 obtain ⟨a,H',rfl,g,q⟩:=h
 obtain rfl:ov=Value.ref a:=ro
 exact um hu I g ri rv fun s4 I4=>⟨H',I4,q⟩
def oK:V→V→V→Hp→(Hp→Prop)→Prop:=fun o i v H Q=>yk o i v H Q∨xF o i v H Q
theorem yS (hu:X.A.units+1<cLine):sU X oK:=by
 intro pins s σ H o i v ov iv u Q I ro ri rv h
 rcases h with h | h
 · exact wK pins s σ H o i v ov iv u Q I ro ri rv h
 · exact vh hu pins s σ H o i v ov iv u Q I ro ri rv h
variable {o e:Expr} {to te:TE} {p pos:Pos}
theorem oY {ti:TE} {i:Expr} (hu:X.A.units+1<cLine) (ho:QE X o to) (hi:QE X i ti) (he:QE X e te) (hs:swapsWithSole [.Subscript o i p] e pos.line X.env=pure false:=by rfl) (hw:swappedStores [.Subscript o i p] e X.env=pure none:=by rfl) (ha:∀ v,assign (.Subscript o i p) X.env v=(do let ov←holding [v] (eval o X.env);let iv←holding [v,ov] (eval i X.env);standAt p;holding [v,ov,iv] (setItem ov iv v);release [v,ov,iv] []):=by intro _;rfl):QS X (.Assign [.Subscript o i p] e pos) (aA te (rZ to ti oK)):=⟨uz he.out (Db ho.out hi.out (yS hu) ha) hs hw⟩
def qU:R2:=fun y x H Q=>∃ a o,x=.ref a∧fb H a y o∧Q (.bl (!o.isSome)) H
theorem uF (hu:X.A.units+1<cLine):OpR X (compareOp .NotIn) qU:=by
 intro pins s σ H x y v u Q I rx ry h
 obtain ⟨a,ov,rfl,g,q⟩:=h
 obtain rfl:u=Value.ref a:=ry
 exact yO hu I g rx fun s3 I3=>⟨.bl (!ov.isSome),H,I3,rfl,q⟩
def qT (K:W.Frag):R2:=fun y x H Q=>∃ d ds,dU K H y d∧(dU K H x (.list ds)∨dU K H x (.tuple ds))∧PyData.canLayAll0 ds=true∧d.canLay0=true∧d.depth≤140∧Q (.bl (!ds.any fun e=>e.eqv d)) H
theorem uO (hu:X.A.units+150<cLine):OpR X (compareOp .NotIn) (qT X.K):=by
 intro pins s σ H x y v u Q I rx ry h
 obtain ⟨d,ds,hd,hx,c1,c2,dp,q⟩:=h
 obtain ⟨as,ra⟩:=de I hd rx
 have hm:X.A.units+1+min (PyData.depthAll ds) d.depth<cLine:=by have:=Nat.min_le_right (PyData.depthAll ds) d.depth;omega
 rcases hx with hx | hx
 · obtain ⟨bs,rb⟩:=de I hx ry
   exact PySem.SeqAt.notIn_list_reads rb ra c1 c2 hm ⟨.bl _,H,I,rfl,q⟩
 · obtain ⟨bs,rb⟩:=de I hx ry
   exact PySem.SeqAt.notIn_tuple_reads rb ra c1 c2 hm ⟨.bl _,H,I,rfl,q⟩
def mD (K:W.Frag):R2:=fun y x H Q=>qU y x H Q∨qT K y x H Q
theorem qz (hu:X.A.units+150<cLine):OpR X (compareOp .NotIn) (mD X.K):=(uF (by omega)).or (uO hu)
def gY:TE:=fun σ H Q=>ui σ H Q∨tR σ H Q
theorem ir:QE X (.Dict [] [] pos) gY:=⟨fun pins s σ H Q I h=>h.elim (wM pins s σ H Q I) (vP pins s σ H Q I)⟩
theorem tI:bB X (.builtin "len") (fun xs H Q=>∃ p kvs,xs=[.ref p]∧H p=some (.dT kvs)∧Q (.int kvs.length) H):=by
 intro pins s σ H xs us Q I r h
 obtain ⟨a,kvs,rfl,e,q⟩:=h
 obtain ⟨u,rfl,r1⟩:=fD r
 cases r1
 obtain ⟨z,hd,ps,rel,dd⟩:=sJ I.hok e
 have hl:ps.length=kvs.length:=(Paired.length rel).symm
 have hT:s.TypeIs (.ref a) "dict" :=dd.typeIs
 obtain ⟨o,es,ep,ho,hc,hdat,he,his,hn⟩:=dd
 have hsz:es.size=kvs.length:=by rw [← hl];have:=congrArg List.length he;simpa using this
 have M:MeetsIn X.prog X.w (Builtin.«dict.__len__» ⟨[.ref a],[]⟩) (fun _ R s=>s.heap.get? a=some o∧R (.ok (.ret (.int kvs.length s.toks))) { s with toks:=s.toks+1 }):=
  .of_wp fun A R s ⟨ho,h⟩=>by
   show wpAny _ _ (dictSize a>>=_) _ _ s
   unfold dictSize
   refine wpAny_bind (wpAny_bind (wpAny_dictEntries ho hdat (wpAny_pure ?_)))
   show wpAny _ _ (Builtin.Dict.pendingCount a>>=_) _ _ s
   refine wpAny_bind (wpAny_pendingCount_other hd ?_)
   refine wpAny_ret_mkInt ?_
   rw [Nat.add_zero,hsz];exact h
 refine Calls.call_function_entry kind_len plain_len entry_len (args_len1 _) ?_
 unfold Builtin.«len»
 refine wpAny_bind (m:=oneArg "len" _) (wpAny_pure ?_)
 refine wpAny_bind (m:=callSpecial? (.ref a) (Str.ofString "__len__")) (wpAny_callSpecial?_slot (name:=Str.ofString "__len__") hT F.slot_dict_len
  (call_meetsIn F.slot_dict_len hT F.entry_dict_len (F.args_dict_len_1 _) M ⟨ho,?_⟩))
 show wpAny _ _ _ _ _ { s with toks:=s.toks+1 }
 refine wpAny_bind (wpAny_holding (wpAny_pure ?_))
 refine wpAny_bind (wpAny_letGo ?_)
 have zz:kvs.length≤sizeLine:=z
 rw [sizeLine_eq] at zz
 show wpAny _ _ (if ((kvs.length:Nat):Int)<0 then _ else _) _ _ _
 rw [if_neg (by omega)]
 show wpAny _ _ (if ((kvs.length:Nat):Int)≥2^63 then _ else _) _ _ _
 rw [if_neg (by omega)]
 exact wpAny_bind (wpAny_mkInt (wpAny_pure ⟨_,rfl,⟨.int kvs.length,H,I.tok _,⟨_,rfl⟩,q⟩⟩))
def cy (K:W.Frag):List V→Hp→VK→Prop:=fun xs H Q=>Cj K xs H Q∨∃ p kvs,xs=[.ref p]∧H p=some (.dT kvs)∧Q (.int kvs.length) H
theorem da:bB X (.builtin "len") (cy X.K):=HB.or tI
def Dj (H:Hp) (a:Addr) (y d:V) (r:V) (H':Hp):Prop:=(fb H a y (some r)∧H'=H)∨(fb H a y none∧vk H a y d H'∧r=d)
theorem fh {A:Around} {E:Value→Shared→Prop} {s:Shared} {P:Program} {w:World} {K:Type} [DecidableEq K] {knd:HeapKind P w K} {d a:Addr} {xs:List (K×Addr×Value)} {k:K} {v:Value} {Q:Value→Shared→Prop} (hu:knd.room A) (hkey:knd.is s.heap k a) (hm:s.heap.DictOfH knd d xs)
   (hthere:∀ p,atKey xs k=some p→Q p.2 { s with toks:=s.toks+knd.draws k })
   (hQ:atKey xs k=none→∀ h',h'.DictOfH knd d (storedH xs k a v)→Heap.SameBut d s.heap h'→Q v { s with heap:=h',toks:=s.toks+knd.draws k })
   (hsz:xs.length≤sizeLine):
   wpAny (model P w) A (dictSetDefault d (.ref a) v) Q E s:=by
 obtain ⟨o,es,ep,ho,hc,hd,he,his,hn⟩:=hm
 unfold dictSetDefault
 try with_reducible refine wpAny_holding ?_
 refine wpAny_bind (knd.pyHash hu hkey ?_)
 refine wpAny_bind (wpAny_dictFind_heap (s:={ s with toks:=s.toks+knd.draws k }) hu hkey ho hd he his hn ?_ ?_)
 · intro hno
   have hnot:k∉xs.map (·.1):=not_mem_keys_of_get hno
   refine wpAny_bind (wpAny_rule (wpAny_bind (wpAny_updateDictKeys (hz:=by have e:=size_of_entries he;omega) (s:={ s with toks:=s.toks+knd.draws k }) ho hd (wpAny_pure (hQ (atKey_none_of_get hno) _ ⟨_,_,ep+1,Heap.get?_update_self _ ho (Obj.isFreed_of_dict (Obj.data_mapDictKeys hd _)),
     hc.mapDictKeys _,Obj.data_mapDictKeys hd _,?_,?_,?_⟩ (Heap.SameBut.update ..))))))
   · rw [storedH_new (atKey_none_of_get hno)]
     simp [he,entryOfKey]
   · rw [storedH_new (atKey_none_of_get hno)]
     intro x hx
     rcases List.mem_append.mp hx with hx | hx
     · exact knd.keeps (his x hx) ho hd (Heap.SameBut.update ..)
     · simp only [List.mem_singleton] at hx
       subst hx
       exact knd.keeps hkey ho hd (Heap.SameBut.update ..)
   · rw [storedH_new (atKey_none_of_get hno)]
     rw [List.map_append,List.nodup_append]
     refine ⟨hn,by simp,?_⟩
     intro x hx y hy
     simp only [List.map_cons,List.map_nil,List.mem_singleton] at hy
     subst hy
     exact fun e=>hnot (e▸hx)
 · intro j p hj
   refine wpAny_bind (wpAny_dictEntries (s:={ s with toks:=s.toks+knd.draws k }) ho hd ?_)
   rw [entry_at he j,hj]
   exact wpAny_bind (wpAny_rule (wpAny_pure (hthere p (atKey_of_get hn hj))))
end
end L2
namespace L2
open PySem PySem.Spec PyProof.Rows
theorem vS {h:Heap} {a:Addr} {its:Array Value} (p:PlainL h a its):h.IsList a its:=let ⟨o,n,e,c,_,d⟩:=p;⟨o,e,c,n,d⟩
section
variable {X:Cx} {a b:Expr} {t:TA} {p pos ep:Pos} {elts:List Expr} {ek:Nat}
end
end L2
namespace L2
open PySem PySem.Spec PyProof.Rows
set_option genInjectivity false in
set_option genSizeOf false in
structure cV where
 qual:Str
 body:FuncBody
 scope:Scope
 ps:List Str
 ys:List Str
def kZ (t:cV) (cs:List Addr) (c:Addr) (fd:FuncData):Prop:=
 fd.qualname=t.qual∧fd.body=t.body∧fd.scope=t.scope∧fd.globals=mainGlobals∧fd.closure=t.ys.zip cs∧fd.code=.ref c∧fd.builtins=builtinsNs∧
  (∀ us:List Value,us.length=t.ps.length→bindArgs fd ⟨us,[]⟩=pure (t.ps.zip us))∧cs.Nodup∧cs.length=t.ys.length
def du (f:Addr) (t:cV) (cs:List Addr) (c:Addr):HO:=.ext fun h=>∃ od fd sl,h.get? f=some ⟨.type "function",od,.func fd,sl⟩∧kZ t cs c fd
def cH (c:Addr) (qual:Str):HO:=.ext fun h=>∃ o vs tk,h.get? c=some o∧o.data=.fields vs∧vs[1]?=some (.str qual tk)
def cn (c:Addr) (v:V):HO:=.ext fun h=>∃ u o,aX v u∧h.get? c=some o∧o.data=.cell (some u)
abbrev cp (H:Hp):List Addr→List V→Prop:=Paired fun c v=>H c=some (cn c v)
structure dv (H:Hp) (f:Addr) (t:cV) (cs:List Addr) (cvs:List V):Prop where
 ex:∃ c,H f=some (du f t cs c)∧H c=some (cH c t.qual)
 cells:cp H cs cvs
theorem cp.mem {H : Hp} {cs : List Addr} {cvs : List V} (h : cp H cs cvs) : ∀ c ∈ cs, ∃ v, H c = some (cn c v) := by
  induction h with
  | nil => intro c hc; cases hc
  | cons r t ih =>
    intro c hc
    rcases List.mem_cons.mp hc with rfl | hc
    · exact ⟨_, r⟩
    · exact ih c hc
theorem cp.get {H : Hp} {cs : List Addr} {cvs : List V} (h : cp H cs cvs) : ∀ {i : Nat} {v : V}, cvs[i]? = some v → ∃ c, cs[i]? = some c ∧ H c = some (cn c v) := by
  induction h with
  | nil => intro i v e; cases e
  | @cons c w cs ws r t ih =>
    intro i v e
    cases i with
    | zero => cases e; exact ⟨c, rfl, r⟩
    | succ i => exact ih e
def cA (cs:List Addr) (H:Hp):Hp:=fun b=>if b∈cs then none else H b
def cm (cs:List Addr) (H H':Hp):Hp:=fun b=>if b∈cs then H b else H' b
theorem gm {cs:List Addr} {H:Hp} {b:Addr} (h:b∈cs):cA cs H b=none:=if_pos h
theorem cM {cs:List Addr} {H:Hp} {b:Addr} (h:b∉cs):cA cs H b=H b:=if_neg h
theorem iD {cs:List Addr} {H H':Hp} {b:Addr} (h:b∈cs):cm cs H H' b=H b:=if_pos h
theorem ck {cs:List Addr} {H H':Hp} {b:Addr} (h:b∉cs):cm cs H H' b=H' b:=if_neg h
theorem ue {cs:List Addr} {H H':Hp} {d:Addr} {o:HO} (h:d∉cs):cm cs H (upd H' d o)=upd (cm cs H H') d o:=by
 funext b
 by_cases hb:b∈cs
 · have:b≠d:=fun e=>h (e▸hb)
   rw [iD hb,aq this,iD hb]
 · rw [ck hb]
   by_cases e:b=d
   · subst e;rw [ai,ai]
   · rw [aq e,aq e,ck hb]
theorem cp.notin {H:Hp} {cs:List Addr} {cvs:List V} (h:cp H cs cvs) {b:Addr} {o:HO} (e:H b=some o) (hn:∀ φ,o≠ .ext φ):b∉cs:=fun hb=>by
 obtain ⟨v,ev⟩:=h.mem b hb
 rw [e] at ev
 exact hn _ (Option.some.inj ev)
theorem cp.hide {H:Hp} {cs:List Addr} {cvs:List V} (h:cp H cs cvs) {b:Addr} {o:HO} (e:H b=some o) (hn:∀ φ,o≠ .ext φ):cA cs H b=some o:=by
 rw [cM (h.notin e hn)];exact e
theorem ao.hide {H H':Hp} (cs:List Addr) (s:ao (cA cs H) H'):ao H (cm cs H H'):=fun b o e=>by
 by_cases hb:b∈cs
 · rw [iD hb];exact e
 · rw [ck hb];exact s _ _ (by rw [cM hb];exact e)
section
variable {P:Program} {w:World} {fs:List Addr} {H H':Hp} {h h':Heap} {cs:List Addr} {cvs:List V}
theorem yU (hc:cp H cs cvs) (ok:HOk P w H h):HOk P w (cA cs H) h:=fun b o e=>by
 by_cases hb:b∈cs
 · rw [gm hb] at e;cases e
 · rw [cM hb] at e
   exact (ok b o e).stay (fun c u _ q=>q) (fun c q=>hc.hide q fun φ z=>nomatch z) fun c xs q=>hc.hide q fun φ z=>nomatch z
theorem qG (hc:cp H cs cvs) (hfs:∀ b∈fs,H b=none) (ok:HOk P w H h) (u:Un fs [] (cA cs H) H' h h') (ok':HOk P w H' h'):Un fs [] H (cm cs H H') h h'∧HOk P w (cm cs H H') h':=by
 have obj:∀ c∈cs,∃ v o,H c=some (cn c v)∧h.get? c=some o∧h'.get? c=some o∧H' c=none:=fun c hm=>by
   obtain ⟨v,ev⟩:=hc.mem c hm
   obtain ⟨_,⟨o,eo⟩,_⟩:=(show ba P w H h c (cn c v) from ok c _ ev)
   refine ⟨v,o,ev,eo,u.keep c o eo (gm hm) (fun z=>?_) (by simp),u.free c o eo (gm hm) (by simp)⟩
   rw [hfs c z] at ev;cases ev
 have nin:∀ b,H b=none→b∉cs:=fun b e hb=>by
   obtain ⟨v,ev⟩:=hc.mem b hb
   rw [e] at ev;cases ev
 have nin':∀ b o,H' b=some o→b∉cs:=fun b o e hb=>by
   obtain ⟨_,_,_,_,_,z⟩:=obj b hb
   rw [e] at z;cases z
 refine ⟨⟨fun b o e n hb hx=>u.keep b o e (by rw [cM (nin b n)];exact n) hb hx,fun b o e n hb hx=>u.slot b o e (by rw [cM (nin b n)];exact n) hb hx,
   fun b o e n hx=>by rw [ck (nin b n)];exact u.free b o e (by rw [cM (nin b n)];exact n) hx,u.there,fun b xs e=>?_,fun b o v e=>?_,fun b ps e=>?_⟩,fun b o e=>?_⟩
 · have hb:=hc.notin e fun φ z=>nomatch z
   rw [ck hb];exact u.tups b xs (by rw [cM hb];exact e)
 · have hb:=hc.notin e fun φ z=>nomatch z
   rw [ck hb];exact u.frzs b o v (by rw [cM hb];exact e)
 · have hb:=hc.notin e fun φ z=>nomatch z
   rw [ck hb];exact u.tbls b ps (by rw [cM hb];exact e)
 · by_cases hb:b∈cs
   · rw [iD hb] at e
     obtain ⟨v,o',ev,e1,e2,_⟩:=obj b hb
     rw [e] at ev;cases ev
     obtain ⟨φ1,_,φ3⟩:=(show ba P w H h b (cn b v) from ok b _ e)
     exact ⟨φ3 h h' φ1 fun q hq=>by rw [e1] at hq;cases hq;exact e2,⟨o',e2⟩,φ3⟩
   · rw [ck hb] at e
     exact (ok' b o e).stay (fun c u _ q=>q) (fun c q=>by rw [ck (nin' c _ q)];exact q) fun c xs q=>by rw [ck (nin' c _ q)];exact q
theorem CR.back {outer : List Env} {s s' : Shared} {Q : VK} {E : XK} {r : Result} (hc : cp H cs cvs) (hfs : ∀ b ∈ frs outer, H b = none) (ok : HOk P w H s.heap)
    (h : CR (CX1 P w) outer P w (cA cs H) s (fun v H' => Q v (cm cs H H')) (fun c a H' => E c a (cm cs H H')) r s') : CR (CX1 P w) outer P w H s Q E r s' := by
  cases r with
  | error e =>
    obtain ⟨a, C, d, H', rfl, F, q⟩ := h
    obtain ⟨u, k⟩ := qG hc hfs ok F.un F.hok
    have na : a ∉ cs := fun hb => by
      obtain ⟨v, ev⟩ := hc.mem a hb
      obtain ⟨_, ⟨o, eo⟩, _⟩ := (show ba P w H s.heap a (cn a v) from ok a _ ev)
      rw [F.new] at eo; cases eo
    obtain ⟨oe, vs, a0, T, oT, ts, t1, t2, td, t3, t4, t5, t6, t7, t8, t9, t10, t11⟩ := F.tr
    have nT : T ∉ cs := fun hb => by
      obtain ⟨v, ev⟩ := hc.mem T hb
      obtain ⟨_, ⟨o, eo⟩, _⟩ := (show ba P w H s.heap T (cn T v) from ok T _ ev)
      rw [t10] at eo; cases eo
    exact ⟨a, C, d, _, rfl, ⟨F.os, F.bare, u, k, F.new, by rw [ck na]; exact F.free, ⟨oe, vs, a0, T, oT, ts, t1, t2, td, t3, t4, t5, t6, t7, t8, t9, t10, by rw [ck nT]; exact t11⟩⟩, q⟩
  | ok fl =>
    cases fl with
    | ret u =>
      obtain ⟨v, H', os, bare, un, hok, rv, q⟩ := h
      obtain ⟨u', k⟩ := qG hc hfs ok un hok
      exact ⟨v, _, os, bare, u', k, rv, q⟩
    | next => exact False.elim h
    | brk => exact False.elim h
    | cont => exact False.elim h
end
structure fE (P:Program) (w:World) (K:W.Frag) (mg:Str→Option Value) (base:Heap) (k:Nat) (t:cV) (sp:Sp):Prop where
 run:∀ (A:Around) (outer:List Env) (s:Shared) (H:Hp) (f:Addr) (cs:List Addr) (us:List Value) (vs cvs:List V) (Q:VK) (E:XK),bh k A→iO P w K mg base A outer s H→dv H f t cs cvs→aS vs us→vs.length=t.ps.length→
  sp (vs++cvs) (cA cs H) (fun v H'=>Q v (cm cs H H')) (fun c a H'=>E c a (cm cs H H'))→codeAny (model P w) A (.call (.ref f) ⟨us,[]⟩) (CR (CX1 P w) outer P w H s Q E) s
def dN (N:List Str) (vs cvs:List V):St:=vs.map some++(List.replicate (N.length - vs.length - cvs.length) none++cvs.map some)
def gM (P:Program) (w:World) (K:W.Frag) (mg:Str→Option Value) (base:Heap) (N:List Str) (qual:Str) (scope:Scope) (f c:Addr) (cl:List (Str×Addr)) (A:Around) (outer:List Env) (s:Shared) (H:Hp) (E:XK):Cx where
 prog:=P
 w:=w
 K:=K
 mg:=mg
 base:=base
 A:=A.deeper (W.envX qual scope s.heap.objs.size f (.ref c) cl)
 N:=N
 s₀:=s
 H₀:=H
 env:=W.envX qual scope s.heap.objs.size f (.ref c) cl
 outer:=outer
 stack:=W.envX qual scope s.heap.objs.size f (.ref c) cl::outer
 ex:=[]
 calm:=true
 fn:=fun _=>false
 pn:=[]
 xe:=fun e s'=>wpAny (model P w) (A.deeper (W.envX qual scope s.heap.objs.size f (.ref c) cl)) (leaving (W.envX qual scope s.heap.objs.size f (.ref c) cl) e) (fun _ s''=>CX1 P w outer H s E e s'') (fun e' s''=>CX1 P w outer H s E e' s'') s'
structure eB (N ps ys:List Str) (sc:Scope):Prop where
 kind:sc.kind=.function
 co:sc.isCoroutine=false
 gen:sc.isGenerator=false
 nd:N.Nodup
 pre:N.take ps.length=ps
 suf:N.drop (N.length - ys.length)=ys
 le:ps.length+ys.length≤N.length
 par:∀ x∈ps,sc.names.lookup x=some .local
 nocell:∀ x∈sc.names,x.2≠ .cell
 fr:∀ x∈ys,sc.names.lookup x=some .free
 frs:∀ y∈sc.names,y.2=.free→y.1∈ys
theorem lE {ys : List Str} {cs : List Addr} (hl : cs.length = ys.length) (nd : ys.Nodup) : ∀ {i : Nat} {y : Str} {c : Addr}, ys[i]? = some y → cs[i]? = some c → (ys.zip cs).lookup y = some c := by
  induction ys generalizing cs with
  | nil => intro i y c e; cases e
  | cons a r ih =>
    intro i y c e1 e2
    cases cs with
    | nil => cases e2
    | cons b cs =>
      cases i with
      | zero => cases e1; cases e2; show (List.lookup _ ((_, _) :: _)) = _; rw [List.lookup_cons]; simp
      | succ i =>
        have hne : y ≠ a := fun e => (List.nodup_cons.mp nd).1 (e ▸ List.mem_of_getElem? (show r[i]? = some y from e1))
        show (List.lookup y ((a, b) :: r.zip cs)) = _
        rw [List.lookup_cons, show (y == a) = false from by simpa using hne]
        exact ih (by simpa using hl) (List.nodup_cons.mp nd).2 (show r[i]? = some y from e1) (show cs[i]? = some c from e2)
theorem fK {ys : List Str} {cs : List Addr} : ∀ {y : Str} {c : Addr}, (ys.zip cs).lookup y = some c → ∃ i : Nat, ys[i]? = some y ∧ cs[i]? = some c := by
  induction ys generalizing cs with
  | nil => intro y c e; cases e
  | cons a r ih =>
    intro y c e
    cases cs with
    | nil => cases e
    | cons b cs =>
      have e : (List.lookup y ((a, b) :: r.zip cs)) = some c := e
      rw [List.lookup_cons] at e
      by_cases hy : (y == a) = true
      · rw [hy] at e; cases e; exact ⟨0, by simpa using (eq_of_beq hy).symm, rfl⟩
      · rw [show (y == a) = false from by simpa using hy] at e
        obtain ⟨i, h1, h2⟩ := ih e
        exact ⟨i + 1, h1, h2⟩
theorem mK {ps : List Str} {us : List Value} (nd : ps.Nodup) : ∀ {i : Nat} {x : Str} {u : Value}, ps[i]? = some x → us[i]? = some u → (ps.zip us).reverse.lookup x = some u := by
  induction ps generalizing us with
  | nil => intro i x u e; cases e
  | cons a r ih =>
    intro i x u e1 e2
    cases us with
    | nil => cases e2
    | cons b us =>
      show (List.lookup x ((a, b) :: r.zip us).reverse) = _
      rw [List.reverse_cons, List.lookup_append]
      cases i with
      | zero =>
        cases e1; cases e2
        have : (r.zip us).reverse.lookup a = none := by
          rw [List.lookup_eq_none_iff]
          intro p hp
          have := (List.of_mem_zip (List.mem_reverse.mp hp)).1
          simp only [beq_eq_false_iff_ne, ne_eq, bne_iff_ne]
          intro e
          exact (List.nodup_cons.mp nd).1 (by rw [← e] at this; exact this)
        rw [this]; simp
      | succ i =>
        rw [ih (List.nodup_cons.mp nd).2 (show r[i]? = some x from e1) (show us[i]? = some u from e2)]; rfl
end L2
namespace L2
open PySem PySem.Spec PyProof.Rows
section
variable {P:Program} {w:World} {K:W.Frag} {mg:Str→Option Value} {base:Heap} {N ps ys:List Str} {qual:Str} {scope:Scope} {f c:Addr} {A:Around} {outer:List Env} {s:Shared} {H:Hp} {E:XK} {us:List Value} {vs cvs:List V} {cs:List Addr} {h1:Heap} {tk:Nat}
theorem qJ (S:eB N ps ys scope) (hd:A.handled=none) (e0:iO P w K mg base A outer s H) (ca:cp H cs cvs) (hcs:cs.Nodup) (hcl:cs.length=ys.length) (hl:vs.length=ps.length) (r:aS vs us)
   (hns:h1.Ns s.heap.objs.size (fun x=>(ps.zip us).reverse.lookup x)) (hk:∀ b o,s.heap.get? b=some o→h1.get? b=some o):
   Inv (gM P w K mg base N qual scope f c (ys.zip cs) A outer s (cA cs H) E) [] (dN N vs cvs) (cA cs H) { s with heap:=h1,toks:=tk }:=by
 have ndY:ys.Nodup:=by rw [← S.suf];exact S.nd.sublist (List.drop_sublist _ _)
 have ndP:ps.Nodup:=by rw [← S.pre];exact S.nd.sublist (List.take_sublist _ _)
 have lcv:cvs.length=ys.length:=by rw [← hcl];exact (Paired.length ca).symm
 have cellOf:∀ c∈cs,∃ v,h1.IsCell c v:=fun c hm=>by
   obtain ⟨v,ev⟩:=ca.mem c hm
   obtain ⟨⟨u,o,_,eo,hd⟩,_,_⟩:=(show ba P w H s.heap c (cn c v) from e0.hok c _ ev)
   exact ⟨_,o,hk _ _ eo,hd⟩
 have memC:∀ x c,(ys.zip cs).lookup x=some c→c∈cs:=fun x c e=>by
   obtain ⟨i,_,e2⟩:=fK e
   exact List.mem_of_getElem? e2
 have noA:∀ b:Addr,b∉(gM P w K mg base N qual scope f c (ys.zip cs) A outer s (cA cs H) E).ex:=fun b z=>absurd (show b∈([]:List Addr) from z) (by simp)
 have hid:∀ b,H b=none→cA cs H b=none:=fun b e=>by
   by_cases hb:b∈cs
   · exact gm hb
   · rw [cM hb];exact e
 refine ⟨⟨e0.mod,S.kind,rfl,rfl,Nat.le_refl _,fun y z c h1 h2=>?_,fun y hy=>?_,fun y c hf _=>?_,fun _=>hd,Around.frames_deeper e0.frames,.inr ⟨rfl,rfl⟩,fun b z=>absurd z (noA b),fun b o e=>⟨(e0.bs b o e).1,hid b (e0.bs b o e).2⟩,e0.bsz,fun b _ _=>noA b,fun b z=>absurd z (noA b),e0.funs,fun b hb=>hid b (e0.frf b hb)⟩,
   rfl,e0.bare,Un.kept hk,⟨_,hns,fun i y v q1 q2 q3=>?_⟩,fun y c h=>cellOf c (memC y c h),hid _ (e0.hok.fresh (Nat.le_refl _)),fun y c h=>gm (memC y c h),fun p hp=>absurd (show p∈([]:List (Addr×Obj)) from hp) (by simp),(yU ca e0.hok).kept hk,?_⟩
 · obtain ⟨i,e1,e2⟩:=fK (show (ys.zip cs).lookup y=some c from h1)
   obtain ⟨j,e3,e4⟩:=fK (show (ys.zip cs).lookup z=some c from h2)
   have:i=j:=by
     obtain ⟨a1,b1⟩:=List.getElem?_eq_some_iff.mp e2
     obtain ⟨a2,b2⟩:=List.getElem?_eq_some_iff.mp e4
     exact (List.getElem_inj hcs).mp (b1.trans b2.symm)
   subst this
   rw [e1] at e3;exact Option.some.inj e3
 · have hy:scope.names.lookup y=some .cell∨scope.names.lookup y=some .free:=hy
   rcases hy with hy | hy
   · exact absurd rfl (S.nocell _ (PySem.mem_of_lookup hy))
   · obtain ⟨i,hi,e⟩:=List.mem_iff_getElem.mp (S.frs _ (PySem.mem_of_lookup hy) rfl)
     have hi2:i<cs.length:=by omega
     exact ⟨cs[i],lE hcl ndY (List.getElem?_eq_some_iff.mpr ⟨hi,e⟩) (List.getElem?_eq_getElem hi2)⟩
 · exact absurd (show false=true from hf) Bool.false_ne_true
 · unfold dN at q2
   by_cases hi:i<vs.length
   · rw [List.getElem?_append_left (by simpa using hi),List.getElem?_map] at q2
     have ha:vs[i]?=some v:=by
       cases e:vs[i]? with
       | none=>rw [e] at q2;cases q2
       | some a=>rw [e] at q2;cases q2;rfl
     obtain ⟨u,hu,rv⟩:=r.get ha
     have hp:ps[i]?=some y:=by
       rw [← S.pre,List.getElem?_take_of_lt (by omega)];exact q1
     exact ⟨u,rv,.inl ⟨S.par y (List.mem_of_getElem? hp),mK ndP hp hu⟩⟩
   · rw [List.getElem?_append_right (by simpa using hi),List.length_map] at q2
     by_cases hj:i - vs.length<N.length - vs.length - cvs.length
     · rw [List.getElem?_append_left (by simpa using hj),List.getElem?_replicate] at q2
       split at q2 <;> cases q2
     · rw [List.getElem?_append_right (by simpa using hj),List.length_replicate,List.getElem?_map] at q2
       have ha:cvs[i - vs.length - (N.length - vs.length - cvs.length)]?=some v:=by
        cases e:cvs[i - vs.length - (N.length - vs.length - cvs.length)]? with
        | none=>rw [e] at q2;cases q2
        | some a=>rw [e] at q2;cases q2;rfl
       have hle:=S.le
       have hiN:i<N.length:=(List.getElem?_eq_some_iff.mp q1).1
       have hx:i - vs.length - (N.length - vs.length - cvs.length)=i - (N.length - ys.length):=by omega
       rw [hx] at ha
       have hy:ys[i - (N.length - ys.length)]?=some y:=by
        have e1:N.drop (N.length - ys.length)=ys:=S.suf
        have e2:(N.drop (N.length - ys.length))[i - (N.length - ys.length)]?=some y:=by
         rw [List.getElem?_drop]
         rw [show N.length - ys.length+(i - (N.length - ys.length))=i by omega];exact q1
        rw [e1] at e2;exact e2
       obtain ⟨c,ec,hc⟩:=ca.get ha
       obtain ⟨⟨u,o,ru,eo,hdo⟩,_,_⟩:=(show ba P w H s.heap c (cn c v) from e0.hok c _ hc)
       exact ⟨u,ru,.inr ⟨.inr (S.fr y (List.mem_of_getElem? hy)),c,lE hcl ndY hy ec,o,hk _ _ eo,hdo⟩⟩
 · unfold dN
   show _=N.length
   have:=S.le
   rw [List.length_append,List.length_append,List.length_map,List.length_map,List.length_replicate]
   omega
end
section
variable {P:Program} {w:World} {K:W.Frag} {mg:Str→Option Value} {base:Heap} {k:Nat} {t:cV} {N:List Str} {sp:Sp}
theorem tH {body : List Stmt} (hb : t.body = .stmts body) (S : eB N t.ps t.ys t.scope)
    (hbody : ∀ (f c : Addr) (cl : List (Str × Addr)) (A : Around) (outer : List Env) (s : Shared) (H : Hp) (vs cvs : List V) (Q : VK) (E : XK), bh k (A.deeper (W.envX t.qual t.scope s.heap.objs.size f (.ref c) cl)) → vs.length = t.ps.length → cvs.length = t.ys.length → sp (vs ++ cvs) H Q E →
      ∃ td, PSs (gM P w K mg base N t.qual t.scope f c cl A outer s H E) body td ∧ td { nx := fun _ H' => Q .non H', rt := Q } (dN N vs cvs) H) : fE P w K mg base (k + 1) t sp := by
  refine ⟨fun A outer s H f cs us vs cvs Q E hr e0 ca r hl hsp => ?_⟩
  obtain ⟨c, hf, hcc⟩ := ca.ex
  have KX : K.In s.heap := e0.mod.kin.keeps fun b o e => (e0.bs b o e).1
  have lim : s.heap.NoLimit := e0.mod.nolimit.keeps fun b o e => (e0.bs b o e).1
  obtain ⟨⟨od, fd, sl, ho, h1, h2, h3, h4, h5, h6, h7, h8, h9, h10⟩, _, _⟩ := (show ba P w H s.heap f (du f t cs c) from e0.hok f _ hf)
  obtain ⟨⟨o, vs', tk, hco, hdo, hv⟩, _, _⟩ := (show ba P w H s.heap c (cH c t.qual) from e0.hok c _ hcc)
  have hcd : s.heap.CodeRec fd.code fd.qualname := ⟨c, o, vs', tk, h6, hco, hdo, by rw [h1]; exact hv⟩
  refine codeAny_mono (codeAny_call_function (R := CR (CX1 P w) outer P w (cA cs H) s (fun v H' => Q v (cm cs H H')) (fun c a H' => E c a (cm cs H H'))) hr.depth ho rfl (by rw [h3]; exact S.co) (by rw [h3]; exact S.gen) (h2.trans hb) hcd ?_) fun r s' h => CR.back ca.cells e0.frf e0.hok h
  rw [h8 us (by rw [← r.length]; exact hl), h3, h4, h5, h1, h6, h7]
  refine wpAny_pure (wpAny_newFunctionEnv S.nocell (fun y hy => S.par y.1 (List.of_mem_zip hy).1) (fun h' hns hsb => ⟨lim.fresh _ hsb, ?_⟩) S.kind)
  have hk : ∀ b o, s.heap.get? b = some o → h'.get? b = some o := fun b o e => hsb.extBut b o (Nat.ne_of_lt (Heap.lt_size e)) (Heap.get?_push_of_some _ e)
  have lcv : cvs.length = t.ys.length := by rw [← h10]; exact (Paired.length ca.cells).symm
  obtain ⟨td, ht, hq⟩ := hbody f c (t.ys.zip cs) A outer s (cA cs H) vs cvs _ _ (hr.deeper _) hl lcv hsp
  have I := qJ (tk := s.toks + (t.ps.zip us).length) (qual := t.qual) (f := f) (c := c) (E := fun c a H' => E c a (cm cs H H')) S hr.hd e0 ca.cells h9 h10 hl r hns hk
  show codeAny _ _ (.func body (W.envX t.qual t.scope s.heap.objs.size f (.ref c) (t.ys.zip cs))) _ _
  refine codeAny_func ?_
  refine wpAny_mono (ht [] _ (dN N vs cvs) _ _ I hq) (fun fl s' hs => ?_) fun e s' hs => hs
  cases fl with
  | ret u =>
    obtain ⟨v, σ', H', J, rv, q⟩ := hs
    exact ⟨v, H', J.os, J.bare, J.base, J.hok, rv, q⟩
  | next =>
    obtain ⟨σ', H', J, q⟩ := hs
    exact ⟨V.non, H', J.os, J.bare, J.base, J.hok, rfl, q⟩
  | brk =>
    obtain ⟨_, _, _, q⟩ := hs
    exact False.elim q
  | cont =>
    obtain ⟨_, _, _, q⟩ := hs
    exact False.elim q
theorem rk {body : Expr} (hb : t.body = .expr body) (S : eB N t.ps t.ys t.scope)
  (hbody : ∀ (f c : Addr) (cl : List (Str × Addr)) (A : Around) (outer : List Env) (s : Shared) (H : Hp) (vs cvs : List V) (Q : VK) (E : XK), bh k (A.deeper (W.envX t.qual t.scope s.heap.objs.size f (.ref c) cl)) → vs.length = t.ps.length → cvs.length = t.ys.length → sp (vs ++ cvs) H Q E →
   ∃ te, PE (gM P w K mg base N t.qual t.scope f c cl A outer s H E) body te ∧ te (dN N vs cvs) H Q) : fE P w K mg base (k + 1) t sp := by
 refine ⟨fun A outer s H f cs us vs cvs Q E hr e0 ca r hl hsp => ?_⟩
 obtain ⟨c, hf, hcc⟩ := ca.ex
 have KX : K.In s.heap := e0.mod.kin.keeps fun b o e => (e0.bs b o e).1
 have lim : s.heap.NoLimit := e0.mod.nolimit.keeps fun b o e => (e0.bs b o e).1
 obtain ⟨⟨od, fd, sl, ho, h1, h2, h3, h4, h5, h6, h7, h8, h9, h10⟩, _, _⟩ := (show ba P w H s.heap f (du f t cs c) from e0.hok f _ hf)
 obtain ⟨⟨o, vs', tk, hco, hdo, hv⟩, _, _⟩ := (show ba P w H s.heap c (cH c t.qual) from e0.hok c _ hcc)
 have hcd : s.heap.CodeRec fd.code fd.qualname := ⟨c, o, vs', tk, h6, hco, hdo, by rw [h1]; exact hv⟩
 refine codeAny_mono (W.kla_callFunE (R := CR (CX1 P w) outer P w (cA cs H) s (fun v H' => Q v (cm cs H H')) (fun c a H' => E c a (cm cs H H'))) hr.depth ho rfl (by rw [h3]; exact S.co) (by rw [h3]; exact S.gen) (h2.trans hb) hcd ?_) fun r s' h => CR.back ca.cells e0.frf e0.hok h
 rw [h8 us (by rw [← r.length]; exact hl), h3, h4, h5, h1, h6, h7]
 refine wpAny_pure (wpAny_newFunctionEnv S.nocell (fun y hy => S.par y.1 (List.of_mem_zip hy).1) (fun h' hns hsb => ⟨lim.fresh _ hsb, ?_⟩) S.kind)
 have hk : ∀ b o, s.heap.get? b = some o → h'.get? b = some o := fun b o e => hsb.extBut b o (Nat.ne_of_lt (Heap.lt_size e)) (Heap.get?_push_of_some _ e)
 have lcv : cvs.length = t.ys.length := by rw [← h10]; exact (Paired.length ca.cells).symm
 obtain ⟨te, ht, hq⟩ := hbody f c (t.ys.zip cs) A outer s (cA cs H) vs cvs _ _ (hr.deeper _) hl lcv hsp
 have I := qJ (tk := s.toks + (t.ps.zip us).length) (qual := t.qual) (f := f) (c := c) (E := fun c a H' => E c a (cm cs H H')) S hr.hd e0 ca.cells h9 h10 hl r hns hk
 show codeAny _ _ (.expr body (W.envX t.qual t.scope s.heap.objs.size f (.ref c) (t.ys.zip cs))) _ _
 refine W.kla_codeExpr ?_
 refine wpAny_mono (ht [] _ (dN N vs cvs) _ _ I hq) (fun v s' hs => ?_) fun e s' hs => hs
 obtain ⟨x, H', J, rv, q⟩ := hs
 exact ⟨x, H', J.os, J.bare, J.base, J.hok, rv, q⟩
end
end L2
namespace L2
open PySem PySem.Spec PyProof.Rows
def BM (mg:Str→Option Value) (h:Heap):Prop:=∃ bm ob,mg "__builtins__" =some (.ref bm)∧bm≠builtinsNs∧h.get? bm=some ob∧ob.cls=.type "module" ∧ob.dict=some builtinsNs∧ob.data=.plain
section
variable {X:Cx} {pins:List (Addr×Obj)} {σ:St} {H:Hp} {s:Shared} {P c:Addr} {ps:Array Value} {t:cV} {cs:List Addr} {h':Heap} {tk:Nat} {fd:FuncData}
theorem pP {more:Array Value} (I:Inv X pins σ H s) (hP:H P=some (.tbl ps)) (hx:Heap.ExtBut P s.heap h') (hge:s.heap.objs.size≤c) (hlt:c<h'.objs.size) (hrec:h'.CodeRec (.ref c) t.qual)
   (htb:h'.get? P=some (W.tabObj (ps++more))) (hfd:kZ t cs c fd):
   Inv X pins σ (upd (upd (upd H P (.tbl (ps++more))) c (cH c t.qual)) h'.objs.size (du h'.objs.size t cs c)) { s with heap:=h'.push { cls:=.type "function",data:=.func fd },toks:=tk }:=by
 have hcn:H c=none:=I.hok.fresh hge
 have hfn:H h'.objs.size=none:=I.hok.fresh (Nat.le_of_lt (Nat.lt_of_le_of_lt hge hlt))
 have ncP:c≠P:=(ay hP hcn).symm
 have nfP:h'.objs.size≠P:=(ay hP hfn).symm
 have ncf:c≠h'.objs.size:=Nat.ne_of_lt hlt
 have old:∀ b o,s.heap.get? b=some o→b≠c∧b≠h'.objs.size:=fun b o e=>⟨Nat.ne_of_lt (Nat.lt_of_lt_of_le (Heap.lt_size e) hge),Nat.ne_of_lt (Nat.lt_of_lt_of_le (Heap.lt_size e) (Nat.le_of_lt (Nat.lt_of_le_of_lt hge hlt)))⟩
 have keepP:∀ b o,b≠P→s.heap.get? b=some o→(h'.push { cls:=.type "function",data:=.func fd }).get? b=some o:=fun b o hb e=>Heap.get?_push_of_some _ (hx b o hb e)
 have neP:∀ b,H b=none→b≠P:=fun b e z=>by rw [z,hP] at e;cases e
 have obj:∀ b o,H b=some o→∃ u,s.heap.get? b=some u:=fun b o e=>iH (I.hok b o e)
 have same:∀ b o,H b=some o→b≠P→(upd (upd (upd H P (.tbl (ps++more))) c (cH c t.qual)) h'.objs.size (du h'.objs.size t cs c)) b=some o:=fun b o e hb=>by
   rw [aq (ay e hfn),aq (ay e hcn),aq hb];exact e
 refine I.un ⟨fun b o e n hb hx'=>keepP b o (neP b n) e,fun b o e n hb hx'=>⟨o.slots,keepP b o (neP b n) e⟩,fun b o e n hx'=>?_,fun b o e hx'=>?_,fun b xs e=>same b _ e (bH e hP (fun z=>nomatch z)),fun b o u e=>same b _ e (bH e hP (fun z=>nomatch z)),fun b qs e=>?_⟩ fun b o e=>?_
 · rw [aq (old b o e).2,aq (old b o e).1,aq (neP b n)];exact n
 · by_cases hb:b=P
   · subst hb;exact ⟨_,Heap.get?_push_of_some _ htb⟩
   · exact ⟨o,keepP b o hb e⟩
 · by_cases hb:b=P
   · subst hb
     rw [hP] at e;cases e
     exact ⟨more,by rw [aq nfP.symm,aq ncP.symm,ai]⟩
   · exact ⟨#[],by rw [same b _ e hb];simp⟩
 · by_cases hf:b=h'.objs.size
   · subst hf
     rw [ai] at e;cases e
     refine ⟨⟨_,fd,_,Heap.get?_push_size _ rfl,hfd⟩,⟨_,Heap.get?_push_size _ rfl⟩,?_⟩
     rintro h1 h2 ⟨od,fd',sl,e1,e2⟩ k
     exact ⟨od,fd',sl,k _ e1,e2⟩
   · rw [aq hf] at e
     by_cases hc:b=c
     · subst hc
       rw [ai] at e;cases e
       obtain ⟨c2,oc,vs,tq,e0,e1,e2,e3⟩:=hrec
       cases e0
       refine ⟨⟨oc,vs,tq,Heap.get?_push_of_some _ e1,e2,e3⟩,⟨_,Heap.get?_push_of_some _ e1⟩,?_⟩
       rintro h1 h2 ⟨o,vs,tk,a1,a2,a3⟩ k
       exact ⟨o,vs,tk,k _ a1,a2,a3⟩
     · rw [aq hc] at e
       by_cases hp:b=P
       · subst hp
         rw [ai] at e;cases e
         exact Heap.get?_push_of_some _ htb
       · rw [aq hp] at e
         refine (I.hok b o e).stay (fun a u ha q=>keepP a u ?_ q) (fun a q=>same a _ q (bH q hP (fun z=>nomatch z))) fun a xs q=>same a _ q (bH q hP (fun z=>nomatch z))
         rcases ha with rfl | ha
         · exact hp
         · exact bH ha hP (fun z=>nomatch z)
theorem pA (I:Inv X pins σ H s) (hk:∀ b o,s.heap.get? b=some o→h'.get? b=some o) (hsz:s.heap.objs.size≤h'.objs.size) (hfd:kZ t cs c fd):
  Inv X pins σ (upd H h'.objs.size (du h'.objs.size t cs c)) { s with heap:=h'.push { cls:=.type "function",data:=.func fd },toks:=tk }:=by
 refine I.laid (a:=h'.objs.size) (o:=du h'.objs.size t cs c) (fun b u e=>Heap.get?_push_of_some _ (hk b u e)) hsz ⟨⟨_,fd,_,Heap.get?_push_size _ rfl,hfd⟩,⟨_,Heap.get?_push_size _ rfl⟩,?_⟩
 rintro h1 h2 ⟨od,fd',sl,e1,e2⟩ k
 exact ⟨od,fd',sl,k _ e1,e2⟩
end
def my (P : Addr) (pos : Pos) (t : cV) (cs : List Addr) : TE := fun _ H Q => ∃ ps, H P = some (.tbl ps) ∧ TriplesOk ps.toList ∧
  ((codeAmong pos ps.toList = none ∧ ∀ c f, H c = none → H f = none → c ≠ f → Q (.ref f) (upd (upd (upd H P (.tbl (ps ++ #[rawInt pos.line, rawInt pos.col, .ref c]))) c (cH c t.qual)) f (du f t cs c))) ∨
   ∃ c, codeAmong pos ps.toList = some (.ref c) ∧ ∀ f, H f = none → Q (.ref f) (upd H f (du f t cs c)))
section
variable {X:Cx} {c0 P:Addr} {params:Arguments} {scope:Scope} {pos:Pos} {t:cV} {cs:List Addr}
theorem rg {pins:List (Addr×Obj)} {σ:St} {H:Hp} {s:Shared} {ps:Array Value} (I:Inv X pins σ H s) (hP:H P=some (.tbl ps)) (B:BM X.mg X.base):
   s.heap.get? P=some (W.tabObj ps)∧s.heap.Ns mainGlobals X.mg∧mainGlobals≠P∧s.heap.BuiltinsAt X.mg P:=by
 have hPo:s.heap.get? P=some (W.tabObj ps):=I.hok P _ hP
 have hg:s.heap.Ns mainGlobals X.mg:=I.mod.glob.keeps I.bk
 have hgP:mainGlobals≠P:=fun q=>by
   obtain ⟨o,es,ep,e,hd,_⟩:=hg
   rw [q,hPo] at e;cases e;cases hd
 obtain ⟨bm,ob,b1,b2,b3,b4,b5,b6⟩:=B
 have b3':=I.bk _ _ b3
 refine ⟨hPo,hg,hgP,bm,ob,b1,b2,fun q=>?_,fun q=>?_,b3',b4,b5,b6⟩
 · obtain ⟨o,es,ep,e,hd,_⟩:=hg
   rw [q,e] at b3';cases b3';rw [hd] at b6;cases b6
 · rw [q,hPo] at b3';cases b3';cases b4
theorem xV {body:Expr} (B:BM X.mg X.base) (C:W.CodeHd X.base c0 P) (hcode:X.env.code=.ref c0) (hcl:closureFor scope X.env=pure (t.ys.zip cs)) (nd:cs.Nodup) (hl:cs.length=t.ys.length)
   (hq:X.env.qual++ "<lambda>" =t.qual) (hb:t.body=.expr body) (hs:t.scope=scope)
   (hbind:∀ (cl:List (Str×Addr)) (pm cdv ct:Value) (us:List Value),us.length=t.ps.length→bindArgs (W.kla_fn "<lambda>" t.qual params body scope cl pm cdv ct) ⟨us,[]⟩=pure (t.ps.zip us))
   (hdef:defaultsOf params X.env=([],[]):=by rfl):QE X (.Lambda params body scope pos) (my P pos t cs):=⟨fun pins s σ H Q I h=>by
 obtain ⟨ps,hP,ht,h⟩:=h
 obtain ⟨hPo,hg,hgP,hB⟩:=rg I hP B
 have hfd:∀ (pm ct:Value) (c:Addr),kZ t cs c (W.kla_fn "<lambda>" t.qual params body scope (t.ys.zip cs) pm (.ref c) ct):=fun pm ct c=>⟨rfl,hb.symm,hs.symm,rfl,rfl,rfl,rfl,hbind _ _ _ _,nd,hl⟩
 refine W.kla_eval hdef ?_
 rw [hq]
 rcases h with ⟨hn,q⟩ | ⟨c,hf,q⟩
 · refine W.kla_makeFunction hcl I.ok.glob hg hcode (C.keeps I.bk) hPo ht hn hgP hB fun c ctv h' tk hx hge hlt hrec htb=>?_
   exact ⟨.ref h'.objs.size,_,pP I hP hx hge hlt hrec htb (hfd _ _ _),rfl,q c h'.objs.size (I.hok.fresh hge) (I.hok.fresh (Nat.le_of_lt (Nat.lt_of_le_of_lt hge hlt))) (Nat.ne_of_lt hlt)⟩
 · refine W.kla_makeFunctionHit hcl I.ok.glob hg hcode (C.keeps I.bk) hPo ht hf hB fun ctv h' tk hk hsz=>?_
   exact ⟨.ref h'.objs.size,_,pA I hk hsz (hfd _ _ _),rfl,q h'.objs.size (I.hok.fresh hsz)⟩⟩
theorem yd (i:Nat) {name:Str} {body:List Stmt} (hN:X.N.Nodup) (B:BM X.mg X.base) (C:W.CodeHd X.base c0 P) (hcode:X.env.code=.ref c0) (hcl:closureFor scope X.env=pure (t.ys.zip cs)) (nd:cs.Nodup) (hl:cs.length=t.ys.length)
   (hq:qualnameIn X.env name name=t.qual) (hb:t.body=.stmts body) (hs:t.scope=scope)
   (hbind:∀ (cl:List (Str×Addr)) (doc pm cdv ct:Value) (us:List Value),us.length=t.ps.length→bindArgs (W.fnX name t.qual params body scope cl .none .none doc pm none cdv ct) ⟨us,[]⟩=pure (t.ps.zip us))
   (hi:X.N[i]?=some name:=by rfl) (hx:Loc X.env.scope name:=by first | exact .inl rfl | exact .inr rfl) (hf:X.fn name=true∨X.env.scope.names.lookup name=some .local:=by first | exact .inl rfl | exact .inr rfl)
   (hd0:params.defaults=[]:=by rfl) (hk0:params.kw_defaults=[]:=by rfl) (ha:annTrees params none X.env=[]:=by rfl):
   QS X (.FunctionDef name params body [] none [] scope none name pos) (aA (my P pos t cs) (aw i)):=⟨fun pins s σ H D I h=>by
 obtain ⟨ps,hP,ht,h⟩:=h
 obtain ⟨hPo,hg,hgP,hB⟩:=rg I hP B
 have hfd:∀ (doc pm ct:Value) (c:Addr),kZ t cs c (W.fnX name t.qual params body scope (t.ys.zip cs) .none .none doc pm none (.ref c) ct):=fun doc pm ct c=>⟨rfl,hb.symm,hs.symm,rfl,rfl,rfl,rfl,hbind _ _ _ _ _,nd,hl⟩
 refine W.nestDef_K hd0 hk0 ha ?_
 rw [hq]
 rcases h with ⟨hn,q⟩ | ⟨c,hff,q⟩
 · refine W.makeFunction_K hcl I.ok.glob hg hcode (C.keeps I.bk) hPo ht hn hgP hB fun c ctv doc h' tk hx' hge hlt hrec htb=>?_
   have I2:=pP (tk:=tk) (cs:=cs) I hP hx' hge hlt hrec htb (hfd doc ((X.mg "__name__").getD .none) ctv c)
   exact fu I2 hN hi hx (v:=.ref h'.objs.size) rfl (fun s' I3=>⟨_,_,I3,q c h'.objs.size (I.hok.fresh hge) (I.hok.fresh (Nat.le_of_lt (Nat.lt_of_le_of_lt hge hlt))) (Nat.ne_of_lt hlt)⟩) hf
 · refine W.makeFunction_hit hcl I.ok.glob hg hcode (C.keeps I.bk) hPo ht hff hB fun ctv doc h' tk hk hsz=>?_
   have I2:=pA (tk:=tk) (cs:=cs) I hk hsz (hfd doc ((X.mg "__name__").getD .none) ctv c)
   exact fu I2 hN hi hx (v:=.ref h'.objs.size) rfl (fun s' I3=>⟨_,_,I3,q h'.objs.size (I.hok.fresh hsz)⟩) hf⟩
end
section
variable {X:Cx} {k:Nat} {E:St→XK} {x:Str} {p pos:Pos} {e:Expr} {es:List Expr} {ta:TE}
abbrev jc:=List (cV×Sp)
def iL (ks:jc) (f:Addr) (vs:List V) (H:Hp) (Q:VK) (E:XK):Prop:=∃ ts∈ks,∃ cs cvs,dv H f ts.1 cs cvs∧vs.length=ts.1.ps.length∧ts.2 (vs++cvs) (cA cs H) (fun v H'=>Q v (cm cs H H')) (fun c a H'=>E c a (cm cs H H'))
def dk (ks:jc) (E:St→XK) (ta:TE) (t:TA):TE:=fun σ H Q=>ta σ H fun x H1=>∃ f,x=.ref f∧(∃ ts∈ks,∃ cs cvs,dv H1 f ts.1 cs cvs)∧t σ H1 fun vs H2=>iL ks f vs H2 Q (E σ)
theorem lu {P:Program} {w:World} {H:Hp} {h:Heap} {f:Addr} {t:cV} {cs:List Addr} {cvs:List V} (ok:HOk P w H h) (c:dv H f t cs cvs):W.FnAt f h:=by
 obtain ⟨c',hf,_⟩:=c.ex
 obtain ⟨⟨od,fd,sl,ho,_⟩,_,_⟩:=(show ba P w H h f (du f t cs c') from ok f _ hf)
 exact ⟨_,_,_,_,ho⟩
def md (P:Program) (w:World) (K:W.Frag) (mg:Str→Option Value) (base:Heap) (k:Nat) (ks:jc):Prop:=∀ ts∈ks,fE P w K mg base k ts.1 ts.2
theorem dC {ks : jc} {t : TA} (hk : md X.prog X.w X.K X.mg X.base k ks) (hr : bh k X.A) (hx : dI (CX1 X.prog X.w) X E) (hg : QE X (.Name x p) ta) (ha : QA X (e :: es) t) (hs : bj (e :: es) = true := by rfl) :
    QE X (.Call (.Name x p) (e :: es) [] pos) (dk ks E ta t) := ⟨fun pins s σ H Q I h => by
  have h' : (bM e && bj es) = true := hs
  refine wpAny_Call_Name_kw (thn (hg.out pins s σ H _ I h) fun u s1 ⟨y, H1, I1, ry, f, ey, ⟨ts, hts, cs, cvs, ca⟩, q⟩ => ?_)
  subst ey
  obtain rfl : u = Value.ref f := ry
  refine W.callWith_F (lu I1.hok ca) (thn (ha.out pos pins s1 σ H1 _ I1 q) fun us s2 ⟨vs, H2, I2, rv, ts2, hm2, cs2, cvs2, ca2, hl, hsp⟩ => ⟨lu I2.hok ca2, ?_⟩)
    (bc (Bool.and_eq_true_iff.mp h').1 es X.env) (bT (Bool.and_eq_true_iff.mp h').2)
  refine wpAny_call (codeAny_mono ((hk ts2 hm2).run X.A X.stack s2 H2 f cs2 us vs cvs2 Q (E σ) hr I2.env0 ca2 rv hl hsp) fun r s' hq => ?_)
  cases r with
  | error e => exact hx pins σ H2 s2 e s' I2 hq
  | ok fl =>
    cases fl with
    | ret u => exact I2.after hq
    | next => exact False.elim hq
    | brk => exact False.elim hq
    | cont => exact False.elim hq⟩
end
end L2
namespace L2
open PySem PySem.Spec PyProof.Rows
structure lp where
 nx:St→Hp→Prop
 rt:St→VK
abbrev TSM:=lp→St→Hp→Prop
def SPM (X:Cx) (pins:List (Addr×Obj)) (D:lp) (f:Flow) (s':Shared):Prop:=
 match f with
 | .next=>∃ σ' H',Inv X pins σ' H' s'∧D.nx σ' H'
 | .ret u=>∃ v σ' H',Inv X pins σ' H' s'∧aX v u∧D.rt σ' v H'
 | _=>False
structure QM (X:Cx) (st:Stmt) (t:TSM):Prop where
 out:∀ (pins:List (Addr×Obj)) (s:Shared) (σ:St) (H:Hp) (D:lp),Inv X pins σ H s→t D σ H→wpAny (model X.prog X.w) X.A (exec st X.env) (SPM X pins D) X.xe s
structure QMs (X:Cx) (st:List Stmt) (t:TSM):Prop where
 out:∀ (pins:List (Addr×Obj)) (s:Shared) (σ:St) (H:Hp) (D:lp),Inv X pins σ H s→t D σ H→wpAny (model X.prog X.w) X.A (execs st X.env) (SPM X pins D) X.xe s
def pw (t u:TSM):TSM:=fun D σ H=>t { D with nx:=fun σ' H'=>u D σ' H' } σ H
def lC (t:TS):TSM:=fun D σ H=>t { nx:=D.nx,rt:=fun _ _=>False } σ H
def qd (te:TE):TSM:=fun D σ H=>te σ H (D.rt σ)
section
variable {X:Cx} {st:Stmt} {sts l m:List Stmt} {t u:TSM} {tS:TS} {e c:Expr} {te:TE} {tc:TT} {pos:Pos}
theorem lK (h:QS X st tS):QM X st (lC tS):=⟨fun pins s σ H D I hq=>thn (h.out pins s σ H _ I hq) fun f s1 q=>by
 cases f with
 | next=>exact q
 | ret v=>obtain ⟨_,_,_,_,_,z⟩:=q;exact z.elim
 | brk=>obtain ⟨_,_,_,z⟩:=q;exact z.elim
 | cont=>obtain ⟨_,_,_,z⟩:=q;exact z.elim⟩
theorem oy (h:QE X e te):QM X (.Return (some e) pos) (qd te):=⟨fun pins s σ H D I hq=>
 wpAny_Return_some (thn (h.out pins s σ H _ I hq) fun v s1 ⟨x,H1,I1,r1,q1⟩=>⟨x,σ,H1,I1,r1,q1⟩)⟩
theorem lG (h1 : QM X st t) (h2 : QMs X sts u) : QMs X (st :: sts) (pw t u) := ⟨fun pins s σ H D I h => by
  refine wpAny_execs_cons (thn (h1.out pins s σ H _ I h) fun f s1 q => ?_)
  cases f with
  | next =>
    obtain ⟨σ', H', I', q⟩ := q
    exact h2.out pins s1 σ' H' D I' q
  | ret v => exact q
  | brk => exact q
  | cont => exact q⟩
theorem oH (h1:QM X st t):QMs X [st] t:=⟨fun pins s σ H D I h=>by
 refine wpAny_execs_cons (thn (h1.out pins s σ H D I h) fun f s1 q=>?_)
 cases f with
 | next=>exact wpAny_execs_nil q
 | ret v=>exact q
 | brk=>exact q
 | cont=>exact q⟩
end
def cG : List (Nat × Addr) → St → Hp → Hp
  | [], _, H => H
  | (i, c) :: r, σ, H => match σ[i]? with
    | some (some v) => cG r σ (upd H c (cn c v))
    | _ => cG r σ H
theorem kL {P : Program} {w : World} {fs : List Addr} {H : Hp} {h h' : Heap} {σ : St} : ∀ (cs : List (Nat × Addr)) (H' : Hp), (cs.map (·.2)).Nodup → (∀ p ∈ cs, H' p.2 = none ∧ h.objs.size ≤ p.2 ∧ ∀ v, σ[p.1]? = some (some v) → ∃ u o, aX v u ∧ h'.get? p.2 = some o ∧ o.data = .cell (some u)) →
    Un fs [] H H' h h' → HOk P w H' h' → Un fs [] H (cG cs σ H') h h' ∧ HOk P w (cG cs σ H') h'
  | [], H', _, _, u, ok => ⟨u, ok⟩
  | (i, c) :: r, H', nd, hc, u, ok => by
    unfold cG
    have ndr := (List.nodup_cons.mp nd).2
    have hcr : ∀ p ∈ r, H' p.2 = none ∧ h.objs.size ≤ p.2 ∧ ∀ v, σ[p.1]? = some (some v) → ∃ u o, aX v u ∧ h'.get? p.2 = some o ∧ o.data = .cell (some u) := fun p hp => hc p (List.mem_cons_of_mem _ hp)
    split
    · rename_i v hv
      obtain ⟨hn, hge, hcell⟩ := hc (i, c) List.mem_cons_self
      have hn : H' c = none := hn
      have hge : h.objs.size ≤ c := hge
      obtain ⟨uv, o, ru, eo, hd⟩ := hcell v hv
      have eo : h'.get? c = some o := eo
      refine kL r (upd H' c (cn c v)) ndr (fun p hp => ⟨?_, (hcr p hp).2⟩) ⟨u.keep, u.slot, fun b ob e n hx => ?_, u.there, fun b xs e => ?_, fun b ob z e => ?_, fun b ps e => ?_⟩ fun b ob e => ?_
      · have : p.2 ≠ c := fun z => (List.nodup_cons.mp nd).1 (by rw [← z]; exact List.mem_map.mpr ⟨p, hp, rfl⟩)
        rw [aq this]; exact (hcr p hp).1
      · rw [aq (Nat.ne_of_lt (Nat.lt_of_lt_of_le (Heap.lt_size e) hge))]; exact u.free b ob e n hx
      · have z := u.tups b xs e; rw [aq (ay z hn)]; exact z
      · have z := u.frzs b ob _ e; rw [aq (ay z hn)]; exact z
      · obtain ⟨more, z⟩ := u.tbls b ps e; exact ⟨more, by rw [aq (ay z hn)]; exact z⟩
      · by_cases hb : b = c
        · subst hb
          rw [ai] at e; cases e
          refine ⟨⟨uv, o, ru, eo, hd⟩, ⟨o, eo⟩, ?_⟩
          rintro h1 h2 ⟨u', o', r', e', d'⟩ k
          exact ⟨u', o', r', k _ e', d'⟩
        · rw [aq hb] at e
          exact (ok b ob e).stay (fun a q _ z => z) (fun a q => by rw [aq (ay q hn)]; exact q) fun a xs q => by rw [aq (ay q hn)]; exact q
    · exact kL r H' ndr hcr u ok
theorem Fun.okM {P : Program} {w : World} {K : W.Frag} {mg : Str → Option Value} {base : Heap} {x qual : Str} {st : Stmt} {f c0 : Addr} {fd : FuncData} {N ps : List Str} {k : Nat} {sp : Sp} {caps : Nat → List (Nat × Addr)} (F : Fun K x qual st f fd) (hcd : fd.code = .ref c0) (S : aB N ps (am st)) (len : ∀ vs H Q E, sp vs H Q E → vs.length = ps.length)
    (hcaps : ∀ (L : Nat) (p : Nat × Addr), p ∈ caps L → ∃ y, N[p.1]? = some y ∧ (am st).names.lookup y = some .cell ∧ (cellsFrom (L + 1) (am st).names []).lookup y = some p.2) (hnd : ∀ L, ((caps L).map (·.2)).Nodup)
    (hbody : ∀ (A : Around) (outer : List Env) (s : Shared) (H : Hp) (vs : List V) (Q : VK) (E : XK), bh k (A.deeper (envOfC qual (am st) s.heap.objs.size f (.ref c0))) → sp vs H Q E →
      ∃ t, QMs (cI (CX1 P w) P w K mg base N qual (am st) f (.ref c0) A outer s H E) (aQ st) t ∧ t { nx := fun σ H' => (∀ p ∈ caps s.heap.objs.size, H' p.2 = none) → Q .non (cG (caps s.heap.objs.size) σ H'), rt := fun σ v H' => (∀ p ∈ caps s.heap.objs.size, H' p.2 = none) → Q v (cG (caps s.heap.objs.size) σ H') } (start N vs) H) : aN P w K mg base (CX1 P w) (k + 1) f fd ps sp := by
  obtain ⟨oc, od, kV, doc, pm, an, cdv, ct, osl, rfl, lk, hcd'⟩ := F.ex
  obtain rfl : cdv = .ref c0 := hcd
  refine ⟨len, fun A outer s H args us vs Q E hr e0 hb r hsp => ?_⟩
  have hl := len _ _ _ _ hsp
  have KX : K.In s.heap := e0.mod.kin.keeps fun b o e => (e0.bs b o e).1
  have lim : s.heap.NoLimit := e0.mod.nolimit.keeps fun b o e => (e0.bs b o e).1
  have hkind : ∀ y ∈ ps.zip us, (am st).names.lookup y.1 = some .local ∨ ((am st).names.lookup y.1 = some .cell ∧ ((cellsFrom (s.heap.objs.size + 1) (am st).names []).lookup y.1).isSome = true) := fun ⟨n, v⟩ hy => by
    rcases S.par n (List.of_mem_zip hy).1 with q | q
    · exact .inl q
    · exact .inr ⟨q, W.cellsFrom_some _ _ _ (.inl q)⟩
  refine codeAny_call_function hr.depth (KX _ _ lk) rfl S.co S.gen rfl (W.codeRec_of KX hcd') (hb _ _ _ _ ?_)
  refine wpAny_newFunctionEnv_cells S.kind hkind fun env he s1 x => ?_
  subst he
  refine ⟨lim.keeps x.toInCall.keep, codeAny_func ?_⟩
  obtain ⟨t, ht, hq⟩ := hbody A outer s H vs Q E (hr.deeper _) hsp
  have I : Inv (cI (CX1 P w) P w K mg base N qual (am st) f (.ref c0) A outer s H E) [] (start N vs) H s1 := mX S hr.hd e0 hl r x
  refine wpAny_mono (ht.out [] s1 (start N vs) H _ I hq) (fun fl s' hs => ?_) fun e s' hs => hs
  have fin : ∀ {σ' : St} {H' : Hp} {v : V} {u : Value}, Inv (cI (CX1 P w) P w K mg base N qual (am st) f (.ref c0) A outer s H E) [] σ' H' s' → aX v u → ((∀ p ∈ caps s.heap.objs.size, H' p.2 = none) → Q v (cG (caps s.heap.objs.size) σ' H')) → CE outer P w H s Q u s' :=
    fun {σ' H' v u} J rv q => by
      have free : ∀ p ∈ caps s.heap.objs.size, H' p.2 = none := fun p hp => by
        obtain ⟨y, _, _, hc⟩ := hcaps _ p hp
        exact J.freeC y p.2 hc
      have hcond : ∀ p ∈ caps s.heap.objs.size, H' p.2 = none ∧ s.heap.objs.size ≤ p.2 ∧ ∀ v, σ'[p.1]? = some (some v) → ∃ u o, aX v u ∧ s'.heap.get? p.2 = some o ∧ o.data = .cell (some u) := fun p hp => by
        obtain ⟨y, hy, hk, hc⟩ := hcaps _ p hp
        refine ⟨free p hp, J.ok.cab y p.2 rfl hc, fun v hv => ?_⟩
        obtain ⟨m, _, hloc⟩ := J.loc
        obtain ⟨u', r', lk'⟩ := hloc p.1 y v hy hv (.inr (.inl hk))
        rcases lk' with ⟨z, _⟩ | ⟨_, c, ec, o, eo, hd⟩
        · have z : (am st).names.lookup y = some .local := z
          rw [hk] at z; cases z
        · have ec : (cellsFrom (s.heap.objs.size + 1) (am st).names []).lookup y = some c := ec
          rw [hc] at ec; cases ec
          exact ⟨u', o, r', eo, hd⟩
      obtain ⟨un, ok⟩ := kL (P := P) (w := w) (σ := σ') (caps s.heap.objs.size) H' (hnd _) hcond J.base J.hok
      exact ⟨v, _, J.os, J.bare, un, ok, rv, q free⟩
  cases fl with
  | ret u =>
    obtain ⟨v, σ', H', J, rv, q⟩ := hs
    exact fin J rv q
  | next =>
    obtain ⟨σ', H', J, q⟩ := hs
    exact fin (v := V.non) (u := Value.none) J rfl q
  | brk => exact False.elim hs
  | cont => exact False.elim hs
end L2
namespace L2
open PySem PySem.Spec PyProof.Rows
theorem uH {P : Program} {w : World} {K : W.Frag} {mg mb : Str → Option Value} {CX : CXT} {k : Nat} {fa a : Addr} {fd : FuncData} {x : Str} {sp : Sp} {s₁ : Shared} {vs : List Value} {ns : List Int} {tabs : List (Addr × Addr)}
    (KX : K.In s₁.heap) (hns : s₁.heap.Ns mainGlobals mg) (hb : s₁.heap.Ns builtinsNs mb) (hbb : ∀ x : Str, x ≠ "__name__" → mb x = bootBuiltins x) (hlim : s₁.heap.NoLimit) (hg : s₁.gens = #[]) (hB : BM mg s₁.heap)
    (hT : ∀ q ∈ tabs, W.CodeHd s₁.heap q.1 q.2 ∧ s₁.heap.get? q.2 = some (W.tabObj #[])) (hKT : W.noTabs K = true)
    (ha : s₁.heap.get? a = some { cls := .type "list", data := .seq vs.toArray }) (hi : IntsAre vs ns) (hl : ns.length ≤ sizeLine) (hr : bh k callerA)
    (F : ∀ base : Heap, K.In base → base.Ns mainGlobals mg → BM mg base → (∀ q ∈ tabs, W.CodeHd base q.1 q.2) → aN P w K mg base CX k fa fd [x] sp) (hbind : ∀ (s : Shared) (u : Value), BindsTo s fd ⟨[u], []⟩ [(x, u)])
    (hsp : ∀ H : Hp, (∀ q ∈ tabs, H q.2 = some (.tbl #[])) → SqL K H a (ns.map V.int) → sp [.ref a] H (fun v _ => v = .bl true) fun _ _ _ => False)
    (hCX : ∀ H e s', CX [] H s₁ (fun _ _ _ => False) e s' → False) :
    codeAny (model P w) callerA (.call (.ref fa) ⟨[.ref a], []⟩) (fun r s' => r = .ok (.ret (.bool true)) ∧ OldK s₁.heap s'.heap ∧ s'.os = s₁.os ∧ AllBare s'.gens) s₁ := by
  have rv := nl hi
  have lenV := hi.length
  have tabK : ∀ q ∈ tabs, K.lookup q.2 = none := fun q hq => by
    cases e : K.lookup q.2 with
    | none => rfl
    | some o =>
      have e2 := KX _ _ e
      rw [(hT q hq).2] at e2; cases e2
      have := List.all_eq_true.mp hKT _ (W.mem_of_lookupK e)
      exact absurd (show false = true from this) Bool.false_ne_true
  have tabA : ∀ q ∈ tabs, q.2 ≠ a := fun q hq e => by
    have e2 := (hT q hq).2
    rw [e, ha] at e2; cases e2
  have core : ∀ H : Hp, (∀ q ∈ tabs, H q.2 = some (.tbl #[])) → SqL K H a (ns.map V.int) → HOk P w H s₁.heap → (∀ b, H b ≠ none → (b = a ∧ ∃ o xs, H b = some (.frz o (.lst xs))) ∨ ∃ q ∈ tabs, q.2 = b) → (∀ b, H b ≠ none → K.lookup b = none) →
      codeAny (model P w) callerA (.call (.ref fa) ⟨[.ref a], []⟩) (fun r s' => r = .ok (.ret (.bool true)) ∧ OldK s₁.heap s'.heap ∧ s'.os = s₁.os ∧ AllBare s'.gens) s₁ := by
    intro H hO hS hok hA hK
    have base_of : ∀ {b : Addr} {o : Obj}, s₁.heap.get? b = some o → H b = none → (gC s₁.heap H).get? b = some o := fun e n => xp e n
    have noA : ∀ {b : Addr} {o : Obj}, s₁.heap.get? b = some o → o.cls ≠ .none → o.cls ≠ .type "list" → H b = none := fun {b o} e c1 c2 => by
      cases q : H b with
      | none => rfl
      | some u =>
        rcases hA b (by rw [q]; simp) with ⟨rfl, _⟩ | ⟨p, hp, rfl⟩
        · rw [ha] at e; cases e; exact absurd rfl c2
        · rw [(hT p hp).2] at e; cases e; exact absurd rfl c1
    have noD : ∀ {b : Addr} {o : Obj} {es : Array DictEntry} {ep : Nat}, s₁.heap.get? b = some o → o.data = .dict es ep → H b = none := fun {b o es ep} e d => by
      cases q : H b with
      | none => rfl
      | some u =>
        rcases hA b (by rw [q]; simp) with ⟨rfl, _⟩ | ⟨p, hp, rfl⟩
        · rw [ha] at e; cases e; cases d
        · rw [(hT p hp).2] at e; cases e; cases d
    have nsK : ∀ {b : Addr} {m : Str → Option Value}, s₁.heap.Ns b m → (gC s₁.heap H).Ns b m := fun {b m} ⟨o, es, ep, e, d, r⟩ => ⟨o, es, ep, base_of e (noD e d), d, r⟩
    have hKb : K.In (gC s₁.heap H) := fun b o e => base_of (KX b o e) (by
      cases q : H b with
      | none => rfl
      | some u => rw [hK b (by rw [q]; simp)] at e; cases e)
    have hBb : BM mg (gC s₁.heap H) := by
      obtain ⟨bm, ob, b1, b2, b3, b4, b5, b6⟩ := hB
      exact ⟨bm, ob, b1, b2, base_of b3 (noA b3 (by rw [b4]; intro z; cases z) (by rw [b4]; intro z; exact absurd (Value.type.inj z) (by decide))), b4, b5, b6⟩
    have hCb : ∀ q ∈ tabs, W.CodeHd (gC s₁.heap H) q.1 q.2 := fun q hq => by
      obtain ⟨o, vs, file, tf, flags, tg, inF, text, tt, e1, e2, r⟩ := (hT q hq).1
      exact ⟨o, vs, file, tf, flags, tg, inF, text, tt, base_of e1 (noA e1 (by rw [e2]; intro z; cases z) (by rw [e2]; intro z; exact absurd (Value.type.inj z) (by decide))), e2, r⟩
    have hM : Mod K mg (gC s₁.heap H) := ⟨hKb, nsK hns, ⟨mb, nsK hb, hbb⟩, let ⟨mc, h1, h2⟩ := hlim; ⟨mc, nsK h1, h2⟩⟩
    have e0 : iO P w K mg (gC s₁.heap H) callerA [] s₁ H := ⟨rfl, hM, fun b o e => zK e, Nat.le_of_eq (uN _ _), trivial, fun b hb => absurd (show b ∈ ([] : List Addr) from hb) (by simp), hok, .of_eq hg⟩
    refine codeAny_mono ((F _ hKb (nsK hns) hBb hCb).run callerA [] s₁ H ⟨[.ref a], []⟩ [.ref a] [.ref a] _ _ hr e0 (hbind s₁ (.ref a)) (.cons rfl .nil) (hsp H hO hS)) fun r s' h => ?_
    cases r with
    | error e => exact (hCX H e s' h).elim
    | ok fl =>
      cases fl with
      | next => exact False.elim h
      | brk => exact False.elim h
      | cont => exact False.elim h
      | ret u =>
        obtain ⟨v, H', os, bare, un, hok', r', q⟩ := h
        have q' : v = .bl true := q
        subst q'
        obtain rfl : u = Value.bool true := r'
        have all : ∀ b o, s₁.heap.get? b = some o → s'.heap.get? b = some o ∨ ∃ q ∈ tabs, q.2 = b ∧ ∃ more, s'.heap.get? b = some (W.tabObj more) := fun b o e => by
          cases q : H b with
          | none => exact .inl (un.keep b o e q (by intro z; exact absurd (show b ∈ ([] : List Addr) from z) (by simp)) (by simp))
          | some u =>
            rcases hA b (by rw [q]; simp) with ⟨rfl, ob, xs, z⟩ | ⟨p, hp, rfl⟩
            · have z2 := un.frzs b ob _ z
              obtain ⟨e1, _⟩ := hok b _ z
              obtain ⟨e2, _⟩ := hok' b _ z2
              rw [e] at e1; cases e1
              exact .inl e2
            · obtain ⟨more, z2⟩ := un.tbls p.2 _ (hO p hp)
              exact .inr ⟨p, hp, rfl, _, hok' p.2 _ z2⟩
        refine ⟨rfl, ⟨fun b o e => ?_, fun b o e => ?_⟩, os, bare⟩
        · rcases all b o e with z | ⟨p, hp, rfl, more, z⟩
          · exact .inl z
          · have e2 := (hT p hp).2
            rw [e] at e2; cases e2
            exact .inr (.inl ⟨((hT p hp).1.tab (hT p hp).2).isCodeTable, rfl, #[], more, rfl, by rw [Array.empty_append]; exact z⟩)
        · rcases all b o e with z | ⟨p, hp, rfl, more, z⟩
          · exact ⟨_, z⟩
          · exact ⟨_, z⟩
  cases hk : K.lookup a with
  | some o =>
    have e := KX a o hk
    rw [ha] at e
    cases e
    refine core (fun b => if b ∈ tabs.map (·.2) then some (.tbl #[]) else none) (fun q hq => if_pos (List.mem_map.mpr ⟨q, hq, rfl⟩)) (.inr ⟨_, vs.toArray, _, hk, rfl, rfl, rfl, by rw [List.size_toArray, lenV]; exact hl, by simpa using rv⟩) (fun b u z => ?_) (fun b z => ?_) fun b z => ?_
    · by_cases hb : b ∈ tabs.map (·.2)
      · have z' := (if_pos hb).symm.trans z
        cases z'
        obtain ⟨q, hq, rfl⟩ := List.mem_map.mp hb
        exact (hT q hq).2
      · have z' := (if_neg hb).symm.trans z
        cases z'
    · by_cases hb : b ∈ tabs.map (·.2)
      · obtain ⟨q, hq, e⟩ := List.mem_map.mp hb
        exact .inr ⟨q, hq, e⟩
      · exact absurd (if_neg hb) z
    · by_cases hb : b ∈ tabs.map (·.2)
      · obtain ⟨q, hq, rfl⟩ := List.mem_map.mp hb
        exact tabK q hq
      · exact absurd (if_neg hb) z
  | none =>
    refine core (fun b => if b = a then some (.frz { cls := .type "list", data := .seq vs.toArray } (.lst (ns.map V.int))) else if b ∈ tabs.map (·.2) then some (.tbl #[]) else none)
      (fun q hq => by show (if q.2 = a then _ else _) = _; rw [if_neg (tabA q hq), if_pos (List.mem_map.mpr ⟨q, hq, rfl⟩)]) (.inl (.inr ⟨{ cls := .type "list", data := .seq vs.toArray }, if_pos rfl⟩)) (fun b u z => ?_) (fun b z => ?_) fun b z => ?_
    · by_cases hb : b = a
      · have z' := (if_pos hb).symm.trans z
        cases z'
        subst hb
        exact ⟨ha, by rw [List.length_map]; exact hl, vs, _, rv, ha⟩
      · have z' : (if b ∈ tabs.map (·.2) then some (HO.tbl #[]) else none) = some u := (if_neg hb).symm.trans z
        by_cases hb2 : b ∈ tabs.map (·.2)
        · rw [if_pos hb2] at z'; cases z'
          obtain ⟨q, hq, rfl⟩ := List.mem_map.mp hb2
          exact (hT q hq).2
        · rw [if_neg hb2] at z'; cases z'
    · by_cases hb : b = a
      · exact .inl ⟨hb, _, _, if_pos hb⟩
      · by_cases hb2 : b ∈ tabs.map (·.2)
        · obtain ⟨q, hq, e⟩ := List.mem_map.mp hb2
          exact .inr ⟨q, hq, e⟩
        · exact absurd ((if_neg hb).trans (if_neg hb2)) z
    · by_cases hb : b = a
      · rw [hb]; exact hk
      · by_cases hb2 : b ∈ tabs.map (·.2)
        · obtain ⟨q, hq, rfl⟩ := List.mem_map.mp hb2
          exact tabK q hq
        · exact absurd ((if_neg hb).trans (if_neg hb2)) z
theorem vd {l : W.OpenLaw} {n k : Nat} {q : Program} {loose : List Str} {XP : (Str → Option Value) → Heap → Prop} {YP : World → Heap → Prop} {d : DefRec} {K : Params → W.Frag} {CX : World → CXT} {x : Str} {names : List Str}
  (hn : l.most = some n) (hn2 : n ≤ sizeLine) (hdf : d.params.defaults = []) (hr : bh k callerA)
  (hY : ∀ (w : World) (h : Heap), YP w h → (K w.params).In h)
  (hq : ∀ y ∈ names, ((PyProof.Rows.recsOf q).find? fun e => e.name == y).isSome = true)
  (F : ∀ (w : World) (mg : Str → Option Value) (fa : Addr) (h : Heap), (K w.params).In h → h.Ns mainGlobals mg → mg d.name = some (.ref fa) →
   ∃ (fd : FuncData) (tabs : List (Addr × Addr)) (sp : Sp), (∀ (s : Shared) (u : Value), BindsTo s fd ⟨[u], []⟩ [(x, u)]) ∧ W.noTabs (K w.params) = true ∧ (∀ t ∈ tabs, ∃ y ∈ names, W.tabIn (K w.params) y = some t) ∧
    (∀ base : Heap, (K w.params).In base → base.Ns mainGlobals mg → BM mg base → (∀ t ∈ tabs, W.CodeHd base t.1 t.2) → aN l.prog w (K w.params) mg base (CX w) k fa fd [x] sp) ∧
    ∀ (H : Hp) (a : Addr) (ns : List Int), ns.length ≤ n → (∀ t ∈ tabs, H t.2 = some (.tbl #[])) → SqL (K w.params) H a (ns.map V.int) → sp [.ref a] H (fun v _ => v = .bl true) fun _ _ _ => False)
  (hCX : ∀ (w : World) (H : Hp) (s : Shared) (e : Value) (s' : Shared), CX w [] H s (fun _ _ _ => False) e s' → False) :
  W.WalkO q loose XP YP l.row.toRowW d [] (fun f vs => PySem.call f vs) := by
 refine Att.attach_call hn hdf fun w s₀ s₁ mg mb fa o pm cd doc a vs ns G Y ho hd hcd hmg hobj hints hlen hg => ?_
 have KX := hY w _ Y
 obtain ⟨fd, tabs, sp, hb, hKT, htabs, hF, hsp⟩ := F w mg fa _ KX G.T.g hmg
 refine uH (tabs := tabs) KX G.T.g G.T.b G.T.builtins G.T.nolimit hg G.T.bmain (fun t ht => ?_) hKT hobj hints (Nat.le_trans hlen hn2) hr hF hb (fun H hO hS => hsp H a ns hlen hO hS) fun H e s' => hCX w H s₁ e s'
 obtain ⟨y, hy, e⟩ := htabs t ht
 obtain ⟨dd, hdd⟩ := Option.isSome_iff_exists.mp (hq y hy)
 exact W.tab_of G.T KX hdd e
end L2
namespace L2
open PySem PySem.Spec PyProof.Rows
section
variable {X:Cx}
theorem SPM.unwish {E:Value→Shared→Prop} {pins:List (Addr×Obj)} {D:lp} {f:Flow} {s':Shared} (h:SPM (X.wish E) pins D f s'):SPM X pins D f s':=by
 cases f with
 | next=>obtain ⟨σ',H',I,q⟩:=h;exact ⟨σ',H',I.unwish,q⟩
 | brk=>exact h
 | cont=>exact h
 | ret u=>obtain ⟨v,σ',H',I,r,q⟩:=h;exact ⟨v,σ',H',I.unwish,r,q⟩
theorem QMs.nox {st:List Stmt} {t:TSM} (h:QMs X.nox st t):QMs X st t:=⟨fun pins s σ H D I hw=>
 wpAny_mono (h.out pins s σ H D (I.wish _) hw) (fun _ _ q=>SPM.unwish q) fun _ _ z=>False.elim z⟩
theorem fE.mono {P:Program} {w:World} {K:W.Frag} {mg:Str→Option Value} {base:Heap} {j k:Nat} {t:cV} {sp:Sp} (F:fE P w K mg base j t sp) (h:j≤k):fE P w K mg base k t sp:=
 ⟨fun A outer s H f cs us vs cvs Q E hr=>F.run A outer s H f cs us vs cvs Q E (hr.mono h)⟩
def rl:V→List V→Hp→VK→Prop:=fun x vs H Q=>∃ a y d r H',x=.ref a∧vs=[y,d]∧Dj H a y d r H'∧Q r H'
theorem uw (hu:X.A.units+1<cLine):MtR X "dict.setdefault" rl:=by
 intro pins s σ H x xs v us Q I rx rs h
 obtain ⟨a,y,d,r,H',rfl,rfl,g,q⟩:=h
 obtain rfl:v=Value.ref a:=rx
 obtain ⟨uy,ud,rfl,ry,rd⟩:=lN rs
 rcases g with ⟨g,rfl⟩ | ⟨g,p,rfl⟩
 · rcases g with ⟨kvs,k,e,rfl,l⟩ | ⟨kvs,k,b,e,rfl,eb,l⟩
   · obtain ⟨z,hd,vs,rel,dd⟩:=jR I.hok e
     obtain ⟨w',hw,rw'⟩:=cB.some_of (v:=r) (o:=valueAt vs k) (by rw [l];exact rel.val k)
     exact call_meetsIn PySem.F.slot_dict_setdefault dd.typeIs PySem.F.entry_dict_setdefault (PySem.F.args_dict_setdefault_3 _ _ _) (kt_meets_setdefault (cj X.prog X.w) a (jL ry) hd ud)
       ⟨vs,dd,by rw [← rel.length];exact z,(fun v' hv'=>by rw [hw] at hv';cases hv';exact ⟨r,H',I.tok _,rw',q⟩),(fun hn=>by rw [hw] at hn;cases hn)⟩
   · cases (show uy=Value.ref b from ry)
     obtain ⟨z,hd,xs,rel,dd⟩:=lR I.hok e
     obtain ⟨w',hw,rw'⟩:=cB.some_of (v:=r) (o:=(atKey xs k).map (·.2)) (by rw [l];exact rel.val k)
     obtain ⟨pp,hp,hp2⟩:=Option.map_eq_some_iff.mp hw
     refine wpAny_call_entry PySem.F.slot_dict_setdefault dd.typeIs PySem.F.entry_dict_setdefault ?_ (PySem.F.args_dict_setdefault_3 _ _ _)
     unfold Builtin.«dict.setdefault»
     refine wpAny_bind ?_
     unfold Builtin.Dict.keyAndDefault
     refine wpAny_bind (wpAny_notOrdered_dict dd.typeIs ?_)
     show wpAny _ _ (pure (a,Value.ref b,some ud)) _ _ s
     refine wpAny_pure ?_
     show wpAny _ _ (if (a==sysModules)=true then _ else (dictSetDefault a (.ref b) ud>>=_)) _ _ s
     rw [if_neg (by rw [hd];exact Bool.false_ne_true)]
     refine wpAny_bind (fh (tupleKind_room_in1 hu) (ik I.hok eb) dd (fun p' hp'=>?_) (fun hn=>?_) (by rw [← Paired.length rel];exact z))
     · rw [hp] at hp';cases hp'
       exact wpAny_pure ⟨_,rfl,⟨r,H',I.tok _,by rw [hp2];exact rw',q⟩⟩
     · rw [hp] at hn;cases hn
 · rcases g with ⟨kvs,k,e,rfl,l⟩ | ⟨kvs,k,b,e,rfl,eb,l⟩
   · rcases p with ⟨kvs',k',e',ey,lz,rfl⟩ | ⟨kvs',k',b',e',ey,_⟩
     · have ek:k=k':=by cases k <;> cases k' <;> first | (cases ey;rfl) | cases ey
       subst ek
       obtain ⟨z,hd,vs,rel,dd⟩:=xS I.hok e'
       have ee:kvs=kvs':=by
         rcases e with e | ⟨o,e⟩
         · rw [e'] at e;cases e;rfl
         · rw [e'] at e;cases e
       subst ee
       have hn:valueAt vs k=none:=cB.none_of (by rw [l];exact rel.val k)
       refine call_meetsIn PySem.F.slot_dict_setdefault dd.typeIs PySem.F.entry_dict_setdefault (PySem.F.args_dict_setdefault_3 _ _ _) (kt_meets_setdefault (cj X.prog X.w) a (jL ry) hd ud)
         ⟨vs,dd,by rw [← rel.length];exact z,(fun v' hv'=>by rw [hn] at hv';cases hv'),fun _ h' dd' hs=>?_⟩
       have he:∃ q,h'.get? a=some q:=let ⟨q,_,_,hq,_⟩:=dd';⟨q,hq⟩
       have hl:(bW kvs k r).length≤sizeLine:=by have:=fH kvs k r;omega
       exact ⟨r,_,jO I (by rw [e'];exact True.intro) hs he (uE hl hd (rel.put k rd) dd'),rd,q⟩
     · cases k <;> cases ey
   · rcases p with ⟨kvs',k',e',ey,_⟩ | ⟨kvs',k',b',e',ey,eb',lz,rfl⟩
     · cases k' <;> cases ey
     · cases ey
       have ek:k=k':=re (HO.tup.inj (Option.some.inj (eb.symm.trans eb')))
       subst ek
       cases (show uy=Value.ref b from ry)
       obtain ⟨z,hd,xs,rel,dd⟩:=sJ I.hok e'
       have ee:kvs=kvs':=by
         rcases e with e | ⟨o,e⟩
         · rw [e'] at e;cases e;rfl
         · rw [e'] at e;cases e
       subst ee
       have hn:atKey xs k=none:=by
         have:=cB.none_of (o:=(atKey xs k).map (·.2)) (by rw [l];exact rel.val k)
         exact Option.map_eq_none_iff.mp this
       refine wpAny_call_entry PySem.F.slot_dict_setdefault dd.typeIs PySem.F.entry_dict_setdefault ?_ (PySem.F.args_dict_setdefault_3 _ _ _)
       unfold Builtin.«dict.setdefault»
       refine wpAny_bind ?_
       unfold Builtin.Dict.keyAndDefault
       refine wpAny_bind (wpAny_notOrdered_dict dd.typeIs ?_)
       show wpAny _ _ (pure (a,Value.ref b,some ud)) _ _ s
       refine wpAny_pure ?_
       show wpAny _ _ (if (a==sysModules)=true then _ else (dictSetDefault a (.ref b) ud>>=_)) _ _ s
       rw [if_neg (by rw [hd];exact Bool.false_ne_true)]
       refine wpAny_bind (fh (tupleKind_room_in1 hu) (ik I.hok eb) dd (fun p' hp'=>?_) (fun _ h' dd' hs=>?_) (by rw [← Paired.length rel];exact z))
       · rw [hn] at hp';cases hp'
       · obtain ⟨q',es,ep,hq,h2,h3,h4,_,h5⟩:=dd'
         have hl:(bW kvs k r).length≤sizeLine:=by have:=fH kvs k r;omega
         refine wpAny_pure ⟨_,rfl,⟨r,_,jO (ob:=.dT (bW kvs k r)) I (by rw [e'];exact True.intro) hs ⟨q',hq⟩ ⟨hl,hd,_,(rel.put k eb rd).keeps fun c ys ec=>?_,q',es,ep,hq,h2,h3,h4,h5⟩,rd,q⟩⟩
         rw [aq (bH ec e' (fun z=>nomatch z))]
         exact ec
def Its (z:Str):It:=⟨fun i _=>i<z.length,fun i H x H'=>H'=H∧∃ c,z.cps[i]?=some c∧x=.str ⟨#[c]⟩,fun i _=>z.length≤i⟩
theorem wT {P:Program} {w:World} {K:W.Frag} {tg:Expr} (z:Str) (t:Tok) (it:Addr):mE P w K tg (Its z) [it] it (fun i h=>h.IsStrIter it "str_ascii_iterator" z t i) where
 mem:=by simp
 obj:=fun i h st b hb=>by
  have e:b=it:=by simpa using hb
  subst e
  obtain ⟨o,e,c,d⟩:=st
  exact ⟨o,e,fun v z=>by rw [d] at z;cases z⟩
 keep:=fun i h h' st k=>let ⟨o,ho,r⟩:=st;⟨o,k it (by simp) o ho,r⟩
 item:=by
  intro X hP hw hK hc i pins s σ H E I hf st hg
  subst hP hw hK
  obtain ⟨f0,f1,f2,f3,f4,f5⟩:=hf it (by simp)
  have hi:i<z.cps.size:=hg
  refine wpAny_pyNext_ascii_item st (c:=z.cps[i]) (Array.getElem?_eq_getElem hi) fun h' st' sb=>?_
  have I1:Inv X pins σ H { s with heap:=h',toks:=s.toks+1 }:=I.turned (t':=s.toks+1) (fun b o hb e=>(sb.2 b hb).trans e) f0 f1 f3 f4 f5
  obtain ⟨o,e,c,d⟩:=id st'
  exact ⟨_,rfl,oJ (s:={ s with heap:=h',toks:=s.toks+1 }) e c d (by decide) ⟨.str ⟨#[z.cps[i]]⟩,H,I1,⟨_,rfl⟩,⟨rfl,_,Array.getElem?_eq_getElem hi,rfl⟩,st',fun b hb=>(hf b hb).1⟩⟩
 done:=by
  intro X hP hw hK hc i pins s σ H E I hf st hg
  subst hP hw hK
  obtain ⟨f0,f1,f2,f3,f4,f5⟩:=hf it (by simp)
  exact wpAny_pyNext_ascii_end (I.ok.hd hc) st (Array.getElem?_eq_none (show z.cps.size≤i from hg)) fun h' eb=>⟨rfl,I.turned (t':=s.toks) (fun b o hb e=>eb b o hb e) f0 f1 f3 f4 f5⟩
 self:=fun A i s Q E st h=>by
  refine wpAny_pyIter_slot st.typeIs F.slot_str_ascii_iterator_iter (wpAny_call_entry F.slot_str_ascii_iterator_iter st.typeIs F.entry_str_ascii_iterator_iter ?_ (F.args_str_ascii_iterator_iter_1 _))
  show wpAny _ _ (ret (.ref it)) _ _ s
  exact wpAny_pure ⟨_,rfl, "str_ascii_iterator",_,st.typeIs,F.slot_str_ascii_iterator_next.lookup,h⟩
variable {a:Expr} {ta:TE} {tg:Expr}
def iS (K:W.Frag) (tl:TE):TI:=fun σ H R=>tl σ H fun x H1=>match x with
 | .str z=>z.cps.all (·<128)=true∧R (Its z) H1
 | x=>∃ a,x=.ref a∧(((∃ xs,SqL K H1 a xs)∧R (Itl K a) H1)∨((∃ xs,SqT K H1 a xs)∧R (Itt K a) H1))
theorem gX (h : QE X a ta) : QI X tg a (iS X.K ta) := ⟨fun pins s σ H R I hw => by
  refine thn (h.out pins s σ H _ I hw) fun v s1 ⟨x, H1, I1, r1, q1⟩ => ?_
  cases x with
  | str z =>
    obtain ⟨t, rfl⟩ := r1
    refine wpAny_pyIter_ascii q1.1 ?_
    refine ⟨s1.heap.objs.size, [s1.heap.objs.size], _, _, H1, rfl, I1.kept (t' := s1.toks) fun b o e => Heap.get?_push_of_some _ e, wT z t _, ⟨_, Heap.get?_push_size _ rfl, rfl, rfl⟩, fun b hb => ?_, q1.2⟩
    have e : b = s1.heap.objs.size := by simpa using hb
    subst e
    exact I1.fpOk (Nat.le_refl _) (I1.hok.fresh (Nat.le_refl _))
  | ref c =>
    obtain ⟨a, e, q⟩ := q1
    cases e
    cases r1
    rcases q with ⟨⟨xs, hq⟩, q⟩ | ⟨⟨xs, hq⟩, q⟩
    · obtain ⟨its, rv, p, hz⟩ := I1.list hq
      refine wpAny_pyIter_list (vS p) ?_
      refine ⟨s1.heap.objs.size, [s1.heap.objs.size], _, _, H1, rfl, I1.kept (t' := s1.toks) fun b o e => Heap.get?_push_of_some _ e, ub _ _, ⟨_, Heap.get?_push_size _ rfl, rfl, rfl⟩, fun b hb => ?_, q⟩
      have e : b = s1.heap.objs.size := by simpa using hb
      subst e
      exact I1.fpOk (Nat.le_refl _) (I1.hok.fresh (Nat.le_refl _))
    · obtain ⟨its, rv, p, hz⟩ := I1.tuple hq
      refine wpAny_pyIter_tuple (show s1.heap.IsTuple c its.toArray from p) ?_
      refine ⟨s1.heap.objs.size, [s1.heap.objs.size], _, _, H1, rfl, I1.kept (t' := s1.toks) fun b o e => Heap.get?_push_of_some _ e, sg _ _, ⟨_, Heap.get?_push_size _ rfl, rfl, rfl⟩, fun b hb => ?_, q⟩
      have e : b = s1.heap.objs.size := by simpa using hb
      subst e
      exact I1.fpOk (Nat.le_refl _) (I1.hok.fresh (Nat.le_refl _))
  | _ => obtain ⟨_, e, _⟩ := q1; cases e⟩
theorem zf:OpR X (binaryOp .Mult) (fun x y H Q=>∃ z n,x=.str z∧y=.int n∧(-1000≤n∧n≤1000∧z.length≤1000)∧Q (.str (Txt.mul z n)) H):=by
 intro pins s σ H x y v u Q I rx ry h
 obtain ⟨z,n,rfl,rfl,⟨h1,h2,h3⟩,q⟩:=h
 obtain ⟨t,rfl⟩:=rx
 obtain ⟨t',rfl⟩:=ry
 refine SB.mul ⟨?_,fun hn _=>?_,fun hn _=>?_⟩ fun t' k=>⟨.str _,H,I.tok k,⟨_,rfl⟩,q⟩
 · rw [decide_eq_false (by omega),decide_eq_false (by omega)];rfl
 · intro hgt
   have h5:(1000:Int)≤(2^63 - 1)/n:=Int.le_ediv_of_mul_le (by omega) (by omega)
   omega
 · have h6:z.length*n.toNat≤1000*1000:=Nat.mul_le_mul h3 (by omega)
   exact decide_eq_false (by rw [sizeLine_eq];omega)
end
end L2
namespace L2
open PySem PySem.Spec PyProof.Rows
theorem rV {α β:Type} (f:β→α→β) (b:β) (l:List α) (i:Nat) (x:α) (h:l[i]?=some x):(l.take (i+1)).foldl f b=f ((l.take i).foldl f b) x:=by
 rw [List.take_succ,h];simp
theorem jV {α β:Type} {f:α→β} {l:List α} {i:Nat} {x:β} (h:(l.map f)[i]?=some x):∃ a,l[i]?=some a∧x=f a:=by
 rw [List.getElem?_map] at h
 cases e:l[i]? with
 | none=>rw [e] at h;cases h
 | some a=>rw [e] at h;cases h;exact ⟨a,rfl,rfl⟩
theorem dv.keep {H H':Hp} {f:Addr} {t:cV} {cs:List Addr} {cvs:List V} (k:∀ b φ,H b=some (.ext φ)→H' b=some (.ext φ)) (c:dv H f t cs cvs):dv H' f t cs cvs:=by
 obtain ⟨⟨a,h1,h2⟩,h3⟩:=c
 refine ⟨⟨a,k _ _ h1,k _ _ h2⟩,?_⟩
 clear h1 h2
 induction h3 with
 | nil=>exact .nil
 | cons r t ih=>exact .cons (k _ _ r) ih
def mP (K:W.Frag) (ns:List Str):Bool:=decide ((ns.map fun n=>(W.tabIn K n).map (·.2)).Nodup)
theorem wz {l:List Addr} (h:(l.map some).Nodup):l.Nodup:=List.Pairwise.of_map some (fun a b h e=>h (congrArg some e)) h
end L2
namespace HT
open PySem PyProof.Rows
theorem gp:fillsNumberSlot (.type "tuple") "mul" =pure false:=
 PySem.fillsNumberSlot_seq (id:= "tuple.__mul__") (r:=some (.builtin "tuple.__rmul__")) F.slot_tuple_mul.lookup (by decide +kernel) F.slot_tuple_rmul.lookup (by decide +kernel)
theorem jo:seqRepeat? (.type "tuple")=pure (some (.builtin "tuple.__mul__")):=by
 unfold seqRepeat?
 rw [PySem.seqSlot_of (T:= "tuple") (name:= "__mul__") (id:= "tuple.__mul__") F.slot_tuple_mul.lookup (by decide +kernel),PySem.seqSlot_of (T:= "tuple") (name:= "__rmul__") (id:= "tuple.__rmul__") F.slot_tuple_rmul.lookup (by decide +kernel)]
 rfl
theorem gZ (a:Int) (t:Tok) (l:Addr) (items:Array Value) (n:Nat) (dd:Option Addr) (sl:Array (Option Value)):
  Meets (Builtin.«int.__rmul__» ⟨[.int a t,.ref l],[]⟩) (fun _ R s=>s.heap.get? l=some { cls:=.type "tuple",dict:=dd,data:=.seq items n,slots:=sl }∧R (.ok (.ret Value.notImplemented)) s):=
 .of_wp fun prog w A R s h=>by obtain ⟨hp,g,d,tk,os⟩:=s;obtain ⟨hl,h⟩:=h;wp_walk;exact ⟨_,rfl,h⟩
theorem sV (l:Addr) (items:Array Value) (n:Nat) (x:Int) (u:Tok) (dd:Option Addr) (sl:Array (Option Value)) (h0:(decide (x< -(2^63))||decide (x≥2^63))=false) (h1:(items.isEmpty||x==1)=true):
  Meets (Builtin.«tuple.__mul__» ⟨[.ref l,.int x u],[]⟩) (fun _ R s=>s.heap.get? l=some { cls:=.type "tuple",dict:=dd,data:=.seq items n,slots:=sl }∧R (.ok (.ret (.ref l))) s):=
 .of_wp fun prog w A R s h=>by obtain ⟨hp,g,d,tk,os⟩:=s;obtain ⟨hl,h⟩:=h;have f1:=AutoSeq1.idx_int;have f2:=AutoSeq1.sub_tuple_tuple;wp_walk using wpAny_loadPart' hl;refine wpAny_ite_false (decide_eq_false (by rw [h0];decide)) ?_;wp_walk using wpAny_loadPart' hl;exact ⟨_,rfl,h⟩
theorem rP (l:Addr) (items:Array Value) (n:Nat) (x:Int) (u:Tok) (dd:Option Addr) (sl:Array (Option Value)) (h0:(decide (x< -(2^63))||decide (x≥2^63))=false) (h1:(items.isEmpty||x==1)=false)
  (h2:(decide (x≤0)||items.isEmpty)=false) (h3:¬ ((items.size:Int)*x>(2^63 - 1)/8)) (h4:¬ Builtin.Tuple.tupleTooMany (items.size*x)=true) (h5:(List.foldl (fun x1 x2=>x1++x2) #[] (List.replicate x.toNat items)).size≤sizeLine):
  Meets (Builtin.«tuple.__mul__» ⟨[.ref l,.int x u],[]⟩) (fun _ R s=>s.heap.get? l=some { cls:=.type "tuple",dict:=dd,data:=.seq items n,slots:=sl }∧R (.ok (.ret (Value.ref s.heap.objs.size))) { s with heap:=s.heap.push { cls:=Value.type "tuple",data:=Data.seq (List.foldl (fun x1 x2=>x1++x2) #[] (List.replicate x.toNat items)) },toks:=s.toks }):=
 .of_wp fun prog w A R s h=>by obtain ⟨hp,g,d,tk,os⟩:=s;obtain ⟨hl,h⟩:=h;have f1:=AutoSeq1.idx_int;have f2:=AutoSeq1.sub_tuple_tuple;wp_walk using wpAny_loadPart' hl;refine wpAny_ite_false (decide_eq_false (by rw [h0];decide)) ?_;wp_walk using wpAny_loadPart' hl;refine wpAny_ite_false (decide_eq_false h3) ?_;wp_walk using wpAny_loadPart' hl;exact ⟨_,rfl,h⟩
end HT
namespace L2
open PySem PySem.Spec PyProof.Rows
section
variable {X:Cx}
def xO:R2:=fun x y H Q=>∃ a k xs,x=.ref a∧y=.int k∧H a=some (.tup xs)∧xs≠[]∧1≤k∧k≤1000∧xs.length≤1000∧∀ p H',ao H H'→H' p=some (.tup (List.replicate k.toNat xs).flatten)→Q (.ref p) H'
theorem zT : OpR X (binaryOp .Mult) xO := by
 intro pins s σ H x y v u Q I rx ry h
 obtain ⟨a, k, xs, rfl, rfl, ha, hne, k1, k2, hl, q⟩ := h
 cases rx
 obtain ⟨t, rfl⟩ := ry
 obtain ⟨its, r, p1, hz⟩ := I.tuple (.inl (.inl ha))
 have hlen : its.length = xs.length := r.length.symm
 have hits : its ≠ [] := fun z => hne (r.nil_iff.mp z)
 obtain ⟨⟨cls, dd, data, sl⟩, ho, hc, n, hd⟩ := id p1
 simp only at hc hd
 subst hc hd
 have h0 : (decide (k < -(2 ^ 63)) || decide (k ≥ 2 ^ 63)) = false := by rw [decide_eq_false (by omega), decide_eq_false (by omega)]; rfl
 have hemp : its.toArray.isEmpty = false := by cases its with | nil => exact (hits rfl).elim | cons _ _ => rfl
 by_cases e : k = 1
 · subst e
   refine PySem.wpAny_binaryOp_repeat_ref (T := "tuple") (U := "int") (by decide) ⟨_, ho, rfl⟩ (fun s' => typeIs_int s' 1 t) HT.gp F.fills_int_mul F.slot_int_rmul HT.jo F.slot_int_index.lookup
     (call_meets F.slot_int_rmul (typeIs_int s 1 t) F.entry_int_rmul (F.args_int_rmul_2 _ _) (HT.gZ 1 t a its.toArray n dd sl)
      ⟨ho, rfl, ⟨_, ho, rfl⟩, call_meets F.slot_tuple_mul ⟨_, ho, rfl⟩ F.entry_tuple_mul (F.args_tuple_mul_2 _ _) (HT.sV a its.toArray n 1 t dd sl h0 (by rw [hemp]; rfl)) ⟨ho, ?_⟩⟩)
   exact ⟨.ref a, H, I, rfl, q a H ao.rfl' (by rw [ha]; simp)⟩
 · have hsz : its.length * k.toNat ≤ 1000000 := Nat.le_trans (Nat.mul_le_mul (by omega : its.length ≤ 1000) (by omega : k.toNat ≤ 1000)) (by decide)
   have hszI : ((its.toArray.size : Nat) : Int) * k ≤ 1000000 := by
     have e1 : ((its.length * k.toNat : Nat) : Int) = (its.length : Int) * k := by rw [Int.natCast_mul, Int.toNat_of_nonneg (by omega)]
     rw [List.size_toArray, ← e1]; omega
   have hnew : List.foldl (fun x1 x2 => x1 ++ x2) #[] (List.replicate k.toNat its.toArray) = (List.replicate k.toNat its).flatten.toArray := by
     have := nq its k.toNat []
     rw [List.nil_append] at this
     exact this
   refine PySem.wpAny_binaryOp_repeat_ref (T := "tuple") (U := "int") (by decide) ⟨_, ho, rfl⟩ (fun s' => typeIs_int s' k t) HT.gp F.fills_int_mul F.slot_int_rmul HT.jo F.slot_int_index.lookup
     (call_meets F.slot_int_rmul (typeIs_int s k t) F.entry_int_rmul (F.args_int_rmul_2 _ _) (HT.gZ k t a its.toArray n dd sl)
      ⟨ho, rfl, ⟨_, ho, rfl⟩, call_meets F.slot_tuple_mul ⟨_, ho, rfl⟩ F.entry_tuple_mul (F.args_tuple_mul_2 _ _) (HT.rP a its.toArray n k t dd sl h0 (by rw [hemp]; simp [e]) (by rw [hemp, decide_eq_false (by omega)]; rfl) (by omega) ?_ ?_) ⟨ho, ?_⟩⟩)
   · unfold Builtin.Tuple.tupleTooMany
     rw [sizeLine_eq]
     simp only [gt_iff_lt, decide_eq_true_eq]
     omega
   · rw [hnew, List.size_toArray, qD, Nat.mul_comm]
     exact ax hsz
   · rw [hnew]
     refine ⟨.ref s.heap.objs.size, _, I.laid (t' := s.toks) (o := .tup (List.replicate k.toNat xs).flatten) (fun b ob q => Heap.get?_push_of_some _ q) (Nat.le_refl _) ?_, rfl, q _ _ (ao.upd (I.hok.fresh (Nat.le_refl _))) ai⟩
     exact ⟨by rw [qD, ← hlen, Nat.mul_comm]; exact ax hsz, _, r.rep k.toNat, IsTup.new _ _⟩
def eV:R2:=fun x y H Q=>match x,y with
 | .str z,.int n=>(-1000≤n∧n≤1000∧z.length≤1000)∧Q (.str (Txt.mul z n)) H
 | .ref a,.int n=>xO (.ref a) (.int n) H Q
 | x,y=>vE x y H Q
theorem jb:OpR X (binaryOp .Mult) eV:=(zf.or (zT.or Hx)).imp fun x y H Q q=>by
 unfold eV at q
 split at q
 · exact .inl ⟨_,_,rfl,rfl,q.1,q.2⟩
 · exact .inr (.inl q)
 · exact .inr (.inr q)
end
end L2
namespace L2
open PySem PySem.Spec PyProof.Rows
end L2
namespace L2
open PySem PySem.Spec PyProof.Rows
section
variable {X:Cx}
theorem BW:OpR X (compareOp .Is) (fun x y H Q=>∃ b c,x=.bl b∧y=.bl c∧Q (.bl (decide (b=c))) H):=by
 intro pins s σ H x y v u Q I rx ry h
 obtain ⟨b,c,rfl,rfl,q⟩:=h
 cases rx
 cases ry
 refine wpAny_is_plain (by rfl) (bp I q ?_)
 cases b <;> cases c <;> rfl
def vC:R2:=fun x y H Q=>match x,y with
 | .bl b,.bl c=>Q (.bl (decide (b=c))) H
 | x,y=>vm x y H Q
theorem HF:OpR X (compareOp .Is) vC:=(BW.or oIs).imp fun x y H Q q=>by
 unfold vC at q
 split at q
 · exact .inl ⟨_,_,rfl,rfl,q⟩
 · exact .inr q
theorem tM {x y:Str} {px py ep pos:Pos} {ek:Nat} {e:Expr} {te:TE} (i j:Nat) (hN:X.N.Nodup) (hc:X.calm=true) (he:QE X e te) (hi:X.N[i]?=some x:=by rfl) (hj:X.N[j]?=some y:=by rfl)
  (hx:Loc X.env.scope x:=by first | exact .inl rfl | exact .inr rfl) (hy:Loc X.env.scope y:=by first | exact .inl rfl | exact .inr rfl)
  (fx:X.fn x=true∨X.env.scope.names.lookup x=some .local:=by first | exact .inl rfl | exact .inr rfl) (fy:X.fn y=true∨X.env.scope.names.lookup y=some .local:=by first | exact .inl rfl | exact .inr rfl)
  (hs:swapsWithSole [.Tuple [.Name x px,.Name y py] ek ep] e pos.line X.env=pure false:=by rfl) (hw:swappedStores [.Tuple [.Name x px,.Name y py] ek ep] e X.env=pure none:=by rfl):
  QS X (.Assign [.Tuple [.Name x px,.Name y py] ek ep] e pos) (aA te (sQ X.K 2 (ja (aw i) (ja (aw j) sd)))):=
 ⟨uz he.out (Ca hc (pR (me hN hi hx fx) (pR (me hN hj hy fy) zk))) hs hw⟩
end
end L2
namespace HT
open PySem PyProof.Rows
theorem sub_tuple_dict:isSubtype (.type "tuple") (.type "dict")=pure false:=by rw [isSubtype_type];kernel_rfl
theorem mi:isSubtype (.type "dict") (.type "tuple")=pure false:=by rw [isSubtype_type];kernel_rfl
theorem rE (l b:Addr) (o:Obj) (hc:o.cls=.type "dict") (o2:Obj) (hc2:o2.cls=.type "tuple"):
  Meets (Builtin.«dict.__eq__» ⟨[.ref l,.ref b],[]⟩) (fun _ R s=>s.heap.get? l=some o∧s.heap.get? b=some o2∧R (.ok (.ret .notImplemented)) s):=
 .of_wp fun prog w A R s h=>by
  obtain ⟨hp,g,d,tk,os⟩:=s;obtain ⟨hl,hb,h⟩:=h;obtain ⟨cls,dd,data,sl⟩:=o;obtain ⟨cls2,dd2,data2,sl2⟩:=o2
  simp only at hc hc2;subst hc hc2
  have f1:=sub_tuple_dict;wp_walk using wpAny_loadPart' hl,wpAny_loadPart' hb;exact ⟨_,rfl,h⟩
theorem qw (l b:Addr) (o:Obj) (hc:o.cls=.type "tuple") (o2:Obj) (hc2:o2.cls=.type "dict"):
  Meets (Builtin.«tuple.__eq__» ⟨[.ref l,.ref b],[]⟩) (fun _ R s=>s.heap.get? l=some o∧s.heap.get? b=some o2∧R (.ok (.ret .notImplemented)) s):=
 .of_wp fun prog w A R s h=>by
  obtain ⟨hp,g,d,tk,os⟩:=s;obtain ⟨hl,hb,h⟩:=h;obtain ⟨cls,dd,data,sl⟩:=o;obtain ⟨cls2,dd2,data2,sl2⟩:=o2
  simp only at hc hc2;subst hc hc2
  have f1:=mi;wp_walk using wpAny_loadPart' hl,wpAny_loadPart' hb;exact ⟨_,rfl,h⟩
end HT
namespace L2
open PySem PySem.Spec PyProof.Rows
section
variable {X:Cx}
def xL (K:W.Frag):R2:=fun x y H Q=>∃ a b ys,x=.ref a∧y=.ref b∧((∃ kvs,H a=some (.dK kvs))∨∃ kvs,H a=some (.dT kvs))∧SqT K H b ys∧Q (.bl false) H
theorem zP (hu:X.A.units<cLine):OpR X (compareOp .Eq) (xL X.K):=by
 intro pins s σ H x y v u Q I rx ry h
 obtain ⟨a,b,ys,rfl,rfl,ha,hb,q⟩:=h
 cases rx
 cases ry
 obtain ⟨its,_,p1,_⟩:=I.tuple hb
 obtain ⟨o2,ho2,hc2,_⟩:=id p1
 obtain ⟨o,ho,hc⟩:∃ o,s.heap.get? a=some o∧o.cls=.type "dict" :=by
  rcases ha with ⟨kvs,e⟩ | ⟨kvs,e⟩
  · obtain ⟨_,_,_,_,o,_,_,h1,h2,_⟩:=(show ba X.prog X.w H s.heap a (.dK kvs) from I.hok a _ e)
    exact ⟨o,h1,h2.1⟩
  · obtain ⟨_,_,_,_,o,_,_,h1,h2,_⟩:=(show ba X.prog X.w H s.heap a (.dT kvs) from I.hok a _ e)
    exact ⟨o,h1,h2.1⟩
 have hne:a≠b:=fun e=>by
  subst e
  rw [ho] at ho2;cases ho2
  rw [hc] at hc2;exact absurd hc2 (by simp)
 show wpAny _ _ (richCompare .Eq (.ref a) (.ref b)) _ _ s
 exact SeqAt.rc_eq_decline_or (k:=false) ⟨_,ho,hc⟩ ⟨_,ho2,hc2⟩ (by decide) F.sub_tuple_dict F.slot_dict_eq F.slot_tuple_eq_refl
  (fun _ hq=>call_meets F.slot_dict_eq ⟨_,ho,hc⟩ F.entry_dict_eq (F.args_dict_eq_2 _ _) (HT.rE a b o hc o2 hc2) ⟨ho,ho2,hq⟩)
  (fun _ hq=>call_meets F.slot_tuple_eq_refl ⟨_,ho2,hc2⟩ F.entry_tuple_eq (F.args_tuple_eq_2 _ _) (HT.qw b a o2 hc2 o hc) ⟨ho2,ho,hq⟩)
  (fun _ hq=>wpAny_isSame_ref_other hne ho ho2 (by rw [hc];simp) hq) (.inr hu) ⟨.bl false,H,I,rfl,q⟩
def bu (K:W.Frag):R2:=fun x y H Q=>match x,y with
 | .ref a,.ref b=>CQ K (.ref a) (.ref b) H Q∨rG K (.ref a) (.ref b) H Q∨xL K (.ref a) (.ref b) H Q
 | .ref a,y=>rG K (.ref a) y H Q
 | x,.ref b=>rG K x (.ref b) H Q
 | x,y=>mEq x y H Q
theorem bU (hu:X.A.units+150<cLine):OpR X (compareOp .Eq) (bu X.K):=((AT (by omega)).or ((CW hu).or ((zP (by omega)).or oEq))).imp fun x y H Q q=>by
 unfold bu at q
 split at q
 · exact q.elim .inl fun z=>z.elim (fun z=> .inr (.inl z)) fun z=> .inr (.inr (.inl z))
 · exact .inr (.inl q)
 · exact .inr (.inl q)
 · exact .inr (.inr (.inr q))
end
end L2
namespace HT
open PySem PyProof.Rows
section
variable {prog:Program} {w:World} {A:Around} {E:Value→Shared→Prop} {s:Shared}
end
end HT
namespace L2
open PySem PySem.Spec PyProof.Rows
theorem qm:bootBuiltins "reversed" =some (.type "reversed"):=by decide +kernel
section
variable {X:Cx} {a:Expr} {t:TA} {p pos:Pos} {tg:Expr}
def xq:List V→Hp→VK→Prop:=fun xs H Q=>match xs with | [.int i,.int j]=>Q (.int (if j>i then j else i)) H | _=>False
theorem Hg (hc:X.calm=true):bB X (.builtin "max") xq:=fun pins s σ H xs us Q I r q=>by
 unfold xq at q
 split at q
 · exact uk hc pins s σ H _ us Q I r ⟨_,_,rfl,q⟩
 · exact q.elim
theorem xk:OpR X (binaryOp .FloorDiv) (rI (fun _ j=>0<j∧j<1267650600228229401496703205376) fun i j=> .int (i/j)):=opI fun i j _ _ _ _ _ hc q=>by
 have h1:(0:Int)<j:=hc.1
 have h2:j<1267650600228229401496703205376:=hc.2
 have h3:j.natAbs.log2<100:=(Nat.log2_lt (by omega)).mpr (Nat.lt_of_lt_of_eq (m:=1267650600228229401496703205376) (by omega) (by decide))
 exact floordiv_int (by omega) (by rw [Int.fdiv_eq_ediv_of_nonneg i (by omega)];exact q) (.inl (PyProof.noPylong_of_log2 (by omega)))
def br:R2:=fun x y H Q=>match x,y with | .int i,.int j=>(0<j∧j<1267650600228229401496703205376)∧Q (.int (i/j)) H | _,_=>False
theorem bK:OpR X (binaryOp .FloorDiv) br:=xk.imp fun x y H Q q=>by
 unfold br at q
 split at q
 · exact ⟨_,_,rfl,rfl,q.1,q.2⟩
 · exact q.elim
end
end L2
namespace L2
open PySem PySem.Spec PyProof.Rows
section
variable {X:Cx}
end
section
variable {α:Type} {l:List α}
theorem ss (h:l.length=0):l=[]:=List.length_eq_zero_iff.mp h
theorem ef (h : l.length = 1) : ∃ a0, l = [a0] := by
  cases l with
  | nil => simp at h
  | cons a l =>
    obtain rfl := ss (l := l) (by simpa using h)
    exact ⟨a, rfl⟩
theorem rX (h : l.length = 2) : ∃ a0 a1, l = [a0, a1] := by
  cases l with
  | nil => simp at h
  | cons a l =>
    obtain ⟨b0, rfl⟩ := ef (l := l) (by simpa using h)
    exact ⟨a, b0, rfl⟩
theorem yC (h : l.length = 3) : ∃ a0 a1 a2, l = [a0, a1, a2] := by
  cases l with
  | nil => simp at h
  | cons a l =>
    obtain ⟨b0, b1, rfl⟩ := rX (l := l) (by simpa using h)
    exact ⟨a, b0, b1, rfl⟩
theorem yw (h : l.length = 4) : ∃ a0 a1 a2 a3, l = [a0, a1, a2, a3] := by
  cases l with
  | nil => simp at h
  | cons a l =>
    obtain ⟨b0, b1, b2, rfl⟩ := yC (l := l) (by simpa using h)
    exact ⟨a, b0, b1, b2, rfl⟩
theorem xC (h : l.length = 5) : ∃ a0 a1 a2 a3 a4, l = [a0, a1, a2, a3, a4] := by
  cases l with
  | nil => simp at h
  | cons a l =>
    obtain ⟨b0, b1, b2, b3, rfl⟩ := yw (l := l) (by simpa using h)
    exact ⟨a, b0, b1, b2, b3, rfl⟩
theorem Es (h : l.length = 6) : ∃ a0 a1 a2 a3 a4 a5, l = [a0, a1, a2, a3, a4, a5] := by
  cases l with
  | nil => simp at h
  | cons a l =>
    obtain ⟨b0, b1, b2, b3, b4, rfl⟩ := xC (l := l) (by simpa using h)
    exact ⟨a, b0, b1, b2, b3, b4, rfl⟩
end
end L2
namespace L2
open PySem PySem.Spec PyProof.Rows
section
variable {X:Cx}
end
end L2
namespace L2
open PySem PySem.Spec PyProof.Rows
end L2
namespace L2
open PySem PySem.Spec PyProof.Rows
section
variable {X:Cx} {pos ep px py pz:Pos} {ek:Nat} {x y z:Str} {iter:Expr} {wi:TI} {tS:TS}
end
end L2
namespace L2
open PySem PySem.Spec PyProof.Rows
theorem bh.le {A:Around} {m n:Nat} (h:bh m A) (d:n≤m:=by first | decide | omega):bh n A:=h.mono d
theorem scF {N P:List Str} {sc:Scope} (h1:sc.kind=.function:=by rfl) (h2:sc.isCoroutine=false:=by rfl) (h3:sc.isGenerator=false:=by rfl) (h4:N.Nodup:=by decide +kernel) (h5:N.take P.length=P:=by rfl)
 (h6:∀ x∈P,sc.names.lookup x=some .local∨sc.names.lookup x=some .cell:=by decide +kernel) (h7:∀ y∈sc.names,y.2≠ .free:=by decide +kernel):aB N P sc:=⟨h1,h2,h3,h4,h5,h6,h7⟩
structure Fm (K:W.Frag) (mg:Str→Option Value) (x qual:Str) (st:Stmt) (a:Addr) (d:FuncData) (ps:List Str):Prop where
 f:Fun K x qual st a d
 m:mg x=some (.ref a)
 b:bA K d ps []
structure Fa (K:W.Frag) (x qual:Str) (st:Stmt) (a:Addr) (d:FuncData):Prop where
 m:W.nsIn K mainGlobals x=some (some (.ref a))
 f:Fun K x qual st a d
section
variable {P:Program} {w:World} {K:W.Frag} {mg:Str→Option Value} {base h:Heap} {x qual:Str} {st:Stmt} {a:Addr} {d:FuncData} {ps:List Str}
theorem bg {oc:Value} {od an:Option Addr} {osl:Array (Option Value)} {kV doc pm cdv ct:Value} (m:W.nsIn K mainGlobals x=some (some (.ref a))) (l:K.lookup a=some ⟨oc,od,.func (W.fnOf x qual (bF st) (aQ st) (am st) .none kV doc pm an cdv ct),osl⟩)
 (c:W.codeIn K cdv qual=true) (k:W.keepIn K (.ref a)=true):Fa K x qual st a (W.fnOf x qual (bF st) (aQ st) (am st) .none kV doc pm an cdv ct):=⟨m,dm l c k⟩
theorem Fa.code (F:Fa K x qual st a d) (X:K.In h) (G:h.Ns mainGlobals mg) {z t:Addr} (ht:W.tabIn K x=some (z,t)):d.code=.ref z:=by
 obtain ⟨oc,od,kV,doc,pm,an,cdv,ct,osl,e,lk,hcd⟩:=F.f.ex
 exact W.law_code X G ht (W.mg_of X G F.m) (X _ _ lk) rfl
theorem Fun.bt {p:Str} (F:Fun K x qual st a d) (hb:∀ (kV doc pm:Value) (an:Option Addr) (cdv ct v:Value),bindArgs (W.fnOf x qual (bF st) (aQ st) (am st) .none kV doc pm an cdv ct) ⟨[v],[]⟩=pure [(p,v)]:=by intros;rfl) (s:Shared) (v:Value):BindsTo s d ⟨[v],[]⟩ [(p,v)]:=by
 obtain ⟨oc,od,kV,doc,pm,an,cdv,ct,osl,rfl,lk,hcd⟩:=F.ex
 exact .of_eq (hb kV doc pm an cdv ct v)
theorem Fun.b0 (F:Fun K x qual st a d) (hb:∀ (kV doc pm:Value) (an:Option Addr) (cdv ct:Value),bindArgs (W.fnOf x qual (bF st) (aQ st) (am st) .none kV doc pm an cdv ct) ⟨[],[]⟩=pure (List.zip [] []):=by intros;rfl):bA K d [] []:=F.binds fun kV doc pm an cdv ct us hl=>by
 obtain rfl:=L2.ss hl
 exact hb kV doc pm an cdv ct
theorem Fa.fm0 (F:Fa K x qual st a d) (X:K.In h) (G:h.Ns mainGlobals mg) (hb:∀ (kV doc pm:Value) (an:Option Addr) (cdv ct:Value),bindArgs (W.fnOf x qual (bF st) (aQ st) (am st) .none kV doc pm an cdv ct) ⟨[],[]⟩=pure (List.zip [] []):=by intros;rfl):Fm K mg x qual st a d []:=⟨F.f,W.mg_of X G F.m,F.f.b0 hb⟩
theorem Fun.b1 {p0:Str} (F:Fun K x qual st a d) (hb:∀ (kV doc pm:Value) (an:Option Addr) (cdv ct u0:Value),bindArgs (W.fnOf x qual (bF st) (aQ st) (am st) .none kV doc pm an cdv ct) ⟨[u0],[]⟩=pure (List.zip [p0] [u0]):=by intros;rfl):bA K d [p0] []:=F.binds fun kV doc pm an cdv ct us hl=>by
 obtain ⟨u0,rfl⟩:=L2.ef hl
 exact hb kV doc pm an cdv ct u0
theorem Fa.fm1 {p0:Str} (F:Fa K x qual st a d) (X:K.In h) (G:h.Ns mainGlobals mg) (hb:∀ (kV doc pm:Value) (an:Option Addr) (cdv ct u0:Value),bindArgs (W.fnOf x qual (bF st) (aQ st) (am st) .none kV doc pm an cdv ct) ⟨[u0],[]⟩=pure (List.zip [p0] [u0]):=by intros;rfl):Fm K mg x qual st a d [p0]:=⟨F.f,W.mg_of X G F.m,F.f.b1 hb⟩
theorem Fun.b2 {p0 p1:Str} (F:Fun K x qual st a d) (hb:∀ (kV doc pm:Value) (an:Option Addr) (cdv ct u0 u1:Value),bindArgs (W.fnOf x qual (bF st) (aQ st) (am st) .none kV doc pm an cdv ct) ⟨[u0,u1],[]⟩=pure (List.zip [p0,p1] [u0,u1]):=by intros;rfl):bA K d [p0,p1] []:=F.binds fun kV doc pm an cdv ct us hl=>by
 obtain ⟨u0,u1,rfl⟩:=L2.rX hl
 exact hb kV doc pm an cdv ct u0 u1
theorem Fa.fm2 {p0 p1:Str} (F:Fa K x qual st a d) (X:K.In h) (G:h.Ns mainGlobals mg) (hb:∀ (kV doc pm:Value) (an:Option Addr) (cdv ct u0 u1:Value),bindArgs (W.fnOf x qual (bF st) (aQ st) (am st) .none kV doc pm an cdv ct) ⟨[u0,u1],[]⟩=pure (List.zip [p0,p1] [u0,u1]):=by intros;rfl):Fm K mg x qual st a d [p0,p1]:=⟨F.f,W.mg_of X G F.m,F.f.b2 hb⟩
theorem Fun.b3 {p0 p1 p2:Str} (F:Fun K x qual st a d) (hb:∀ (kV doc pm:Value) (an:Option Addr) (cdv ct u0 u1 u2:Value),bindArgs (W.fnOf x qual (bF st) (aQ st) (am st) .none kV doc pm an cdv ct) ⟨[u0,u1,u2],[]⟩=pure (List.zip [p0,p1,p2] [u0,u1,u2]):=by intros;rfl):bA K d [p0,p1,p2] []:=F.binds fun kV doc pm an cdv ct us hl=>by
 obtain ⟨u0,u1,u2,rfl⟩:=L2.yC hl
 exact hb kV doc pm an cdv ct u0 u1 u2
theorem Fa.fm3 {p0 p1 p2:Str} (F:Fa K x qual st a d) (X:K.In h) (G:h.Ns mainGlobals mg) (hb:∀ (kV doc pm:Value) (an:Option Addr) (cdv ct u0 u1 u2:Value),bindArgs (W.fnOf x qual (bF st) (aQ st) (am st) .none kV doc pm an cdv ct) ⟨[u0,u1,u2],[]⟩=pure (List.zip [p0,p1,p2] [u0,u1,u2]):=by intros;rfl):Fm K mg x qual st a d [p0,p1,p2]:=⟨F.f,W.mg_of X G F.m,F.f.b3 hb⟩
theorem Fun.b4 {p0 p1 p2 p3:Str} (F:Fun K x qual st a d) (hb:∀ (kV doc pm:Value) (an:Option Addr) (cdv ct u0 u1 u2 u3:Value),bindArgs (W.fnOf x qual (bF st) (aQ st) (am st) .none kV doc pm an cdv ct) ⟨[u0,u1,u2,u3],[]⟩=pure (List.zip [p0,p1,p2,p3] [u0,u1,u2,u3]):=by intros;rfl):bA K d [p0,p1,p2,p3] []:=F.binds fun kV doc pm an cdv ct us hl=>by
 obtain ⟨u0,u1,u2,u3,rfl⟩:=L2.yw hl
 exact hb kV doc pm an cdv ct u0 u1 u2 u3
theorem Fa.fm4 {p0 p1 p2 p3:Str} (F:Fa K x qual st a d) (X:K.In h) (G:h.Ns mainGlobals mg) (hb:∀ (kV doc pm:Value) (an:Option Addr) (cdv ct u0 u1 u2 u3:Value),bindArgs (W.fnOf x qual (bF st) (aQ st) (am st) .none kV doc pm an cdv ct) ⟨[u0,u1,u2,u3],[]⟩=pure (List.zip [p0,p1,p2,p3] [u0,u1,u2,u3]):=by intros;rfl):Fm K mg x qual st a d [p0,p1,p2,p3]:=⟨F.f,W.mg_of X G F.m,F.f.b4 hb⟩
theorem Fun.b5 {p0 p1 p2 p3 p4:Str} (F:Fun K x qual st a d) (hb:∀ (kV doc pm:Value) (an:Option Addr) (cdv ct u0 u1 u2 u3 u4:Value),bindArgs (W.fnOf x qual (bF st) (aQ st) (am st) .none kV doc pm an cdv ct) ⟨[u0,u1,u2,u3,u4],[]⟩=pure (List.zip [p0,p1,p2,p3,p4] [u0,u1,u2,u3,u4]):=by intros;rfl):bA K d [p0,p1,p2,p3,p4] []:=F.binds fun kV doc pm an cdv ct us hl=>by
 obtain ⟨u0,u1,u2,u3,u4,rfl⟩:=L2.xC hl
 exact hb kV doc pm an cdv ct u0 u1 u2 u3 u4
theorem Fa.fm5 {p0 p1 p2 p3 p4:Str} (F:Fa K x qual st a d) (X:K.In h) (G:h.Ns mainGlobals mg) (hb:∀ (kV doc pm:Value) (an:Option Addr) (cdv ct u0 u1 u2 u3 u4:Value),bindArgs (W.fnOf x qual (bF st) (aQ st) (am st) .none kV doc pm an cdv ct) ⟨[u0,u1,u2,u3,u4],[]⟩=pure (List.zip [p0,p1,p2,p3,p4] [u0,u1,u2,u3,u4]):=by intros;rfl):Fm K mg x qual st a d [p0,p1,p2,p3,p4]:=⟨F.f,W.mg_of X G F.m,F.f.b5 hb⟩
theorem Fun.b6 {p0 p1 p2 p3 p4 p5:Str} (F:Fun K x qual st a d) (hb:∀ (kV doc pm:Value) (an:Option Addr) (cdv ct u0 u1 u2 u3 u4 u5:Value),bindArgs (W.fnOf x qual (bF st) (aQ st) (am st) .none kV doc pm an cdv ct) ⟨[u0,u1,u2,u3,u4,u5],[]⟩=pure (List.zip [p0,p1,p2,p3,p4,p5] [u0,u1,u2,u3,u4,u5]):=by intros;rfl):bA K d [p0,p1,p2,p3,p4,p5] []:=F.binds fun kV doc pm an cdv ct us hl=>by
 obtain ⟨u0,u1,u2,u3,u4,u5,rfl⟩:=L2.Es hl
 exact hb kV doc pm an cdv ct u0 u1 u2 u3 u4 u5
theorem Fa.fm6 {p0 p1 p2 p3 p4 p5:Str} (F:Fa K x qual st a d) (X:K.In h) (G:h.Ns mainGlobals mg) (hb:∀ (kV doc pm:Value) (an:Option Addr) (cdv ct u0 u1 u2 u3 u4 u5:Value),bindArgs (W.fnOf x qual (bF st) (aQ st) (am st) .none kV doc pm an cdv ct) ⟨[u0,u1,u2,u3,u4,u5],[]⟩=pure (List.zip [p0,p1,p2,p3,p4,p5] [u0,u1,u2,u3,u4,u5]):=by intros;rfl):Fm K mg x qual st a d [p0,p1,p2,p3,p4,p5]:=⟨F.f,W.mg_of X G F.m,F.f.b6 hb⟩
theorem Fun.okS {CX:CXT} {N:List Str} {k:Nat} {sp:Sp} {t:TS} (F:Fun K x qual st a d) (S:aB N ps (am st)) (len:∀ vs H Q E,sp vs H Q E→vs.length=ps.length)
  (hrd:∀ (vs:List V) (H:Hp) (Q:VK) (E:XK),sp vs H Q E→t { nx:=fun _ H'=>Q .non H',rt:=Q } (start N vs) H)
  (hq:∀ (cdv:Value) (A:Around) (outer:List Env) (s:Shared) (H:Hp) (E:XK),bh k (A.deeper (envOfC qual (am st) s.heap.objs.size a cdv))→QSs (cI CX P w K mg base N qual (am st) a cdv A outer s H E).nox (aQ st) t):aN P w K mg base CX (k+1) a d ps sp:=
 F.okN S len fun cdv A outer s H vs Q E hr h=>⟨t,(hq cdv A outer s H E hr).out,hrd vs H Q E h⟩
end
section
variable {X:Cx} {x q:Str} {e:Expr} {es:List Expr} {t:TA} {p pos:Pos} {st:Stmt} {f:Addr} {fd:FuncData} {ps:List Str} {k:Nat} {sp:Sp}
theorem aM {P:Program} {w:World} (F:aN X.prog X.w X.K X.mg X.base (CX1 P w) k f fd ps sp) (hr:bh k X.A) (M:Fm X.K X.mg x q st f fd ps)
 (ha:QA X (e::es) t) (hg:Gl X x:=by rfl) (hdb:(x==("__debug__" :Str))=false:=by decide) (hs:bj (e::es)=true:=by rfl):QE X (.Call (.Name x p) (e::es) [] pos) (au sp (fun _=>E0) t):=hU F hr M.m M.f.kp M.b bq ha hg hdb hs
end
end L2
namespace L2
open PySem PySem.Spec PyProof.Rows
section
variable {X:Cx}
end
end L2
namespace L2
open PySem PySem.Spec PyProof.Rows
section
variable {K:W.Frag} {mg:Str→Option Value} {h:Heap} {x qual:Str} {st:Stmt} {a:Addr} {d:FuncData}
end
end L2
namespace L2
open PySem PySem.Spec PyProof.Rows
def pN (ks:jc) (C:Addr) (m:Str) (E:St→XK) (ta:TE) (t:TA):TE:=fun σ H Q=>ta σ H fun x H1=>∃ a dx fs f,x=.ref a∧H1 a=some (.ins C dx fs)∧fs.lookup m=some (.ref f)∧(∃ ts∈ks,∃ cs cvs,dv H1 f ts.1 cs cvs)∧t σ H1 fun vs H2=>iL ks f vs H2 Q (E σ)
section
variable {X:Cx} {pins:List (Addr×Obj)} {σ:St} {H:Hp} {s:Shared} {A:Around} {E:Value→Shared→Prop} {a C dx:Addr} {fs:List (Str×V)} {v:V}
theorem tD {m:Str} {pl:Sem Bool} {Q:Value×List Value→Shared→Prop} (I:Inv X pins σ H s) (e:H a=some (.ins C dx fs)) (c:Cls X.K C) (n:dB X.K C m) (l:fs.lookup m=some v)
  (h:∀ u s',Inv X pins σ H s'→aX v u→Q (u,[]) s'):wpAny (model X.prog X.w) A (getMethod (.ref a) m pl) Q E s:=by
 obtain ⟨mA,O,r,_,_,_⟩:=ie I.hok e
 obtain ⟨od,J,hl⟩:=O.look
 exact W.method_usual (r:=none) I.kIn J (W.plainGet_of (c.get m)).1 (W.plainGet_of (c.get m)).2 n rfl (li I e c n l h)
end
section
variable {X:Cx} {k:Nat} {C:Addr} {E:St→XK} {m:Str} {pos apos:Pos} {e o:Expr} {es:List Expr} {ta:TE} {t:TA}
theorem qQ {pl : Sem Bool} {ks : jc} (hk : md X.prog X.w X.K X.mg X.base k ks) (hr : bh k X.A) (hx : dI (CX1 X.prog X.w) X E) (he : QE X o ta) (c : Cls X.K C) (n : dB X.K C m) (ha : QA X (e :: es) t)
    (hs : bj (e :: es) = true := by rfl)
    (ht : eval (.Call (.Attribute o m apos) (e :: es) [] pos) X.env = (do
      let ov ← eval o X.env
      standAt apos.atName
      let (f, first) ← holding [ov] (getMethod ov m pl)
      callWith pos f first (backTo pos (starEach (e :: es) X.env)) (backToKw pos (keywordEach [] X.env))) := by rfl) :
    QE X (.Call (.Attribute o m apos) (e :: es) [] pos) (pN ks C m E ta t) := ⟨fun pins s σ H Q I h => by
  have h' : (bM e && bj es) = true := hs
  refine W.methodCall_KW (pl := pl) (thn (he.out pins s σ H _ I h) fun u s1 ⟨x, H1, I1, rx, a, dx, fs, f, ex, ea, l, ⟨ts, hts, cs, cvs, ca⟩, q⟩ => ?_) ht
  subst ex
  obtain rfl : u = Value.ref a := rx
  refine tD I1 ea c n l fun w s2 I2 rw2 => ?_
  obtain rfl : w = Value.ref f := rw2
  refine W.callWith_F (lu I2.hok ca) (thn (ha.out pos pins s2 σ H1 _ I2 q) fun us s3 ⟨vs, H2, I3, rv, ts2, hm2, cs2, cvs2, ca2, hl, hsp⟩ => ⟨lu I3.hok ca2, ?_⟩)
    (bc (Bool.and_eq_true_iff.mp h').1 es X.env) (bT (Bool.and_eq_true_iff.mp h').2)
  refine wpAny_call (codeAny_mono ((hk ts2 hm2).run X.A X.stack s3 H2 f cs2 us vs cvs2 Q (E σ) hr I3.env0 ca2 rv hl hsp) fun r s' hq => ?_)
  cases r with
  | error e => exact hx pins σ H2 s3 e s' I3 hq
  | ok fl =>
    cases fl with
    | ret u => exact I3.after hq
    | next => exact False.elim hq
    | brk => exact False.elim hq
    | cont => exact False.elim hq⟩
end
end L2
namespace HT
open PySem PyProof.Rows
theorem tJ:typeLookup (.type "list_reverseiterator") "__len__" =pure none:=by rw [typeLookup_type,builtinLookup_eq_fast];kernel_rfl
theorem vZ:typeLookup (.type "list_reverseiterator") "__length_hint__" =pure (some (.builtin "list_reverseiterator.__length_hint__")):=by rw [typeLookup_type,builtinLookup_eq_fast];kernel_rfl
section
variable {prog:Program} {w:World} {A:Around} {s:Shared} {R:Result→Shared→Prop}
variable {I:Addr} {fp wr:List Addr} {G:Array GenState→Array GenState→Prop} {n:Nat} {P:Nat→Value→Prop} {St:Nat→Shared→Prop}
theorem sD (W:WalksS prog w A.in1 I fp wr G n P St) (hT:∀ i s,St i s→s.TypeIs (.ref I) "list_reverseiterator") (S:Addr) (res:Value) (c₀:Nat) (hst:St 0 s) (hSf:S∉fp) (hI:I∈fp)
  (hS:s.heap.get? S=some { cls:=.type "list",data:=.seq #[] c₀ })
  (hR:∀ s' acc' c',Moved (S::wr) G s s'→s'.heap.get? S=some { cls:=.type "list",dict:=none,data:=.seq acc' c',slots:=#[] }→ItemsOf P acc' n→R (.ok (.ret res)) s') (hn:n≤sizeLine):
  wpAny (model prog w) A.in1 (Builtin.List.listExtendWith (.ref S) (.ref I) res)
   (fun fin s'=>match fin with | .done f=>R (.ok f) s' | .again c'=>c'.quiet=true∧codeAny (model prog w) A c' R s') (fun e s'=>R (.error e) s') s:=by
 have hSI:S≠I:=fun e=>hSf (e▸hI)
 have h1:Builtin.List.listSameRef (.ref S) (.ref I)=false:=by simp [Builtin.List.listSameRef,hSI]
 unfold Builtin.List.listExtendWith
 refine wpAny_bind (wpAny_typeOf (hT 0 _ hst) ?_)
 rw [if_neg (by rw [h1];decide)]
 refine wpAny_bind (W.self 0 _ _ _ hst ?_)
 refine wpAny_bind (wpAny_holding ?_)
 unfold Builtin.List.listLengthHint
 refine wpAny_bind (wpAny_specialOf (hT 0 _ hst) tJ ?_)
 show wpAny _ A.in1 (specialOf (Value.ref I) (Str.ofString "__length_hint__")>>=_) _ _ _
 refine wpAny_bind (wpAny_specialOf (hT 0 _ hst) vZ ?_)
 generalize hid:("list_reverseiterator.__length_hint__" :String)=id0
 wp_delta
 rw [show splitId id0=some ("list_reverseiterator", "__length_hint__") from by subst hid;decide +kernel]
 subst hid
 refine wpAny_bind (wpAny_isInstance (b:=true) (hT 0 _ hst) (by rw [isSubtype_type];kernel_rfl) ?_)
 refine wpAny_pure ?_
 rw [if_neg (by decide)]
 exact wpAny_pure ⟨plainId_quiet F.plain_extend_loop _,codeAny_extend_loopS W hn _ hSf _ n 0 _ _ _ rfl (Nat.zero_le _) hst hS (ItemsOf.nil P) fun s' acc' c' hm hS' hacc=>hR s' acc' c' hm hS' hacc⟩
theorem nI (W:WalksS prog w A.in1 I fp wr G n P St) (hT:∀ i s,St i s→s.TypeIs (.ref I) "list_reverseiterator") (S:Addr) (hst:St 0 s) (hSf:S∉fp) (hI:I∈fp)
  (hS:s.heap.get? S=some { cls:=.type "list",data:=.seq #[] })
  (hR:∀ s' acc' c',Moved (S::wr) G s s'→s'.heap.get? S=some { cls:=.type "list",dict:=none,data:=.seq acc' c',slots:=#[] }→ItemsOf P acc' n→R (.ok (.ret .none)) s') (hn:n≤sizeLine):
  wpAny (model prog w) A.in1 (Builtin.«list.__init__» ⟨[.ref S,.ref I],[]⟩)
   (fun fin s'=>match fin with | .done f=>R (.ok f) s' | .again c'=>c'.quiet=true∧codeAny (model prog w) A c' R s') (fun e s'=>R (.error e) s') s:=by
 show wpAny _ A.in1 (do let old←Builtin.List.listItems (.ref S);Builtin.List.listUpdate (.ref S) (fun _=>#[]);letGo old.toList.reverse;Builtin.List.listExtendWith (.ref S) (.ref I) .none) _ _ s
 refine wpAny_bind ?_
 unfold Builtin.List.listItems
 refine wpAny_bind (wpAny_seqItems hS rfl (wpAny_pure ?_))
 show wpAny _ A.in1 (updateSeq S (fun _=>#[])>>=fun _=>letGo (#[]:Array Value).toList.reverse>>=fun _=>Builtin.List.listExtendWith (.ref S) (.ref I) .none) _ _ s
 refine wpAny_bind (wpAny_updateSeq hS rfl ?_)
 have hS₂:=Heap.get?_update_self (Obj.mapSeq (fun _=>(#[]:Array Value))) hS rfl
 have oth:∀ b o,b≠S→s.heap.get? b=some o→(s.heap.update S (Obj.mapSeq (fun _=>(#[]:Array Value)))).get? b=some o:=
  fun b o hb e=>(Heap.get?_update_other _ _ (Ne.symm hb)).trans e
 refine wpAny_bind (wpAny_letGo ?_)
 refine sD (hn:=hn) W hT S .none _ (W.frame 0 s _ s.toks hst (Nat.le_refl _) fun b hb o e=>oth b o (fun h=>hSf (h▸hb)) e) hSf hI hS₂ fun s' acc' c' hm hS' hacc=>?_
 exact hR s' acc' c' (Moved.trans W.gtrans ((Moved.refl W.grefl).then_heap (Nat.le_refl _) fun b o hb e=>oth b o (fun h=>hb (h▸List.mem_cons_self)) e) hm) hS' hacc
end
section
variable {prog:Program} {w:World} {A:Around} {E:Value→Shared→Prop} {s:Shared}
variable {I:Addr} {fp wr:List Addr} {G:Array GenState→Array GenState→Prop} {n:Nat} {P:Nat→Value→Prop} {St:Nat→Shared→Prop}
theorem nM {Q : Value → Shared → Prop} (W : WalksS prog w A.in1.in1 I fp wr G n P St) (hT : ∀ i s, St i s → s.TypeIs (.ref I) "list_reverseiterator") (hst : St 0 s) (hfp : ∀ b ∈ fp, b < s.heap.objs.size) (hI : I ∈ fp)
  (hQ : ∀ s' acc' c', Moved (s.heap.objs.size :: wr) G { s with heap := s.heap.push { cls := .type "list", data := .seq #[] } } s' →
   s'.heap.get? s.heap.objs.size = some { cls := .type "list", dict := none, data := .seq acc' c', slots := #[] } → ItemsOf P acc' n → Q (.ref s.heap.objs.size) s') (hn : n ≤ sizeLine) :
  wpAny (model prog w) A (call (.type "list") [.ref I]) Q E s := by
 have hSf : s.heap.objs.size ∉ fp := fun hm => Nat.lt_irrefl _ (hfp _ hm)
 refine callType_codes (Q₁ := fun obj s₁ => obj = .ref s.heap.objs.size ∧ s₁ = { s with heap := s.heap.push { cls := .type "list", data := .seq #[] } }) F.called_list (F.typeCall_list_1 _) F.entry_list_init
  (code_list_new _ ⟨rfl, rfl⟩) fun obj s₁ h₁ => ?_
 obtain ⟨rfl, rfl⟩ := h₁
 have hS : (s.heap.push { cls := .type "list", data := .seq #[] }).get? s.heap.objs.size = some { cls := .type "list", data := .seq #[] } := Heap.get?_push_size _ rfl
 refine ⟨⟨_, hS, rfl⟩, F.args_list_init_2 _ _, nI (hn := hn) W hT _ (W.frame 0 s _ s.toks hst (Nat.le_refl _) fun b _ o e => Heap.get?_push_of_some _ e) hSf hI hS fun s' acc' c' hm hS' hacc => ?_⟩
 exact ⟨rfl, hQ s' acc' c' hm hS' hacc⟩
end
end HT
namespace L2
open PySem PySem.Spec PyProof.Rows
def pW (K:W.Frag):List V→Hp→VK→Prop:=fun xs H Q=>∃ c ys,xs=[.ref c]∧SqL K H c ys∧∀ l,H l=none→Q (.ref l) (upd H l (.lst ys.reverse))
section
variable {X:Cx} {pins:List (Addr×Obj)} {σ:St} {H:Hp} {s:Shared}
theorem uX {Q:VK} {c:Addr} {ys:List V} (hc:X.calm=true) (I:Inv X pins σ H s) (hq:SqL X.K H c ys) (q:∀ l,H l=none→Q (.ref l) (upd H l (.lst ys.reverse))):
   wpAny (model X.prog X.w) X.A (call (.type "reversed") [.ref c]) (fun u s2=>wpAny (model X.prog X.w) X.A (call (.type "list") [u]) (EP X pins σ Q) X.xe s2) X.xe s:=by
 obtain ⟨its,r',pl,hz⟩:=I.list hq
 have hlen:=r'.length
 have hl:=pl.isList
 refine call_reversed_list hl ?_
 have hcs:c<s.heap.objs.size:=by obtain ⟨o,ho,_⟩:=hl;exact Heap.lt_size ho
 have hne:c≠s.heap.objs.size:=Nat.ne_of_lt hcs
 have W:=(Walks.listRev (prog:=X.prog) (w:=X.w) (A:=X.A.in1.in1) (I.ok.hd hc) s.heap.objs.size c hne its.toArray).toS
 have hl2:(s.heap.push (revObj c ((its.toArray.size:Int) - 1))).IsList c its.toArray:=hl.at fun o e=>Heap.get?_push_of_some _ e
 have hz':its.toArray.size≤sizeLine:=by rw [List.size_toArray];omega
 have hsz:(s.heap.push (revObj c ((its.toArray.size:Int) - 1))).objs.size=s.heap.objs.size+1:=Heap.size_push _ _
 refine HT.nM (s:={ s with heap:=s.heap.push (revObj c ((its.toArray.size:Int) - 1)) }) W (fun i s3 st=>st.2.1.typeIs) ⟨Nat.zero_le _,⟨_,Heap.get?_push_size _ rfl,rfl,by show Data.fields _=Data.fields _;simp⟩,hl2⟩ (fun b hb=>?_) (by simp) (fun s' acc' c' hm hS' hacc=>?_) hz'
 · show b<(s.heap.push _).objs.size
   rw [hsz]
   rcases List.mem_cons.mp hb with z | z
   · rw [z];exact Nat.lt_succ_self _
   · rw [List.mem_singleton.mp z];exact Nat.lt_succ_of_lt hcs
 · have e1:acc'.toList=its.reverse:=by
     refine List.ext_getElem? fun j=>?_
     by_cases hj:j<its.length
     · have hj2:j<acc'.size:=by rw [hacc.1,List.size_toArray];exact hj
       have ea:acc'[j]?=some acc'[j]:=Array.getElem?_eq_getElem hj2
       have hp:its.toArray[its.toArray.size - 1 - j]?=some acc'[j]:=hacc.2 j _ ea
       rw [Array.getElem?_toList,ea,List.getElem?_reverse hj,←hp]
       simp
     · rw [List.getElem?_eq_none (by rw [Array.length_toList,hacc.1,List.size_toArray];omega),List.getElem?_eq_none (by simp;omega)]
   have hw:∀ b o,s.heap.get? b=some o→s'.heap.get? b=some o:=fun b o e=>by
     have hb:=Heap.lt_size e
     refine hm.heap b o (fun z=>?_) (Heap.get?_push_of_some _ (Heap.get?_push_of_some _ e))
     rcases List.mem_cons.mp z with z | z
     · have z:b=(s.heap.push (revObj c ((its.toArray.size:Int) - 1))).objs.size:=z
       rw [hsz] at z
       rw [z] at hb
       exact Nat.lt_irrefl _ (Nat.lt_trans (Nat.lt_succ_self _) hb)
     · rw [List.mem_singleton.mp z] at hb
       exact Nat.lt_irrefl _ hb
   have es:s'={ s with heap:=s'.heap,toks:=s'.toks }:=by
     have h1:=hm.gens
     have h2:=hm.drawn
     have h3:=hm.os
     cases s'
     cases h1;cases h2;cases h3
     rfl
   have hS2:s'.heap.get? (s.heap.objs.size+1)=some { cls:=.type "list",dict:=none,data:=.seq its.reverse.toArray c',slots:=#[] }:=by
     rw [← hsz,hS',←e1]
   have new:ba X.prog X.w (upd H (s.heap.objs.size+1) (.lst ys.reverse)) s'.heap (s.heap.objs.size+1) (.lst ys.reverse):=⟨by rw [List.length_reverse];exact hz,its.reverse,c',r'.reverse,hS2⟩
   refine ⟨.ref (s.heap.objs.size+1),upd H (s.heap.objs.size+1) (.lst ys.reverse),?_,?_,q _ (I.hok.fresh (Nat.le_succ _))⟩
   · rw [es];exact I.laid hw (Nat.le_succ _) new
   · show Value.ref _=Value.ref _
     rw [hsz]
end
section
variable {X:Cx} {a:Expr} {t:TA} {p1 p2 pos1 pos2:Pos}
theorem zA:bootBuiltins "list" =some (.type "list"):=by decide +kernel
theorem uf (hm1:X.mg "list" =none) (hm2:X.mg "reversed" =none) (hc:X.calm=true) (ha:QA X [a] t) (hg1:Gl X "list" :=by rfl) (hg2:Gl X "reversed" :=by rfl) (hs:bj [a]=true:=by rfl):
  QE X (.Call (.Name "list" p1) [.Call (.Name "reversed" p2) [a] [] pos2] [] pos1) (tCB (pW X.K) t):=⟨fun pins s σ H Q I h=>by
 have h':(bM a&&bj [])=true:=hs
 refine wpAny_Call_Name_kw (gs I hg1 hm1 zA ?_ (by decide) (by decide))
 refine PyProof.Rows.callWith_type1 ?_ rfl rfl
 show wpAny _ _ (spliced ((false,eval (.Call (.Name "reversed" p2) [a] [] pos2) X.env)::backTo pos1 (starEach [] X.env))) _ _ s
 refine Calls.spliced_cons ?_
 refine wpAny_Call_Name_kw (gs I hg2 hm2 qm ?_ (by decide) (by decide))
 refine PyProof.Rows.callWith_type1 (thn (ha.out pos2 pins s σ H _ I h) fun us s1 ⟨vs,H1,I1,r1,q1⟩=>?_)
  (bc (Bool.and_eq_true_iff.mp h').1 [] X.env) (bT (Bool.and_eq_true_iff.mp h').2)
 obtain ⟨c,ys,rfl,hq,q⟩:=q1
 obtain ⟨u,rfl,ru⟩:=fD r1
 cases ru
 refine wpAny_mono (uX hc I1 hq q) (fun u s2 z=>?_) fun _ _ z=>z
 exact Calls.spliced_nil z⟩
end
end L2
namespace L2
open PySem PySem.Spec PyProof.Rows
section
variable {X:Cx} {tg:Expr}
end
section
variable {X:Cx} {a b:Expr} {t:TA} {p pos ep:Pos} {elts:List Expr} {ek:Nat}
end
end L2
namespace HT
open PySem PyProof.Rows
section
variable {prog:Program} {w:World} {A:Around} {E:Value→Shared→Prop} {s:Shared}
end
section
variable {prog:Program} {w:World} {A:Around} {s:Shared} {R:Result→Shared→Prop} {xs ys:Array Value}
end
end HT
namespace HT
open PySem PyProof.Rows
section
variable {prog:Program} {w:World} {A:Around} {s:Shared} {R:Result→Shared→Prop} {xs ys:Array Value} {z TI TO i1 i2 l t S:Addr}
end
section
variable {prog:Program} {w:World} {A:Around} {E:Value→Shared→Prop} {s:Shared} {xs ys:Array Value} {z TI TO i1 i2 l t:Addr}
end
end HT
namespace L2
open PySem PySem.Spec PyProof.Rows
section
variable {X:Cx} {pins:List (Addr×Obj)} {σ:St} {H:Hp} {s:Shared} {h':Heap}
end
section
variable {X:Cx} {a b:Expr} {t:TA} {p1 p2 pos1 pos2:Pos}
end
section
variable {X:Cx} {a:Expr} {t:TA} {p pos:Pos} {tg:Expr}
end
end L2
namespace HT
open PySem PySem.W PyProof.Rows
abbrev kA (C t:Addr) (d:Option Addr):Obj:={ cls:=.ref C,dict:=d,data:=.fields #[.ref t,.none,.none,.none,.bool false,.none] }
abbrev gO (h:Heap) (C:Addr) (us:List Value):Heap:=(h.push { cls:=.type "tuple",data:=.seq us.toArray }).push (kA C h.objs.size none)
section
variable {prog:Program} {w:World} {A:Around} {K:Frag} {C f:Addr} {R:Result→Shared→Prop} {h:Heap} {g:Array GenState} {d:Drawn} {t:Nat} {os:OsState}
theorem xa {us:List Value} (X:K.In h) (hC:L2.bV K C) (hi:findIn K (.ref C) "__init__" =some (some (.ref f))) (hf:typeIn K (.ref f)=some (.type "function")) (hus:us.length≤sizeLine)
  (hq:codeAny (model prog w) (A.under (.builtin "type.__call__" ⟨.ref C::us,[]⟩)) (.call (.ref f) ⟨.ref (h.objs.size+1)::us,[]⟩) (InitBack (h.objs.size+1) R) ⟨gO h C us,g,d,t,os⟩):
  codeAny (model prog w) A (.call (.ref C) ⟨us,[]⟩) R ⟨h,g,d,t,os⟩:=by
 obtain ⟨bm,N,nm,qn,bs,hdct,sn,sub,ab,col,dd,k0,k1,k2,k3,k5,mN,oC,hN,_,T,_⟩:=L2.eO X hC
 have f1:=tc_lookup
 have f2:=tc_bind (.ref C)
 have hT:(⟨h,g,d,t,os⟩:Shared).TypeIs (.ref C) "type" :=⟨_,oC,rfl⟩
 have FB:=F.excBase_ValueError
 have hBn:(L2.veM).contains (.type "ValueError")=true:=by decide +kernel
 refine codeAny_of_tree ?_
 show wpAny _ _ (callAny (.ref C) _) _ _ _
 repeat (any_goals (first | assumption | with_reducible refine wpAny_loadPart_at oC ?_ | wp_step))
 refine ⟨rfl,?_⟩
 refine codeAny_call_builtin_at (Code.quiet_builtin _ (by decide +kernel)) entry_typeCall (wpAny_check_type_call_sub oC ?_)
 repeat (first | with_reducible refine wpAny_loadPart_at oC ?_ | with_reducible refine wpAny_madeBy_exc oC ?_ | wp_step)
 refine codeAny_call_builtin_code (Code.quiet_builtin _ FB.quiet) (wpAny_check_new_subU FB hBn T oC ?_)
 refine codeAny_exc_new_subU FB hBn FB T oC ?_ hus
 show wpAny _ _ _ _ _ _
 have k:∀ b o,h.get? b=some o→(gO h C us).get? b=some o:=fun b o e=>Heap.get?_push_of_some _ (Heap.get?_push_of_some _ e)
 have hx:(gO h C us).get? (h.objs.size+1)=some (kA C h.objs.size none):=by heap_get
 have oC1:=k _ _ oC
 have hcC:(Value.ref C::bm).contains (.ref C)=true:=by simp
 have t1:Looks (model prog w) (gO h C us) (typeOf (.ref (h.objs.size+1))) (.ref C):=(Looks.ld hx).andThen .now
 have i1:=(looks_findIn (M:=model prog w) X hi).keeps k
 have b1:=(bind_fn (M:=model prog w) X (.ref (h.objs.size+1)) hf).keeps k
 unfold isInstance
 repeat (first | with_reducible refine wpAny_loadPart_at hx ?_ | (with_reducible refine wpAny_isSubtype_exc oC1 ?_;rw [hcC]) | wp_step)
 show wpAny _ _ (isSubtype (.ref C) (.ref C)) _ _ ⟨gO h C us,g,d,t,os⟩
 refine wpAny_isSubtype_exc oC1 ?_
 rw [hcC,if_neg (by decide)]
 unfold callSpecial? specialOf
 repeat (first | with_reducible refine wpAny_call ?_ | lk)
 refine codeAny_mono hq fun r s' z=>?_
 rcases r with e | (v | _ | _ | _) <;> first | exact z | exact z.elim | skip
 obtain ⟨rfl,z⟩:=z
 exact wpAny_pure (wpAny_pure z)
end
end HT
namespace HT
open PySem PySem.W PyProof.Rows
open Builtin Builtin.ObjectAttr
theorem qg (self:Value) {h:Heap} {bm:List Value} (T:OwnTail h L2.veM bm):refuseLoop self "__setattr__" bm=pure ():=by
 induction T with
 | base=>exact PySem.F.store_ValueError.passes self
 | own _ _ _ _ ih=>rw [refuseLoop_ref];exact ih
structure gS (K:Frag) (C:Addr) (name:Str):Prop where
 ok:L2.bV K C
 sa:findIn K (.ref C) "__setattr__" =some (some (.builtin "object.__setattr__"))
 eg:L2.cZ K C
 no:findIn K (.ref C) name=some none
 hd:hasDictIn K C=true
section
variable {prog:Program} {w:World} {A:Around} {E:Value→Shared→Prop} {s:Shared} {K:Frag} {x C:Addr} {name:Str} {v:Value}
theorem qK {ox : Obj} {od : Option Obj} {tk : Tok} {R : Result → Shared → Prop} (X : K.In s.heap) (I : InstAt s.heap x ox C od) (G : gS K C name)
  (h : wpAny (model prog w) A.in1 (storeInOwnDict (.ref x) (.ref C) (.str name tk) name v false)
   (fun fin s' => match fin with | .done f => R (.ok f) s' | .again c' => c'.quiet = true ∧ codeAny (model prog w) A c' R s') (fun e s' => R (.error e) s') s) :
  codeAny (model prog w) A (.call (.builtin "object.__setattr__") ⟨[.ref x, .str name tk, v], []⟩) R s := by
 have SF := PySem.F.store_object
 obtain ⟨bm, N, nm, qn, bs, hdct, sn, sub, ab, col, dd, k0, k1, k2, k3, k5, mN, oC, hN, _, T, _⟩ := L2.eO X G.ok
 have hm : Looks (model prog w) s.heap (mroOf (.ref C)) (.ref C :: bm) := ((Looks.ld (part := none) oC).andThen .now).andThen .now
 have hsub : Looks (model prog w) s.heap (isSubtype (.ref C) (.type "object")) true := fun A' Q' E' s' k q => by
  obtain ⟨hh, g, d, t, os⟩ := s'
  refine wpAny_isSubtype_exc (k _ _ oC) ?_
  rw [List.contains_cons, T.hasType (X := "object") (b := true) (by decide +kernel), Bool.or_true]; exact q
 have hsub' : Looks (model prog w) s.heap (isInstance (.ref x) (.type "object")) true := I.type.andThen hsub
 refine codeAny_call_builtin SF.slot.plain SF.entry (@check_slot (model prog w) _ _ s "object.__setattr__" "object" "__setattr__" (.ref x) [.str name tk, v] [] _ SF.kind SF.split hsub' (SF.args (.ref x) (.str name tk) v) ?_)
 rw [osa_eq, refuse_eq]
 refine wpAny_bind (wpAny_bind (I.type.here (wpAny_bind (hm.here ?_))))
 rw [refuseLoop_ref, qg _ T]
 exact wpAny_pure (wpAny_bind (I.type.here (wpAny_bind ((looks_findIn X G.no).here (wpAny_bind (wpAny_pure h))))))
theorem zR {ox:Obj} {dx:Addr} {mA:Str→Option Value} {ns:List Str} {Q:Unit→Shared→Prop} (X:K.In s.heap) (hx:s.heap.get? x=some ox) (hc:ox.cls=.ref C) (hdx:ox.dict=some dx) (hf:∃ vs,ox.data=.fields vs) (hn:s.heap.Ns1 dx mA) (ne:dx≠x) (G:gS K C name)
  (hw:Within mA ns) (hsz:ns.length≤sizeLine) (h:∀ h' t',h'.Ns1 dx (fun y=>if y=name then some v else mA y)→Heap.SameBut dx s.heap h'→Q () { s with heap:=h',toks:=t' }):wpAny (model prog w) A (setAttr (.ref x) name v) Q E s:=by
 obtain ⟨vs,hvs⟩:=hf
 obtain ⟨oc,od,odt,osl⟩:=ox
 dsimp only at hc hdx hvs
 subst hc hdx hvs
 obtain ⟨oD0,esD0,epD0,hoD0,_⟩:=id hn
 have J:InstAt s.heap x _ C (some oD0):=⟨hx,rfl,rfl,hoD0⟩
 refine set_plain X J G.sa (qK (s:={ s with toks:=s.toks+1 }) X J G ?_)
 obtain ⟨cd,hcc,hd'⟩:=any_some G.hd
 refine wpAny_bind (wpAny_pure (wpAny_bind (wpAny_bind (wpAny_loadPart hx (wpAny_bind (Looks.here (s:={ s with toks:=s.toks+1 }) (looks_clsIn X hcc) ?_))))))
 rw [hd']
 refine wpAny_pure (a:=some dx) (wpAny_bind (wpAny_pure (wpAny_bind ?_)))
 refine wpAny_nsSet1 (s:={ s with toks:=s.toks+1 }) hn fun h' hn2 hs2=>?_
 obtain ⟨oD,esD,epD,hoD,hdD,hcD⟩:=hn2.count (Within.cons name v hw)
 refine wpAny_bind (wpAny_lookBehind hoD (by rw [hdD];exact pastItsLine_dict (Nat.le_trans hcD (by rw [List.length_cons];omega))) ?_)
 exact wpAny_pure (h _ _ hn2 hs2)
theorem vv {ox:Obj} {Q:Unit→Shared→Prop} (X:K.In s.heap) (hx:s.heap.get? x=some ox) (hc:ox.cls=.ref C) (hdx:ox.dict=none) (hf:∃ vs,ox.data=.fields vs) (G:gS K C name)
  (h:∀ h' t',h'.get? x=some { ox with dict:=some s.heap.objs.size }→h'.Ns1 s.heap.objs.size (fun y=>if y=name then some v else none)→(∀ b o,b≠x→s.heap.get? b=some o→h'.get? b=some o)→Q () { s with heap:=h',toks:=t' }):
  wpAny (model prog w) A (setAttr (.ref x) name v) Q E s:=by
 obtain ⟨vs,hvs⟩:=hf
 obtain ⟨oc,od,odt,osl⟩:=ox
 dsimp only at hc hdx hvs
 subst hc hdx hvs
 have J:InstAt s.heap x _ C none:=⟨hx,rfl,rfl,trivial⟩
 refine set_plain X J G.sa (qK (s:={ s with toks:=s.toks+1 }) X J G ?_)
 obtain ⟨cd,hcc,hd'⟩:=any_some G.hd
 refine wpAny_bind (wpAny_pure (wpAny_bind (wpAny_bind (wpAny_loadPart hx (wpAny_bind (Looks.here (s:={ s with toks:=s.toks+1 }) (looks_clsIn X hcc) ?_))))))
 rw [hd']
 show wpAny _ _ (alloc { cls:=.type "dict",data:=.dict #[] }>>=fun d=>update x (fun o=>{ o with dict:=some d })>>=fun _=>pure (some d)) _ _ _
 have xs:x≠s.heap.objs.size:=Nat.ne_of_lt (Heap.lt_size hx)
 have hx1:(s.heap.push { cls:=.type "dict",data:=.dict #[] }).get? x=some _:=Heap.get?_push_of_some _ hx
 refine wpAny_bind (wpAny_alloc' (wpAny_bind (wpAny_update' hx1 (wpAny_pure ?_))))
 generalize hh2:((s.heap.push { cls:=.type "dict",data:=.dict #[] }).update x fun o=>{ o with dict:=some s.heap.objs.size })=h2
 have hx2:h2.get? x=some ⟨.ref C,some s.heap.objs.size,.fields vs,osl⟩:=by rw [← hh2];exact Heap.get?_update_self _ hx1 rfl
 have hd2:h2.get? s.heap.objs.size=some { cls:=.type "dict",data:=.dict #[] }:=by rw [← hh2];exact (Heap.get?_update_ne _ _ _ _ xs.symm).trans (Heap.get?_push_at rfl rfl)
 have k2:∀ b o,b≠x→s.heap.get? b=some o→h2.get? b=some o:=fun b o nb e=>by rw [← hh2];exact (Heap.get?_update_ne _ _ _ _ nb).trans (Heap.get?_push_of_some _ e)
 have n2:h2.Ns s.heap.objs.size (fun _=>none):=⟨_,#[],_,hd2,rfl,fun e he=>absurd he (by simp),fun _=>rfl⟩
 show wpAny _ _ (storeInDict s.heap.objs.size (.str name s.toks) name v) _ _ { s with heap:=h2,toks:=s.toks+1 }
 unfold storeInDict newKeyGuard
 refine wpAny_bind (wpAny_pure (wpAny_bind (wpAny_nsSet1 (s:={ s with heap:=h2,toks:=s.toks+1 }) (Heap.Ns1.of_empty n2) fun h' hn' hs=>?_)))
 obtain ⟨oD,esD,epD,hoD,hdD,hcD⟩:=hn'.count (Within.cons name v Within.nil)
 refine wpAny_bind (wpAny_lookBehind hoD (by rw [hdD];exact pastItsLine_dict (Nat.le_trans hcD (by rw [List.length_cons,List.length_nil,sizeLine_eq];omega))) ?_)
 exact wpAny_pure (h _ _ ((hs.2 x xs).trans hx2) hn' fun b o nb e=>(hs.2 b (Nat.ne_of_lt (Heap.lt_size e))).trans (k2 b o nb e))
end
end HT
namespace HT
open PySem PySem.W PyProof.Rows
open Builtin Builtin.ObjectAttr
section
variable {prog:Program} {w:World} {A:Around} {E:Value→Shared→Prop} {h:Heap} {g:Array GenState} {d:Drawn} {t:Nat} {os:OsState} {K:Frag} {a C:Addr} {o:Obj} {od:Option Obj} {name:Str} {v:Value}
end
end HT
namespace L2
open PySem PySem.Spec PyProof.Rows
def fq (C a:Addr) (d:Option Addr):HO:=.ext fun h=>∃ t,h.get? a=some (HT.kA C t d)
theorem rf {P:Program} {w:World} {H:Hp} {h:Heap} {C a t:Addr} {d:Option Addr} (e:h.get? a=some (HT.kA C t d)):ba P w H h a (fq C a d):=⟨⟨t,e⟩,⟨_,e⟩,fun h1 h2 ⟨t1,e1⟩ k=>⟨t1,k _ e1⟩⟩
theorem mG {P:Program} {w:World} {H:Hp} {h:Heap} {C a:Addr} {d:Option Addr} (x:ba P w H h a (fq C a d)):∃ t,h.get? a=some (HT.kA C t d):=x.1
def kW (fs:List (Str×V)) (dx:Addr):HO:=.ext fun h=>∃ mA,h.Ns1 dx mA∧∀ f,cB (fs.lookup f) (mA f)
theorem qI {P:Program} {w:World} {H:Hp} {h:Heap} {dx:Addr} {fs:List (Str×V)} {mA:Str→Option Value} (n:h.Ns1 dx mA) (r:∀ f,cB (fs.lookup f) (mA f)):ba P w H h dx (kW fs dx):=by
 refine ⟨⟨mA,n,r⟩,?_,fun h1 h2 ⟨m1,n1,r1⟩ k=>⟨m1,?_,r1⟩⟩
 · obtain ⟨o,es,ep,e,_⟩:=n
   exact ⟨o,e⟩
 · obtain ⟨o,es,ep,e,c⟩:=n1
   exact ⟨o,es,ep,k _ e,c⟩
theorem zN {P:Program} {w:World} {H:Hp} {h:Heap} {dx:Addr} {fs:List (Str×V)} (x:ba P w H h dx (kW fs dx)):∃ mA,h.Ns1 dx mA∧∀ f,cB (fs.lookup f) (mA f):=x.1
theorem ql {fs : List (Str × V)} {mA : Str → Option Value} (r : ∀ f, cB (fs.lookup f) (mA f)) : PySem.Within mA (fs.map (·.1)) := fun y h => by
  have ry := r y
  cases e : fs.lookup y with
  | none =>
    rw [e] at ry
    cases q : mA y with
    | none => exact absurd q h
    | some u => rw [q] at ry; exact ry.elim
  | some v =>
    have : ∀ (l : List (Str × V)), l.lookup y = some v → y ∈ l.map (·.1) := by
      intro l
      induction l with
      | nil => intro z; cases z
      | cons p l ih =>
        intro z
        obtain ⟨k, x⟩ := p
        rw [List.lookup_cons] at z
        by_cases hk : (y == k) = true
        · rw [List.map_cons]; exact List.mem_cons.mpr (.inl (beq_iff_eq.mp hk))
        · rw [Bool.not_eq_true] at hk
          rw [hk] at z
          exact List.mem_cons_of_mem _ (ih z)
    exact this fs e
def rJ (K : W.Frag) (C : Addr) (ta tv : TE) (f : Str) : TS := fun D σ H => tv σ H fun y H1 => ta σ H1 fun x H2 => ∃ a, x = .ref a ∧ HT.gS K C f ∧
  ((H2 a = some (fq C a none) ∧ ∀ dx, H2 dx = none → dx ≠ a → D.nx σ (upd (upd H2 a (fq C a (some dx))) dx (kW [(f, y)] dx))) ∨
   (∃ dx fs, H2 a = some (fq C a (some dx)) ∧ H2 dx = some (kW fs dx) ∧ dx ≠ a ∧ fs.length < 1000 ∧ D.nx σ (upd H2 dx (kW (dH f y fs) dx))))
section
variable {X:Cx} {o value:Expr} {ta tv:TE} {f:Str} {pos pos':Pos} {C:Addr}
theorem uQ (ho:QE X o ta) (hv:QE X value tv) (hs:swapsWith value (some (.Attribute o f pos')) pos.line X.env=pure false:=by rfl):QS X (.Assign [.Attribute o f pos'] value pos) (rJ X.K C ta tv f):=by
 refine ⟨fun pins s σ H D I h=>?_⟩
 refine plainObj_wpAny_Assign_Attribute (thn (hv.out pins s σ H _ I h) fun u s1 ⟨y,H1,I1,ry,q⟩=>thn (ho.out pins s1 σ H1 _ I1 q) fun ov s2 ⟨x,H2,I2,rx,a,ex,G,q2⟩=>?_) hs
 subst ex
 obtain rfl:ov=Value.ref a:=rx
 rcases q2 with ⟨ea,q2⟩ | ⟨dx,fs,ea,ed,ne,hl,q2⟩
 · obtain ⟨t,et⟩:=mG (P:=X.prog) (w:=X.w) (I2.hok a _ ea)
   refine HT.vv I2.kIn et rfl rfl ⟨_,rfl⟩ G fun h' t' e1 e2 k=>?_
   have I3:Inv X pins σ (upd H2 a (fq C a (some s2.heap.objs.size))) { s2 with heap:=h',toks:=t' }:=I2.write (x:=a) (e:=a) (by rw [ea];exact True.intro) (.inl rfl) (fun b u nb e=>k b u nb e) ⟨_,e1⟩ (rf e1)
   have na:s2.heap.objs.size≠a:=Nat.ne_of_gt (Heap.lt_size et)
   have hn:upd H2 a (fq C a (some s2.heap.objs.size)) s2.heap.objs.size=none:=by rw [aq na];exact I2.hok.fresh (Nat.le_refl _)
   exact ⟨σ,_,Inv.track2 I2 I3 (Nat.le_refl _) hn (qI e2 fun g=>by
    show cB (List.lookup g [(f,y)]) (if g=f then some u else none)
    by_cases hg:g=f
    · rw [if_pos hg,hg]
      simp only [List.lookup,beq_self_eq_true];exact ry
    · have hb:(g==f)=false:=beq_eq_false_iff_ne.mpr hg
      rw [if_neg hg]
      simp only [List.lookup,hb];exact True.intro),q2 _ (I2.hok.fresh (Nat.le_refl _)) na⟩
 · obtain ⟨t,et⟩:=mG (P:=X.prog) (w:=X.w) (I2.hok a _ ea)
   obtain ⟨mA,n1,r1⟩:=zN (P:=X.prog) (w:=X.w) (I2.hok dx _ ed)
   refine HT.zR (ns:=fs.map (·.1)) I2.kIn et rfl rfl ⟨_,rfl⟩ n1 ne G (ql r1) (by rw [List.length_map,sizeLine_eq];omega) fun h' t' e2 sb=>?_
   have hd:∃ u,h'.get? dx=some u:=let ⟨o,_,_,e',_⟩:=e2;⟨o,e'⟩
   exact ⟨σ,_,I2.write (x:=dx) (e:=dx) (by rw [ed];exact True.intro) (.inl rfl) (fun b u nb e=>(sb.2 b nb).trans e) hd (qI e2 fun g=>by
    rw [gN]
    by_cases hg:g=f
    · rw [if_pos hg,if_pos hg];exact ry
    · rw [if_neg hg,if_neg hg];exact r1 g),q2⟩
end
def jC (a:Addr) (H:Hp):Hp:=fun b=>if b=a then none else H b
theorem jB {a:Addr} {H:Hp}:jC a H a=none:=by unfold jC;rw [if_pos rfl]
theorem eI {a b:Addr} {H:Hp} (h:b≠a):jC a H b=H b:=by unfold jC;rw [if_neg h]
theorem HOk.off {P:Program} {w:World} {H:Hp} {h:Heap} {a:Addr} {φ:Heap→Prop} (k:HOk P w H h) (ha:H a=some (.ext φ)):HOk P w (jC a H) h:=fun b o e=>by
 by_cases hb:b=a
 · subst hb;rw [jB] at e;cases e
 · rw [eI hb] at e
   exact (k b o e).stay (fun c u _ q=>q) (fun c q=>by rw [eI (fun z=>by rw [z,ha] at q;cases q)];exact q) fun c xs q=>by rw [eI (fun z=>by rw [z,ha] at q;cases q)];exact q
theorem Un.off {fs:List Addr} {H H':Hp} {h h':Heap} {a:Addr} (u:Un fs [] H H' h h') (ha:H a=none):Un fs [] H (jC a H') h h' where
 keep:=u.keep
 slot:=u.slot
 free:=fun b o e n hx=>by
  by_cases hb:b=a
  · rw [hb];exact jB
  · rw [eI hb];exact u.free b o e n hx
 there:=u.there
 tups:=fun b xs e=>by rw [eI (ay e ha)];exact u.tups b xs e
 frzs:=fun b o v e=>by rw [eI (ay e ha)];exact u.frzs b o v e
 tbls:=fun b ps e=>by rw [eI (ay e ha)];exact u.tbls b ps e
end L2
namespace HT
open PySem PyProof.Rows
section
variable {M:Model} {A:Around} {E:Value→Shared→Prop} {env:Env} {K:W.Frag} {C:Addr}
theorem uB {s:Shared} {x:Sem Value} {Q:Flow→Shared→Prop} (hC:L2.bV K C) (hh:A.handled=none)
  (h:wpAny M A x (fun v s₁=>∃ e t d,v=.ref e∧K.In s₁.heap∧s₁.heap.get? e=some (kA C t d)∧E (.ref e) s₁) E s):wpAny M A (raiseStmt env (some x) none) Q E s:=by
 unfold raiseStmt
 refine wpAny_bind (wpAny_mono h (fun v s₁ h₁=>?_) fun _ _ x=>x)
 obtain ⟨e,t,d,rfl,X,he,hE⟩:=h₁
 obtain ⟨bm,N,nm,qn,bs,hdct,sn,sub,ab,col,dd,k0,k1,k2,k3,k5,mN,oC,hN,_,T,_⟩:=L2.eO X hC
 have hcB:(Value.ref C::bm).contains (.type "BaseException")=true:=by rw [List.contains_cons,T.hasType (X:= "BaseException") (b:=true) (by decide +kernel),Bool.or_true]
 obtain ⟨hp,g,dr,tk,os⟩:=s₁
 repeat (first | with_reducible refine wpAny_loadPart_at he ?_ | with_reducible refine wpAny_loadPart_at oC ?_ | (with_reducible refine wpAny_isSubtype_exc oC ?_;rw [hcB]) | wp_step)
 exact wpAny_raiseNew_none hh hE
theorem tF {prog:Program} {w:World} {A:Around} {K:W.Frag} {C f:Addr} {R:Result→Shared→Prop} {s:Shared} {us:List Value} (X:K.In s.heap) (hC:L2.bV K C) (hi:W.findIn K (.ref C) "__init__" =some (some (.ref f))) (hf:W.typeIn K (.ref f)=some (.type "function")) (hus:us.length≤sizeLine)
  (hq:codeAny (model prog w) (A.under (.builtin "type.__call__" ⟨.ref C::us,[]⟩)) (.call (.ref f) ⟨.ref (s.heap.objs.size+1)::us,[]⟩) (W.InitBack (s.heap.objs.size+1) R) { s with heap:=gO s.heap C us }):
  codeAny (model prog w) A (.call (.ref C) ⟨us,[]⟩) R s:=by
 obtain ⟨h,g,d,t,os⟩:=s
 exact xa X hC hi hf hus hq
end
end HT
namespace L2
open PySem PySem.Spec PyProof.Rows
def rn (C:Addr) (sp:Sp) (E:St→XK) (t:TA):TS:=fun _ σ H=>t σ H fun vs H1=>∀ a,H1 a=none→sp (.ref a::vs) (upd H1 a (fq C a none)) (fun v H2=>v=.non∧∃ d,H2 a=some (fq C a d)∧E σ (.ref C) d (jC a H2)) E0
structure xT (K:W.Frag) (C f:Addr):Prop where
 ok:bV K C
 init:W.findIn K (.ref C) "__init__" =some (some (.ref f))
 fn:W.isFn K (.ref f)=true
 kp:W.keepIn K (.ref C)=true
section
variable {X:Cx} {k:Nat} {f C:Addr} {fd:FuncData} {ps:List Str} {sp:Sp} {E:St→XK} {x:Str} {np cpos pos:Pos} {e:Expr} {es:List Expr} {t:TA}
theorem xA (Y : xT X.K C f) (F : aN X.prog X.w X.K X.mg X.base (CX1 X.prog X.w) k f fd ps sp) (hr : bh (k + 1) X.A) (hb : bA X.K fd ps []) (hm : X.mg x = some (.ref C)) (hR : pJ X E) (ha : QA X (e :: es) t)
    (hc : X.calm = true := by rfl) (hg : Gl X x := by rfl) (hdb : (x == ("__debug__" : Str)) = false := by decide) (hs : bj (e :: es) = true := by rfl) (hps : ps.length ≤ 1000 := by decide) : QS X (.Raise (some (.Call (.Name x np) (e :: es) [] cpos)) none pos) (rn C sp E t) := by
  refine ⟨fun pins s σ H D I h => ?_⟩
  have h' : (bM e && bj es) = true := hs
  rw [arm_exec_Raise]
  refine wpAny_bind (wpAny_standAt (HT.uB Y.ok (I.ok.hd hc) ?_))
  refine wpAny_bind (wpAny_mono ?_ (fun v s₃ h₃ => wpAny_bind (wpAny_standAt (wpAny_pure h₃))) fun _ _ x => x)
  refine wpAny_Call_Name_kw (fm I hg hm ?_ hdb)
  refine W.callWith_K (h₀ := X.base) I.ok.mod.kin Y.kp (thn (ha.out cpos pins s σ H _ I h) fun us s1 ⟨vs, H1, I1, r, q⟩ => ⟨I1.kIn, ?_⟩) (bc (Bool.and_eq_true_iff.mp h').1 es X.env) (bT (Bool.and_eq_true_iff.mp h').2)
  have ka : ∀ b u, s1.heap.get? b = some u → (HT.gO s1.heap C us).get? b = some u := fun b u eb => Heap.get?_push_of_some _ (Heap.get?_push_of_some _ eb)
  have ex : (HT.gO s1.heap C us).get? (s1.heap.objs.size + 1) = some (HT.kA C s1.heap.objs.size none) := by heap_get
  have hfr : H1 (s1.heap.objs.size + 1) = none := I1.hok.fresh (Nat.le_succ _)
  have I2 : Inv X pins σ (upd H1 (s1.heap.objs.size + 1) (fq C (s1.heap.objs.size + 1) none)) { s1 with heap := HT.gO s1.heap C us, toks := s1.toks } := I1.laid ka (Nat.le_succ _) (rf ex)
  have hq := q (s1.heap.objs.size + 1) hfr
  have r2 : aS (V.ref (s1.heap.objs.size + 1) :: vs) (Value.ref (s1.heap.objs.size + 1) :: us) := .cons rfl r
  have hl : (Value.ref (s1.heap.objs.size + 1) :: us).length = ps.length := by rw [← r2.length]; exact F.len _ _ _ _ hq
  have hb' := hb { s1 with heap := HT.gO s1.heap C us } (Value.ref (s1.heap.objs.size + 1) :: us) I2.kIn (by rw [List.append_nil]; exact hl)
  rw [List.append_nil] at hb'
  have husz : us.length ≤ sizeLine := by
    rw [List.length_cons] at hl
    rw [sizeLine_eq]; omega
  refine wpAny_call (HT.tF I1.kIn Y.ok Y.init (beq_iff_eq.mp Y.fn) husz (codeAny_mono (F.run _ X.stack _ _ ⟨Value.ref (s1.heap.objs.size + 1) :: us, []⟩ (Value.ref (s1.heap.objs.size + 1) :: us) _ _ _ (hr.make C us []) (I2.env0.make C us []) hb' r2 hq) fun rr s' hq' => ?_))
  cases rr with
  | error e' =>
    obtain ⟨_, _, _, _, _, _, z⟩ := hq'
    exact z.elim
  | ok fl =>
    cases fl with
    | next => exact False.elim hq'
    | brk => exact False.elim hq'
    | cont => exact False.elim hq'
    | ret u =>
      obtain ⟨v, H', os, bare, un, hok, rv, rfl, d, hd, hE⟩ := hq'
      obtain ⟨t, et⟩ := mG (P := X.prog) (w := X.w) (hok _ _ hd)
      have u1 : Un (frs X.stack) [] H1 H' s1.heap s'.heap := (Un.laid (o := fq C (s1.heap.objs.size + 1) none) ka (Nat.le_succ _) hfr).trans un
      have kin : X.K.In s'.heap := by
        have I3 : Inv X pins σ H' s' := I1.call' (ch := []) os u1 hok bare fun b z => absurd z (by simp)
        exact I3.kIn
      refine ⟨rv, s1.heap.objs.size + 1, t, d, rfl, kin, et, hR pins σ H1 s1 C (s1.heap.objs.size + 1) d (jC (s1.heap.objs.size + 1) H') s' I1 ⟨os, bare, u1.off hfr, hok.off hd, Heap.get?_none_of_le (Nat.le_succ _), jB, ⟨_, _, .ref t, et, rfl, rfl, rfl, ⟨rfl, rfl⟩, rfl⟩⟩ hE⟩
end
end L2
namespace HT
open PySem PySem.Spec PyProof.Rows
section
variable {prog:Program} {w:World} {A:Around} {E:Value→Shared→Prop} {s:Shared} {I:Addr} {fp wr:List Addr} {G:Array GenState→Array GenState→Prop} {n:Nat} {P:Nat→Value→Prop} {St:Nat→Shared→Prop}
end
end HT
namespace L2
open PySem PySem.Spec PyProof.Rows
section
variable {X:Cx} {pins:List (Addr×Obj)} {σ:St} {H:Hp} {s:Shared}
end
section
variable {X:Cx} {a:Expr} {t:TA} {p1 p2 pos1 pos2:Pos}
end
end L2
namespace HT
open PySem PyProof.Rows
section
variable {prog:Program} {w:World} {A:Around} {E:Value→Shared→Prop} {s:Shared}
end
end HT
namespace L2
open PySem PySem.Spec PyProof.Rows
section
variable {CX:CXT} {P:Program} {w:World} {K:W.Frag} {mg:Str→Option Value} {base:Heap} {k:Nat} {f:Addr} {N ps:List Str} {sp:Sp}
end
section
variable {X:Cx} {k:Nat} {f:Addr} {fd:FuncData} {ps:List Str} {sp:Sp} {x q:Str} {p pos:Pos} {e:Expr} {es:List Expr} {t:TA} {st:Stmt}
end
section
variable {X:Cx} {tg:Expr} {ah:Addr}
variable {x y:Str} {elt a:Expr} {t:TA} {te:TE} {scope:Scope} {ys:List Str} {is:List Nat} {px py p pos pos2 spos:Pos}
end
end L2
namespace Rs
open PySem PySem.Spec PyProof.Rows L2
def dY (s:Stmt) (j:Nat):Stmt:=match s with
 | .ClassDef _ _ _ b _ _ _ _ _ _ _=>b.getD j (.Pass ⟨0,0,0,0⟩)
 | _=> .Pass ⟨0,0,0,0⟩
def top (i:Nat):Stmt:=PySem.Challenge.pw_rootstamp_k47_refusals_of_growths.main.body.getD i (.Pass ⟨0,0,0,0⟩)
abbrev vB:Stmt:=top 11
abbrev uU:Stmt:=top 12
abbrev wU:Stmt:=top 13
abbrev vp:Stmt:=top 15
abbrev wB:Stmt:=top 14
abbrev s_2:Stmt:=dY (top 36) 1
abbrev kQ:Stmt:=top 37
abbrev s_1:Stmt:=dY (top 36) 0
abbrev kY:Stmt:=top 38
abbrev kF:Stmt:=top 44
abbrev kI:Stmt:=top 45
abbrev wC:Stmt:=top 46
abbrev wV:Stmt:=top 40
abbrev xw:Stmt:=top 47
abbrev vL:Stmt:=top 48
abbrev wf:Stmt:=top 49
abbrev wQ:Stmt:=top 42
abbrev uZ:Stmt:=top 43
abbrev vW:Stmt:=top 50
abbrev vF:Stmt:=top 51
abbrev vn:Stmt:=top 55
abbrev wH:Stmt:=top 54
abbrev va:Stmt:=top 52
abbrev xm:Stmt:=top 56
abbrev uV:Stmt:=top 59
abbrev vH:Stmt:=top 57
abbrev wF:Stmt:=top 18
abbrev wJ:Stmt:=top 20
abbrev xb:Stmt:=top 17
abbrev wA:Stmt:=top 30
abbrev xo:Stmt:=top 21
abbrev vJ:Stmt:=top 23
abbrev xh:Stmt:=top 28
abbrev wg:Stmt:=top 33
abbrev wR:Stmt:=top 32
abbrev mv:Stmt:=top 31
abbrev vg:Stmt:=top 24
abbrev mz:Stmt:=top 25
abbrev s_0:Stmt:=dY (top 8) 0
abbrev ma:Stmt:=top 34
abbrev xB:Stmt:=top 58
abbrev xz:Stmt:=top 60
abbrev vX:Stmt:=top 53
abbrev vf:Stmt:=top 61
abbrev s_3:Stmt:=dY (top 26) 0
abbrev s_4:Stmt:=dY (top 26) 1
abbrev s_9:Stmt:=dY (top 26) 2
abbrev s_7:Stmt:=dY (top 26) 4
abbrev vO:Stmt:=dY (top 26) 11
abbrev vV:Stmt:=dY (top 26) 10
abbrev s_8:Stmt:=dY (top 26) 6
abbrev xy:Stmt:=top 62
abbrev wl:Stmt:=top 41
abbrev wb:Stmt:=top 64
abbrev s_5:Stmt:=dY (top 26) 9
abbrev s_6:Stmt:=dY (top 26) 8
abbrev xr:Stmt:=top 63
abbrev vQ:Stmt:=top 65
abbrev uW:Stmt:=top 66
def sAt (i:Nat) (l:List Stmt):Stmt:=l.getD i (.Pass ⟨0,0,0,0⟩)
def Ak:Stmt→Expr | .Return (some e) _=>e | .Assign _ e _=>e | .Expr e _=>e | _=> .Constant .none 0 ⟨0,0,0,0⟩
def jX:Expr→Expr | .Lambda _ b _ _=>b | e=>e
def oQ:Expr→Scope | .Lambda _ _ sc _=>sc | _=>{ kind:=.function,names:=[],isGenerator:=false,isCoroutine:=false }
abbrev vi:Expr:=(Ak (sAt 0 (aQ kQ)))
def fF:cV:=⟨(("writing" :Str)++ ".<locals>.")++ "<lambda>",.expr (jX vi),oQ vi,["term"],[]⟩
abbrev vN:Expr:=(Ak (sAt 1 (aQ kY)))
def fX:cV:=⟨(("counting" :Str)++ ".<locals>.")++ "<lambda>",.expr (jX vN),oQ vN,["term"],["numbers"]⟩
abbrev wu:Stmt:=(sAt 1 (aQ kF))
def fW:cV:=⟨(("_law_sure" :Str)++ ".<locals>.")++ "_law_stamp",.stmts (aQ wu),am wu,["_law_term"],["_law_step", "_law_known"]⟩
abbrev vG:Stmt:=(sAt 0 (aQ kI))
def fZ:cV:=⟨(("_law_weak" :Str)++ ".<locals>.")++ "_law_stamp",.stmts (aQ vG),am vG,["_law_term"],["_law_many_here"]⟩
set_option genInjectivity false in
set_option genSizeOf false in
abbrev Rd (sp:Sp) (t:TS) (N:List Str):Prop:=∀ (vs:List V) (H:Hp) (Q:VK) (E:XK),sp vs H Q E→t { nx:=fun _ H'=>Q .non H',rt:=Q } (L2.start N vs) H
abbrev Ln (sp:Sp) (n:Nat):Prop:=∀ vs H Q E,sp vs H Q E→vs.length=n
structure Adr where
 a_54:Addr
 d_54:FuncData
 a_52:Addr
 d_52:FuncData
 a_53:Addr
 d_53:FuncData
 a_57:Addr
 d_57:FuncData
 a_62:Addr
 d_62:FuncData
 a_2:Addr
 d_2:FuncData
 a_60:Addr
 d_60:FuncData
 a_1:Addr
 d_1:FuncData
 a_42:Addr
 d_42:FuncData
 a_32:Addr
 d_32:FuncData
 a_36:Addr
 d_36:FuncData
 a_31:Addr
 d_31:FuncData
 a_14:Addr
 d_14:FuncData
 a_15:Addr
 d_15:FuncData
 a_17:Addr
 d_17:FuncData
 a_19:Addr
 d_19:FuncData
 a_34:Addr
 d_34:FuncData
 a_30:Addr
 d_30:FuncData
 a_35:Addr
 d_35:FuncData
 a_29:Addr
 d_29:FuncData
 a_21:Addr
 d_21:FuncData
 a_22:Addr
 d_22:FuncData
 a_25:Addr
 d_25:FuncData
 a_24:Addr
 d_24:FuncData
 a_16:Addr
 d_16:FuncData
 a_18:Addr
 d_18:FuncData
 a_49:Addr
 d_49:FuncData
 a_50:Addr
 d_50:FuncData
 a_48:Addr
 d_48:FuncData
 a_47:Addr
 d_47:FuncData
 a_40:Addr
 d_40:FuncData
 a_59:Addr
 d_59:FuncData
 a_55:Addr
 d_55:FuncData
 a_44:Addr
 d_44:FuncData
 a_58:Addr
 d_58:FuncData
 a_46:Addr
 d_46:FuncData
 a_51:Addr
 d_51:FuncData
 a_41:Addr
 d_41:FuncData
 a_0:Addr
 d_0:FuncData
 a_45:Addr
 d_45:FuncData
 a_13:Addr
 d_13:FuncData
 a_26:Addr
 d_26:FuncData
 a_23:Addr
 d_23:FuncData
 a_27:Addr
 d_27:FuncData
 a_3:Addr
 d_3:FuncData
 a_4:Addr
 d_4:FuncData
 a_9:Addr
 d_9:FuncData
 a_7:Addr
 d_7:FuncData
 a_11:Addr
 d_11:FuncData
 a_10:Addr
 d_10:FuncData
 a_8:Addr
 d_8:FuncData
 a_20:Addr
 d_20:FuncData
 a_38:Addr
 d_38:FuncData
 a_39:Addr
 d_39:FuncData
 a_5:Addr
 d_5:FuncData
 a_6:Addr
 d_6:FuncData
 a_12:Addr
 d_12:FuncData
 a_28:Addr
 d_28:FuncData
 a_56:Addr
 d_56:FuncData
 k_60:Addr
 t_60:Addr
 k_42:Addr
 t_42:Addr
 k_32:Addr
 t_32:Addr
 k_36:Addr
 t_36:Addr
 c_NoStamp:Addr
 c_Broken:Addr
 c_NoPaper:Addr
 c_NoPlace:Addr
 c_NoHead:Addr
 c_StampError:Addr
 c_Numbers:Addr
 c_Row:Addr
set_option genInjectivity false in
set_option genSizeOf false in
structure Txt (K:W.Frag) (mg:Str→Option Value) (A:Adr):Prop where
 f_54:Fm K mg "is_whole" "is_whole" vB A.a_54 A.d_54 ["thing"]
 f_52:Fm K mg "is_stamp" "is_stamp" uU A.a_52 A.d_52 ["thing"]
 f_53:Fm K mg "is_term" "is_term" wU A.a_53 A.d_53 ["thing"]
 f_57:Fm K mg "part_form" "part_form" vp A.a_57 A.d_57 ["part"]
 f_62:Fm K mg "written" "written" wB A.a_62 A.d_62 ["term"]
 f_2:Fun K "number_of" "Numbers.number_of" s_2 A.a_2 A.d_2
 b_2:bA K A.d_2 ["self", "term"] []
 f_60:Fm K mg "writing" "writing" kQ A.a_60 A.d_60 []
 f_1:Fun K "__init__" "Numbers.__init__" s_1 A.a_1 A.d_1
 b_1:bA K A.d_1 ["self"] []
 f_42:Fm K mg "counting" "counting" kY A.a_42 A.d_42 []
 f_32:Fm K mg "_law_sure" "_law_sure" kF A.a_32 A.d_32 ["_law_step"]
 f_36:Fm K mg "_law_weak" "_law_weak" kI A.a_36 A.d_36 ["_law_many_here"]
 f_31:Fm K mg "_law_stamper" "_law_stamper" wC A.a_31 A.d_31 ["_law_cell"]
 f_14:Fm K mg "_law_cell_at" "_law_cell_at" wV A.a_14 A.d_14 ["_law_script", "_law_k"]
 f_15:Fm K mg "_law_count_by" "_law_count_by" xw A.a_15 A.d_15 ["_law_cell"]
 f_17:Fm K mg "_law_half" "_law_half" vL A.a_17 A.d_17 ["_law_many_here"]
 f_19:Fm K mg "_law_many" "_law_many" wf A.a_19 A.d_19 ["_law_count", "_law_elder"]
 f_34:Fm K mg "_law_text_by" "_law_text_by" wQ A.a_34 A.d_34 ["_law_cell"]
 f_30:Fm K mg "_law_stamp_by" "_law_stamp_by" uZ A.a_30 A.d_30 ["_law_cell"]
 f_35:Fm K mg "_law_tops" "_law_tops" vW A.a_35 A.d_35 ["_law_stamper_here", "_law_count", "_law_elder", "_law_marks"]
 f_29:Fm K mg "_law_rows_of" "_law_rows_of" vF A.a_29 A.d_29 ["_law_stamper_here", "_law_count", "_law_elder", "_law_marks"]
 f_21:Fm K mg "_law_no_count" "_law_no_count" vn A.a_21 A.d_21 ["_law_cell", "_law_count"]
 f_22:Fm K mg "_law_no_elder" "_law_no_elder" wH A.a_22 A.d_22 ["_law_cell", "_law_count"]
 f_25:Fm K mg "_law_no_stamp" "_law_no_stamp" va A.a_25 A.d_25 ["_law_cell"]
 f_24:Fm K mg "_law_no_paper" "_law_no_paper" xm A.a_24 A.d_24 ["_law_cell", "_law_marks"]
 f_16:Fm K mg "_law_first" "_law_first" uV A.a_16 A.d_16 ["_law_flags"]
 f_18:Fm K mg "_law_is" "_law_is" vH A.a_18 A.d_18 ["_law_caught_here", "_law_number"]
 f_49:Fm K mg "is_count" "is_count" wF A.a_49 A.d_49 ["thing"]
 f_50:Fm K mg "is_elder" "is_elder" wJ A.a_50 A.d_50 ["count", "elder"]
 f_48:Fm K mg "half" "half" xb A.a_48 A.d_48 ["many"]
 f_47:Fm K mg "growth_turns" "growth_turns" wA A.a_47 A.d_47 ["count", "elder"]
 f_40:Fm K mg "are_marks" "are_marks" xo A.a_40 A.d_40 ["many", "thing"]
 f_59:Fm K mg "void_terms" "void_terms" vJ A.a_59 A.d_59 ["stamper"]
 f_55:Fm K mg "joint" "joint" xh A.a_55 A.d_55 ["turn", "own", "aside"]
 f_44:Fm K mg "grown_terms" "grown_terms" wg A.a_44 A.d_44 ["stamper", "count", "elder", "steps"]
 f_58:Fm K mg "step_marks" "step_marks" wR A.a_58 A.d_58 ["turns", "marks"]
 f_46:Fm K mg "growth_terms" "growth_terms" mv A.a_46 A.d_46 ["stamper", "count", "elder", "marks"]
 f_51:Fm K mg "is_head" "is_head" vg A.a_51 A.d_51 ["thing"]
 f_41:Fm K mg "check_head" "check_head" mz A.a_41 A.d_41 ["thing"]
 f_0:Fun K "__init__" "Broken.__init__" s_0 A.a_0 A.d_0
 b_0:bA K A.d_0 ["self", "due", "came"] []
 f_45:Fm K mg "growth_answer" "growth_answer" ma A.a_45 A.d_45 ["stamper", "head", "elder", "marks"]
 f_13:Fm K mg "_law_caught" "_law_caught" xB A.a_13 A.d_13 ["_law_what", "_law_stamper_here", "_law_top", "_law_elder", "_law_marks"]
 f_26:Fm K mg "_law_other" "_law_other" xz A.a_26 A.d_26 ["_law_cell", "_law_mark"]
 f_23:Fm K mg "_law_no_head" "_law_no_head" vX A.a_23 A.d_23 ["_law_cell", "_law_count", "_law_mark"]
 f_27:Fm K mg "_law_refused" "_law_refused" vf A.a_27 A.d_27 ["_law_stamper_here", "_law_script", "_law_count", "_law_elder", "_law_marks", "_law_mark"]
 f_3:Fun K "__init__" "Row.__init__" s_3 A.a_3 A.d_3
 b_3:bA K A.d_3 ["self", "stamper"] []
 f_4:Fun K "add" "Row.add" s_4 A.a_4 A.d_4
 b_4:bA K A.d_4 ["self", "entry"] []
 f_9:Fun K "size" "Row.size" s_9 A.a_9 A.d_9
 b_9:bA K A.d_9 ["self"] []
 f_7:Fun K "has_elder" "Row.has_elder" s_7 A.a_7 A.d_7
 b_7:bA K A.d_7 ["self", "count", "elder"] []
 f_11:Fun K "top_term" "Row.top_term" vO A.a_11 A.d_11
 b_11:bA K A.d_11 ["self", "first", "many"] []
 f_10:Fun K "top_of" "Row.top_of" vV A.a_10 A.d_10
 b_10:bA K A.d_10 ["self", "first", "many"] []
 f_8:Fun K "mark_at" "Row.mark_at" s_8 A.a_8 A.d_8
 b_8:bA K A.d_8 ["self", "count"] []
 f_20:Fm K mg "_law_near" "_law_near" xy A.a_20 A.d_20 ["_law_cell", "_law_size"]
 f_38:Fm K mg "_law_whole" "_law_whole" wl A.a_38 A.d_38 ["_law_found"]
 f_39:Fm K mg "_law_within" "_law_within" wb A.a_39 A.d_39 ["_law_thing", "_law_many_here"]
 f_5:Fun K "growth_marks" "Row.growth_marks" s_5 A.a_5 A.d_5
 b_5:bA K A.d_5 ["self", "first", "many", "elder"] []
 f_6:Fun K "growth_paper" "Row.growth_paper" s_6 A.a_6 A.d_6
 b_6:bA K A.d_6 ["self", "count", "elder"] []
 f_12:Fm K mg "_law_asked" "_law_asked" xr A.a_12 A.d_12 ["_law_what", "_law_row", "_law_one", "_law_other_here"]
 f_28:Fm K mg "_law_rows" "_law_rows" vQ A.a_28 A.d_28 ["_law_stamper_here", "_law_script"]
 f_56:Fm K mg "law" "law" uW A.a_56 A.d_56 ["_law_script"]
 z_ValueError:mg "ValueError" =none
 z_all:mg "all" =none
 z_bool:mg "bool" =none
 z_int:mg "int" =none
 z_isinstance:mg "isinstance" =none
 z_len:mg "len" =none
 z_list:mg "list" =none
 z_max:mg "max" =none
 z_min:mg "min" =none
 z_range:mg "range" =none
 z_reversed:mg "reversed" =none
 z_str:mg "str" =none
 z_tuple:mg "tuple" =none
 c_MOST_PARTS:∃ t,mg "MOST_PARTS" =some (.int 8 t)
 kc_60:A.d_60.code=.ref A.k_60
 kc_42:A.d_42.code=.ref A.k_42
 kc_32:A.d_32.code=.ref A.k_32
 kc_36:A.d_36.code=.ref A.k_36
 mc_NoStamp:mg "NoStamp" =some (.ref A.c_NoStamp)
 eo_NoStamp:bV K A.c_NoStamp
 mc_Broken:mg "Broken" =some (.ref A.c_Broken)
 eo_Broken:bV K A.c_Broken
 mc_NoPaper:mg "NoPaper" =some (.ref A.c_NoPaper)
 eo_NoPaper:bV K A.c_NoPaper
 mc_NoPlace:mg "NoPlace" =some (.ref A.c_NoPlace)
 eo_NoPlace:bV K A.c_NoPlace
 mc_NoHead:mg "NoHead" =some (.ref A.c_NoHead)
 eo_NoHead:bV K A.c_NoHead
 mc_StampError:mg "StampError" =some (.ref A.c_StampError)
 eo_StampError:bV K A.c_StampError
 er_NoPaper:cY K A.c_NoPaper
 er_NoPlace:cY K A.c_NoPlace
 er_NoHead:cY K A.c_NoHead
 eg_NoPaper:cZ K A.c_NoPaper
 eg_NoPlace:cZ K A.c_NoPlace
 eg_NoHead:cZ K A.c_NoHead
 eg_Broken:cZ K A.c_Broken
 ef_Broken_came:HT.gS K A.c_Broken "came"
 ef_Broken_due:HT.gS K A.c_Broken "due"
 em_Broken:xT K A.c_Broken A.a_0
 sb_NoPaper_StampError:eZ K A.c_NoPaper A.c_StampError=some true
 sb_NoPlace_StampError:eZ K A.c_NoPlace A.c_StampError=some true
 sb_NoHead_StampError:eZ K A.c_NoHead A.c_StampError=some true
 sb_Broken_StampError:eZ K A.c_Broken A.c_StampError=some true
 ki_NoPaper_ValueError:W.kitOne K (.ref A.c_NoPaper) (.type "ValueError")=some true
 ki_NoPaper_NoStamp:W.kitOne K (.ref A.c_NoPaper) (.ref A.c_NoStamp)=some false
 ki_NoPaper_Broken:W.kitOne K (.ref A.c_NoPaper) (.ref A.c_Broken)=some false
 ki_NoPaper_NoPaper:W.kitOne K (.ref A.c_NoPaper) (.ref A.c_NoPaper)=some true
 ki_NoPaper_NoPlace:W.kitOne K (.ref A.c_NoPaper) (.ref A.c_NoPlace)=some false
 ki_NoPaper_NoHead:W.kitOne K (.ref A.c_NoPaper) (.ref A.c_NoHead)=some false
 ki_NoPlace_ValueError:W.kitOne K (.ref A.c_NoPlace) (.type "ValueError")=some true
 ki_NoPlace_NoStamp:W.kitOne K (.ref A.c_NoPlace) (.ref A.c_NoStamp)=some false
 ki_NoPlace_Broken:W.kitOne K (.ref A.c_NoPlace) (.ref A.c_Broken)=some false
 ki_NoPlace_NoPaper:W.kitOne K (.ref A.c_NoPlace) (.ref A.c_NoPaper)=some false
 ki_NoPlace_NoPlace:W.kitOne K (.ref A.c_NoPlace) (.ref A.c_NoPlace)=some true
 ki_NoPlace_NoHead:W.kitOne K (.ref A.c_NoPlace) (.ref A.c_NoHead)=some false
 ki_NoHead_ValueError:W.kitOne K (.ref A.c_NoHead) (.type "ValueError")=some true
 ki_NoHead_NoStamp:W.kitOne K (.ref A.c_NoHead) (.ref A.c_NoStamp)=some false
 ki_NoHead_Broken:W.kitOne K (.ref A.c_NoHead) (.ref A.c_Broken)=some false
 ki_NoHead_NoPaper:W.kitOne K (.ref A.c_NoHead) (.ref A.c_NoPaper)=some false
 ki_NoHead_NoPlace:W.kitOne K (.ref A.c_NoHead) (.ref A.c_NoPlace)=some false
 ki_NoHead_NoHead:W.kitOne K (.ref A.c_NoHead) (.ref A.c_NoHead)=some true
 ki_Broken_ValueError:W.kitOne K (.ref A.c_Broken) (.type "ValueError")=some true
 ki_Broken_NoStamp:W.kitOne K (.ref A.c_Broken) (.ref A.c_NoStamp)=some false
 ki_Broken_Broken:W.kitOne K (.ref A.c_Broken) (.ref A.c_Broken)=some true
 ki_Broken_NoPaper:W.kitOne K (.ref A.c_Broken) (.ref A.c_NoPaper)=some false
 ki_Broken_NoPlace:W.kitOne K (.ref A.c_Broken) (.ref A.c_NoPlace)=some false
 ki_Broken_NoHead:W.kitOne K (.ref A.c_Broken) (.ref A.c_NoHead)=some false
 mc_Numbers:mg "Numbers" =some (.ref A.c_Numbers)
 cl_Numbers:Cls K A.c_Numbers
 na_Numbers_given:dB K A.c_Numbers "given"
 mc_Row:mg "Row" =some (.ref A.c_Row)
 cl_Row:Cls K A.c_Row
 na_Row_stamper:dB K A.c_Row "stamper"
 na_Row_entries:dB K A.c_Row "entries"
 na_Row_tops:dB K A.c_Row "tops"
 me_Row_size:fN K A.c_Row "size" A.a_9
 me_Row_top_of:fN K A.c_Row "top_of" A.a_10
 me_Row_top_term:fN K A.c_Row "top_term" A.a_11
 me_Row_has_elder:fN K A.c_Row "has_elder" A.a_7
 me_Row_growth_marks:fN K A.c_Row "growth_marks" A.a_5
 me_Row_mark_at:fN K A.c_Row "mark_at" A.a_8
 me_Row_growth_paper:fN K A.c_Row "growth_paper" A.a_6
 me_Row_add:fN K A.c_Row "add" A.a_4
 me_Numbers_number_of:fN K A.c_Numbers "number_of" A.a_2
 mk_Numbers:Mk K A.c_Numbers A.a_1
 mk_Row:Mk K A.c_Row A.a_3
def yb (A:Adr) (H:Hp):Prop:=H A.t_60=some (.tbl #[])∧H A.t_42=some (.tbl #[])∧H A.t_32=some (.tbl #[])∧H A.t_36=some (.tbl #[])∧([A.t_60,A.t_42,A.t_32,A.t_36]:List Addr).Nodup
theorem Gm:eB ["term"] ["term"] [] fF.scope:=⟨rfl,rfl,rfl,by decide +kernel,rfl,rfl,by decide +kernel,by decide +kernel,by decide +kernel,by decide +kernel,by decide +kernel⟩
theorem DP:eB ["term", "numbers"] ["term"] ["numbers"] fX.scope:=⟨rfl,rfl,rfl,by decide +kernel,rfl,rfl,by decide +kernel,by decide +kernel,by decide +kernel,by decide +kernel,by decide +kernel⟩
theorem EM:eB ["_law_term", "_law_step", "_law_known"] ["_law_term"] ["_law_step", "_law_known"] fW.scope:=⟨rfl,rfl,rfl,by decide +kernel,rfl,rfl,by decide +kernel,by decide +kernel,by decide +kernel,by decide +kernel,by decide +kernel⟩
theorem lZ:eB ["_law_term", "_law_total", "_law_part", "_law_many_here"] ["_law_term"] ["_law_many_here"] fZ.scope:=⟨rfl,rfl,rfl,by decide +kernel,rfl,rfl,by decide +kernel,by decide +kernel,by decide +kernel,by decide +kernel,by decide +kernel⟩
theorem EU:aB ["thing"] ["thing"] (am vB):=scF
theorem DC:aB ["thing"] ["thing"] (am uU):=scF
theorem FP:aB ["thing"] ["thing"] (am wU):=scF
theorem xK:aB ["part", "signs"] ["part"] (am vp):=scF
theorem DG:aB ["term"] ["term"] (am wB):=scF
theorem IA:aB ["self", "term"] ["self", "term"] (am s_2):=scF
theorem FO:aB [] [] (am kQ):=scF
theorem GK:aB ["self"] ["self"] (am s_1):=scF
theorem yn:aB ["numbers"] [] (am kY):=scF
theorem sX:aB ["_law_step", "_law_known", "_law_stamp"] ["_law_step"] (am kF):=scF
theorem yA:aB ["_law_many_here", "_law_stamp"] ["_law_many_here"] (am kI):=scF
theorem EF:aB ["_law_cell"] ["_law_cell"] (am wC):=scF
theorem GB:aB ["_law_script", "_law_k"] ["_law_script", "_law_k"] (am wV):=scF
theorem ER:aB ["_law_cell"] ["_law_cell"] (am xw):=scF
theorem sF:aB ["_law_many_here", "_law_cut"] ["_law_many_here"] (am vL):=scF
theorem jg:aB ["_law_count", "_law_elder", "_law_found", "_law_cut"] ["_law_count", "_law_elder"] (am wf):=scF
theorem sR:aB ["_law_cell", "_law_some"] ["_law_cell"] (am wQ):=scF
theorem DY:aB ["_law_cell"] ["_law_cell"] (am uZ):=scF
theorem nS:aB ["_law_stamper_here", "_law_count", "_law_elder", "_law_marks", "_law_cut", "_law_young", "_law_old"] ["_law_stamper_here", "_law_count", "_law_elder", "_law_marks"] (am vW):=scF
theorem lh:aB ["_law_stamper_here", "_law_count", "_law_elder", "_law_marks", "_law_void", "_law_tops_here"] ["_law_stamper_here", "_law_count", "_law_elder", "_law_marks"] (am vF):=scF
theorem xY:aB ["_law_cell", "_law_count", "_law_some"] ["_law_cell", "_law_count"] (am vn):=scF
theorem sC:aB ["_law_cell", "_law_count", "_law_number", "_law_some"] ["_law_cell", "_law_count"] (am wH):=scF
theorem sk:aB ["_law_cell", "_law_number", "_law_some"] ["_law_cell"] (am va):=scF
theorem oo:aB ["_law_cell", "_law_marks", "_law_spot", "_law_thing", "_law_some"] ["_law_cell", "_law_marks"] (am xm):=scF
theorem xU:aB ["_law_flags", "_law_k"] ["_law_flags"] (am uV):=scF
theorem sT:aB ["_law_caught_here", "_law_number", "_law_kinds"] ["_law_caught_here", "_law_number"] (am vH):=scF
theorem Gx:aB ["thing"] ["thing"] (am wF):=scF
theorem EX:aB ["count", "elder"] ["count", "elder"] (am wJ):=scF
theorem Gz:aB ["many"] ["many"] (am xb):=scF
theorem gE:aB ["count", "elder", "turns", "early", "rest", "ahead"] ["count", "elder"] (am wA):=scF
theorem Fh:aB ["many", "thing"] ["many", "thing"] (am xo):=scF
theorem Eg:aB ["stamper"] ["stamper"] (am vJ):=scF
theorem EE:aB ["turn", "own", "aside"] ["turn", "own", "aside"] (am xh):=scF
theorem gL:aB ["stamper", "count", "elder", "steps", "younger", "older", "top", "older_top", "step"] ["stamper", "count", "elder", "steps"] (am wg):=scF
theorem iQ:aB ["turns", "marks", "steps", "first", "last", "turn"] ["turns", "marks"] (am wR):=scF
theorem sw:aB ["stamper", "count", "elder", "marks", "turns", "younger"] ["stamper", "count", "elder", "marks"] (am mv):=scF
theorem EI:aB ["thing"] ["thing"] (am vg):=scF
theorem Gj:aB ["thing"] ["thing"] (am mz):=scF
theorem IC:aB ["self", "due", "came"] ["self", "due", "came"] (am s_0):=scF
theorem sH:aB ["stamper", "head", "elder", "marks", "terms", "came"] ["stamper", "head", "elder", "marks"] (am ma):=scF
theorem ow:aB ["_law_what", "_law_stamper_here", "_law_top", "_law_elder", "_law_marks", "_law_caught_here", "e"] ["_law_what", "_law_stamper_here", "_law_top", "_law_elder", "_law_marks"] (am xB):=scF
theorem ET:aB ["_law_cell", "_law_mark"] ["_law_cell", "_law_mark"] (am xz):=scF
theorem sY:aB ["_law_cell", "_law_count", "_law_mark", "_law_some"] ["_law_cell", "_law_count", "_law_mark"] (am vX):=scF
theorem dR:aB ["_law_stamper_here", "_law_script", "_law_count", "_law_elder", "_law_marks", "_law_mark", "_law_wrong", "_law_more", "_law_top", "_law_due", "_law_head", "_law_other_here"] ["_law_stamper_here", "_law_script", "_law_count", "_law_elder", "_law_marks", "_law_mark"] (am vf):=scF
theorem GM:aB ["self", "stamper"] ["self", "stamper"] (am s_3):=scF
theorem Hn:aB ["self", "entry"] ["self", "entry"] (am s_4):=scF
theorem Hj:aB ["self"] ["self"] (am s_9):=scF
theorem HJ:aB ["self", "count", "elder"] ["self", "count", "elder"] (am s_7):=scF
theorem yl:aB ["self", "first", "many", "ahead"] ["self", "first", "many"] (am vO):=scF
theorem ya:aB ["self", "first", "many", "part"] ["self", "first", "many"] (am vV):=scF
theorem Hi:aB ["self", "count"] ["self", "count"] (am s_8):=scF
theorem ES:aB ["_law_cell", "_law_size"] ["_law_cell", "_law_size"] (am xy):=scF
theorem Fu:aB ["_law_found"] ["_law_found"] (am wl):=scF
theorem Ej:aB ["_law_thing", "_law_many_here"] ["_law_thing", "_law_many_here"] (am wb):=scF
theorem Bn:aB ["self", "first", "many", "elder", "ahead"] ["self", "first", "many", "elder"] (am s_5):=scF
theorem Hf:aB ["self", "count", "elder"] ["self", "count", "elder"] (am s_6):=scF
theorem oq:aB ["_law_what", "_law_row", "_law_one", "_law_other_here", "_law_caught_here", "e"] ["_law_what", "_law_row", "_law_one", "_law_other_here"] (am xr):=scF
theorem eT:aB ["_law_stamper_here", "_law_script", "_law_row", "_law_size", "_law_k", "_law_mark", "_law_cell", "_law_one", "_law_other_here", "_law_good"] ["_law_stamper_here", "_law_script"] (am vQ):=scF
theorem fQ:aB ["_law_script", "_law_stamper_here", "_law_count", "_law_elder", "_law_many_here", "_law_marks", "_law_due", "_law_void", "_law_found"] ["_law_script"] (am uW):=scF
end Rs
namespace Rs
open PySem PySem.Spec PyProof.Rows L2
inductive Dat where
 | non
 | bl (b:Bool)
 | int (i:Int)
 | str (z:Str)
 | lst (ds:List Dat)
 | tup (ds:List Dat)
 | dic
mutual
inductive aJ (H:Hp):V→Dat→Prop
 | non:aJ H .non .non
 | bl (b):aJ H (.bl b) (.bl b)
 | int (i):aJ H (.int i) (.int i)
 | str (z):aJ H (.str z) (.str z)
 | lst {a xs ds}:H a=some (.lst xs)→DatWs H xs ds→aJ H (.ref a) (.lst ds)
 | tup {a xs ds}:H a=some (.tup xs)→DatWs H xs ds→aJ H (.ref a) (.tup ds)
 | dic {a}:(∃ kvs,H a=some (.dK kvs))→aJ H (.ref a) .dic
inductive DatWs (H:Hp):List V→List Dat→Prop
 | nil:DatWs H [] []
 | cons {x xs d ds}:aJ H x d→DatWs H xs ds→DatWs H (x::xs) (d::ds)
end
mutual
def gR:Dat→PyData
 | .non=> .none
 | .bl b=> .bool b
 | .int i=> .int i
 | .str z=> .str z
 | .lst ds=> .list (toPys ds)
 | .tup ds=> .tuple (toPys ds)
 | .dic=> .none
def toPys:List Dat→List PyData
 | []=>[]
 | d::r=>gR d::toPys r
end
def cg (z:Str):Bool:=z.cps.all (·<128)
mutual
def okD:Dat→Bool
 | .str z=>cg z&&decide (z.length≤100000)
 | .lst ds=>okDs ds
 | .tup ds=>okDs ds
 | .dic=>false
 | .non=>true
 | .bl _=>true
 | .int _=>true
def okDs:List Dat→Bool
 | []=>true
 | d::r=>okD d&&okDs r
end
def gy:Dat→Bool
 | .int _=>true
 | _=>false
def bo:Dat→Bool
 | .int i=>decide (0≤i∧i<10^60)
 | .str _=>true
 | _=>false
def iN (K:W.Frag) (A:Adr):Sp:=fun vs H Q _=>∃ v d,vs=[v]∧aJ H v d∧Q (.bl (gy d)) H
def iR (K:W.Frag) (A:Adr):Sp:=fun vs H Q _=>∃ v d,vs=[v]∧aJ H v d∧Q (.bl (bo d)) H
def bX:Key→Dat
 | .inl i=> .int i
 | .inr z=> .str z
def szK:Key→Nat
 | .inl _=>62
 | .inr z=>z.length+62
def okP:Key→Bool
 | .inl i=>decide (0≤i∧i<10^60)
 | .inr z=>cg z&&decide (z.length≤100000)
def EZ:Key→Bool
 | .inr _=>true
 | .inl _=>false
def okT (k:List Key):Bool:=decide (1≤k.length∧k.length≤8)&&(k.head?.map EZ).getD false&&k.all okP
def szT (k:List Key):Nat:=(k.map szK).sum
def rK (k:List Key):Key→Prop
 | .inl i=>0≤i∧i<10^60
 | .inr z=>cg z=true∧z.length≤szT k
def ej:Key→Str
 | .inl i=>toString i++ ";"
 | .inr z=>toString (z.length:Int)++ ":" ++z
def fU:List Key→Str
 | []=>Str.empty
 | x::r=>ej x++fU r
def rC (H H':Hp):Prop:=∀ b o,H b=some o→(∀ ps,o≠ .tbl ps)→H' b=some o
def bz (kvs:List (List Key×Key)):List (List Key×V):=kvs.map fun p=>(p.1,kV p.2)
def ci (kvs:List (List Key×Key)) (k:List Key):Option Key:=(kvs.find? fun p=>decide (p.1=k)).map (·.2)
def il:Key→Prop
 | .inl i=>0≤i∧i<10^60
 | .inr z=>cg z=true∧z.length≤62
def fJ (kvs:List (List Key×Key)):Prop:=∀ p∈kvs,il p.2
structure fR (A:Adr) (H:Hp) (x d:Addr) (kvs:List (List Key×V)):Prop where
 ob:∃ dx,H x=some (.ins A.c_Numbers dx [("given",.ref d)])
 di:H d=some (.dT kvs)
def lX (t:Int):Key→Int
 | .inr z=>2*t+z.length
 | .inl i=>2*t+i
def rN (m:Int) (k:List Key):Key:=.inl (k.foldl lX k.length%m)
def aG (b:Addr) (H H':Hp):Prop:=∀ x o,x≠b→H x=some o→H' x=some o
inductive Stp (A:Adr) (H:Hp) (f b:Addr) (g:List Key→Option Key) (n:Nat):Prop
 | wri (hc:dv H f fF [] []) (hb:b=f) (hg:g=fun k=>some (.inr (fU k)))
 | cnt (q x:Addr) (kvs:List (List Key×Key)) (hc:dv H f fX [q] [.ref x]) (num:fR A H x b (bz kvs)) (hl:kvs.length≤n) (hs:fJ kvs) (hg:g=ci kvs)
 | sur (q0 q1:Addr) (j:Int) (h0:0≤j) (h1:j<1000) (kvs:List (List Key×Key)) (hc:dv H f fW [q0,q1] [.int j,.ref b]) (hb:H b=some (.dT (bz kvs))) (hl:kvs.length≤n) (hs:fJ kvs) (hg:g=ci kvs)
 | wea (q:Addr) (m:Int) (h1:1≤m) (h2:m≤9) (hc:dv H f fZ [q] [.int m]) (hb:b=f) (hg:g=fun k=>some (rN m k))
def Sub (g g':List Key→Option Key):Prop:=∀ k v,g k=some v→g' k=some v
def Ext (g:List Key→Option Key) (h:List Key→Key):Prop:=∀ k v,g k=some v→h k=v
abbrev PK (H:Hp):List Addr→List (List Key)→Prop:=Paired (fun (p:Addr) (k:List Key)=>H p=some (.tup (k.map kV))∧okT k=true)
def lU (K:W.Frag) (A:Adr):Sp:=fun vs H Q _=>∃ (p:Addr) (k:List Key),vs=[.ref p]∧H p=some (.tup (k.map kV))∧okT k=true∧∀ H',ao H H'→Q (.bl true) H'
def oE (K:W.Frag) (A:Adr):Sp:=fun vs H Q _=>∃ x:Key,vs=[kV x]∧okP x=true∧Q (.str (ej x)) H
def lr (K:W.Frag) (A:Adr):Sp:=fun vs H Q _=>∃ (p:Addr) (k:List Key),vs=[.ref p]∧H p=some (.tup (k.map kV))∧okT k=true∧∀ H',ao H H'→Q (.str (fU k)) H'
def rD (K:W.Frag) (A:Adr):Sp:=lr K A
def jf (kvs:List (List Key×V)) (kk:List Key) (d:V):V:=(bY kvs kk).getD d
def iC (H:Hp) (b:Addr) (kvs:List (List Key×V)) (kk:List Key) (d:V):Hp:=if (bY kvs kk).isSome=true then H else upd H b (.dT (bW kvs kk d))
def sj (K:W.Frag) (A:Adr):Sp:=fun vs H Q _=>∃ x dx,vs=[.ref x]∧H x=some (.ins A.c_Numbers dx [])∧∀ d,H d=none→Q .non (upd (upd H d (.dT [])) x (.ins A.c_Numbers dx [("given",.ref d)]))
def rz (K:W.Frag) (A:Adr):Sp:=fun vs H Q _=>∃ (x d p:Addr) (kvs:List (List Key×V)) (k:List Key),vs=[.ref x,.ref p]∧fR A H x d kvs∧kvs.length≤50000∧H p=some (.tup (k.map kV))∧okT k=true∧∀ H',ao H H'→Q (jf kvs k (.int kvs.length)) (iC H' d kvs k (.int kvs.length))
def sM (K:W.Frag) (A:Adr):Sp:=fun vs H Q _=>∃ (x d p:Addr) (kvs:List (List Key×V)) (k:List Key),vs=[.ref p,.ref x]∧fR A H x d kvs∧kvs.length≤50000∧H p=some (.tup (k.map kV))∧okT k=true∧∀ H',ao H H'→Q (jf kvs k (.int kvs.length)) (iC H' d kvs k (.int kvs.length))
def bN (P:Addr) (H H':Hp):Prop:=∀ b o,H b=some o→b≠P→H' b=some o
def rL (K:W.Frag) (A:Adr):Sp:=fun vs H Q _=>∃ (p b:Addr) (j:Int) (k:List Key) (kvs:List (List Key×V)),vs=[.ref p,.int j,.ref b]∧0≤j∧j<1000∧H p=some (.tup (k.map kV))∧H b=some (.dT kvs)∧kvs.length≤50000∧Q (jf kvs k (.int (j*(kvs.length:Int)+5))) (iC H b kvs k (.int (j*(kvs.length:Int)+5)))
def sN (K:W.Frag) (A:Adr):Sp:=fun vs H Q _=>∃ (p:Addr) (m:Int) (k:List Key),vs=[.ref p,.int m]∧1≤m∧m≤9∧H p=some (.tup (k.map kV))∧okT k=true∧Q (kV (rN m k)) H
def MkQ (A:Adr) (P:Addr) (H:Hp) (Q:VK):Prop:=∀ (f b:Addr) (g:List Key→Option Key) (H':Hp),bN P H H'→Stp A H' f b g 0→H b=none→Q (.ref f) H'
def nR (K:W.Frag) (A:Adr):Sp:=fun vs H Q _=>vs=[]∧H A.t_60=some (.tbl #[])∧MkQ A A.t_60 H Q
def oB (K:W.Frag) (A:Adr):Sp:=fun vs H Q _=>vs=[]∧H A.t_42=some (.tbl #[])∧MkQ A A.t_42 H Q
def oj (K:W.Frag) (A:Adr):Sp:=fun vs H Q _=>∃ j:Int,vs=[.int j]∧0≤j∧j<1000∧H A.t_32=some (.tbl #[])∧MkQ A A.t_32 H Q
def nP (K:W.Frag) (A:Adr):Sp:=fun vs H Q _=>∃ m:Int,vs=[.int m]∧1≤m∧m≤9∧H A.t_36=some (.tbl #[])∧MkQ A A.t_36 H Q
def og (K:W.Frag) (A:Adr):Sp:=fun vs H Q _=>∃ c:Int,vs=[.int c]∧yb A H∧∀ (f b:Addr) (g:List Key→Option Key) (H':Hp),rC H H'→Stp A H' f b g 0→H b=none→Q (.ref f) H'
def enK (e:Key):Prop:=okP e=true∧szK e≤70
def aE (n:Nat):Nat:=2^Nat.log2 (n - 1)
def gk (h : List Key → Key) : Nat → List Key → List Key
  | 0, _ => [.inr "void"]
  | n + 1, es => match es with
    | [] => [.inr "void"]
    | [e] => [.inr "entry", e]
    | es => [.inr "joint", h (gk h n (es.take (aE es.length))), h (gk h n (es.drop (aE es.length)))]
def fS (h:List Key→Key) (es:List Key):List Key:=gk h es.length es
def szB (m:Nat):Nat:=400*(m - 1)+200
def jU (g:List Key→Option Key) (es:List Key) (kvs:List (List Key×Key)):Prop:=∀ k v,ci kvs k=some v→∃ a m:Nat,k=[.inl (a:Int),.inl (m:Int)]∧a+m≤es.length∧okP v=true∧szK v≤szB m∧∀ h,Ext g h→v=h (fS h ((es.drop a).take m))
structure iK (A:Adr) (H:Hp) (x f L D:Addr) (es:List Key) (kvs:List (List Key×Key)):Prop where
 ob:∃ dx,H x=some (.ins A.c_Row dx [("stamper",.ref f),("entries",.ref L),("tops",.ref D)])
 hl:H L=some (.lst (es.map kV))
 hd:H D=some (.dT (bz kvs))
 en:∀ e∈es,enK e
 le:es.length≤60
def bC (b D:Addr) (H H':Hp):Prop:=∀ x o,x≠b→x≠D→H x=some o→H' x=some o
def bv:Dat→Bool
 | .int i=>decide (0≤i∧i<2^60)
 | _=>false
def aW (c e:Dat):Bool:=bv c&&gy e&&match c,e with
 | .int c,.int e=>decide (0≤e∧e≤c)
 | _,_=>false
def cx (n:Int):Dat→Bool
 | .tup ds=>decide ((ds.length:Int)=n)&&ds.all bo
 | _=>false
def cN:Dat→Bool
 | .tup [c,v]=>bv c&&bo v
 | _=>false
def gT:Dat→Prop
 | .tup ds=>ds.length≤500
 | _=>True
def lO (K:W.Frag) (A:Adr):Sp:=fun vs H Q _=>∃ v d,vs=[v]∧aJ H v d∧Q (.bl (bv d)) H
def lq (K:W.Frag) (A:Adr):Sp:=fun vs H Q _=>∃ v d w e,vs=[v,w]∧aJ H v d∧aJ H w e∧Q (.bl (aW d e)) H
def ol (K:W.Frag) (A:Adr):Sp:=fun vs H Q _=>∃ (n:Int) (v:V) (d:Dat),vs=[.int n,v]∧aJ H v d∧gT d∧∀ H',ao H H'→Q (.bl (cx n d)) H'
def oh (K:W.Frag) (A:Adr):Sp:=fun vs H Q _=>∃ v d,vs=[v]∧aJ H v d∧Q (.bl (cN d)) H
def oI (K:W.Frag) (A:Adr):Sp:=fun vs H Q E=>∃ v d,vs=[v]∧aJ H v d∧(cN d=true→Q .non H)∧(cN d=false→E (.ref A.c_NoHead) none H)
def oi (K:W.Frag) (A:Adr):Sp:=fun vs H Q _=>∃ v d,vs=[v]∧aJ H v d∧Q (.bl (gy d)) H
def leD (n:Int):Dat→Bool
 | .int c=>decide (c≤n)
 | _=>false
def dF (m:Int):Dat→Bool
 | .int i=>decide (0≤i∧i<m)
 | _=>false
def je (K:W.Frag) (A:Adr):Sp:=fun vs H Q _=>∃ (v:V) (d:Dat) (m:Int),vs=[v,.int m]∧aJ H v d∧Q (.bl (dF m d)) H
def ki (K:W.Frag) (A:Adr):Sp:=fun vs H Q _=>∃ m:Nat,vs=[.int (m:Int)]∧2≤m∧m≤2^60∧Q (.int ((aE m:Nat):Int)) H
def jT (K:W.Frag) (A:Adr):Sp:=fun vs H Q _=>∃ m:Nat,vs=[.int (m:Int)]∧2≤m∧m≤2^60∧Q (.int ((aE m:Nat):Int)) H
def Bj (h:List Key→Key) (es:List Key):List Key:=[.inr "row",.inl (es.length:Int),h (fS h es)]
def tz (K:W.Frag) (A:Adr):Sp:=fun vs H Q _=>∃ x dx f,vs=[.ref x,.ref f]∧H x=some (.ins A.c_Row dx [])∧∀ (L D:Addr) (H':Hp),(∀ z o,z≠x→H z=some o→H' z=some o)→H L=none→H D=none→L≠D→H' x=some (.ins A.c_Row dx [("stamper",.ref f),("entries",.ref L),("tops",.ref D)])→H' L=some (.lst [])→H' D=some (.dT [])→Q .non H'
def pZ (K:W.Frag) (A:Adr):Sp:=fun vs H Q _=>∃ (x f L D:Addr) (es:List Key) (kvs:List (List Key×Key)) (e:Key),vs=[.ref x,kV e]∧iK A H x f L D es kvs∧enK e∧es.length<60∧Q (.int (es.length:Int)) (upd H L (.lst ((es++[e]).map kV)))
def kH (K:W.Frag) (A:Adr):Sp:=fun vs H Q _=>∃ (x f L D:Addr) (es:List Key) (kvs:List (List Key×Key)),vs=[.ref x]∧iK A H x f L D es kvs∧Q (.int (es.length:Int)) H
def oP (K:W.Frag) (A:Adr):Sp:=fun vs H Q _=>∃ (x f L D:Addr) (es:List Key) (kvs:List (List Key×Key)) (v w:V) (d e:Dat),vs=[.ref x,v,w]∧iK A H x f L D es kvs∧aJ H v d∧aJ H w e∧Q (.bl (aW d e&&leD (es.length:Int) d)) H
structure cw (A:Adr) (H:Hp) (x f L D b:Addr) (es:List Key) (kvs:List (List Key×Key)) (g:List Key→Option Key) (n:Nat):Prop where
 r:iK A H x f L D es kvs
 s:Stp A H f b g n
 c:jU g es kvs
 db:D≠b
 kl:kvs.length≤n
def dO (K:W.Frag) (A:Adr) (j:Nat):Sp:=fun vs H Q _=>∃ (x f L D b:Addr) (es:List Key) (kvs:List (List Key×Key)) (g:List Key→Option Key) (n a m:Nat),vs=[.ref x,.int (a:Int),.int (m:Int)]∧cw A H x f L D b es kvs g n∧a+m≤es.length∧m<j∧n+2*m+1≤40000∧
 ∀ (v:Key) (kvs':List (List Key×Key)) (g':List Key→Option Key) (H':Hp),bC b D H H'→cw A H' x f L D b es kvs' g' (n+(2*(m - 1)+1))→Sub g g'→okP v=true→szK v≤szB m→(∀ h,Ext g' h→v=h (fS h ((es.drop a).take m)))→Q (kV v) H'
def oA (K:W.Frag) (A:Adr) (j:Nat):Sp:=fun vs H Q _=>∃ (x f L D b:Addr) (es:List Key) (kvs:List (List Key×Key)) (g:List Key→Option Key) (n a m:Nat),vs=[.ref x,.int (a:Int),.int (m:Int)]∧cw A H x f L D b es kvs g n∧a+m≤es.length∧m≤j∧n+2*m+1≤40000∧
 ∀ (p:Addr) (k:List Key) (kvs':List (List Key×Key)) (g':List Key→Option Key) (H':Hp),bC b D H H'→cw A H' x f L D b es kvs' g' (n+2*(m - 1))→Sub g g'→H' p=some (.tup (k.map kV))→okT k=true→szT k+62≤szB m→(∀ h,Ext g' h→k=fS h ((es.drop a).take m))→Q (.ref p) H'
def jG (K:W.Frag) (A:Adr):Sp:=fun vs H Q E=>∃ (x f L D b:Addr) (es:List Key) (kvs:List (List Key×Key)) (g:List Key→Option Key) (n:Nat) (v:V) (d:Dat),vs=[.ref x,v]∧cw A H x f L D b es kvs g n∧n+200≤40000∧aJ H v d∧
 (aW (.int es.length) d=false→E (.ref A.c_NoPlace) none H)∧
 ∀ c:Nat,d=.int (c:Int)→c≤es.length→∀ (v:Key) (kvs':List (List Key×Key)) (g':List Key→Option Key) (H':Hp),bC b D H H'→cw A H' x f L D b es kvs' g' (n+200)→Sub g g'→okP v=true→(∀ h,Ext g' h→v=h (Bj h (es.take c)))→Q (kV v) H'
def kJ (K:W.Frag) (A:Adr) (j:Nat):Sp:=fun vs H Q _=>∃ (x f L D b:Addr) (es:List Key) (kvs:List (List Key×Key)) (g:List Key→Option Key) (n a m e:Nat),vs=[.ref x,.int (a:Int),.int (m:Int),.int (e:Int)]∧cw A H x f L D b es kvs g n∧a+m≤es.length∧1≤m∧e≤m∧m<j∧n+2*m≤30000∧
 ∀ (p:Addr) (xs:List V) (kvs':List (List Key×Key)) (g':List Key→Option Key) (H':Hp),bC b D H H'→cw A H' x f L D b es kvs' g' (n+2*m)→Sub g g'→H' p=some (.tup xs)→xs.length≤m→Q (.ref p) H'
def sK (K:W.Frag) (A:Adr):Sp:=fun vs H Q E=>∃ (x f L D b:Addr) (es:List Key) (kvs:List (List Key×Key)) (g:List Key→Option Key) (n:Nat) (v w:V) (d e:Dat),vs=[.ref x,v,w]∧cw A H x f L D b es kvs g n∧n+200≤30000∧aJ H v d∧aJ H w e∧
 ((aW d e&&leD (es.length:Int) d)=false→E (.ref A.c_NoPlace) none H)∧
 ((aW d e&&leD (es.length:Int) d)=true→∀ (u:V) (kvs':List (List Key×Key)) (g':List Key→Option Key) (H':Hp),bC b D H H'→cw A H' x f L D b es kvs' g' (n+200)→Sub g g'→Q u H')
def grF:Nat→Nat→Nat→List Int
 | 0,_,_=>[]
 | f+1,c,el=>if el=0∨c≤el then [] else if el≤aE c then 0::grF f (aE c) el else 1::grF f (c - aE c) (el - aE c)
abbrev bf (c el:Nat):List Int:=grF 60 c el
def jtT (t:Int) (o a:Key):List Key:=if t=0 then [.inr "joint",o,a] else [.inr "joint",a,o]
def cK (c:Int) (st:List (Int×Key)) (i:Nat) (v:Key):List Key:=match st[i]? with
 | some x=>jtT x.1 v x.2
 | none=>[.inr "row",.inl c,v]
def fi (h:List Key→Key) (c:Int) (m:Key) (st:List (Int×Key)):Nat→List Key
 | 0=>cK c st 0 m
 | i+1=>cK c st (i+1) (h (fi h c m st i))
def kh (h:List Key→Key) (c:Int) (m:Key) (st:List (Int×Key)) (k:Nat):List (List Key):=(List.range k).map (fi h c m st)
def cU (h : List Key → Key) (m : Key) (st : List (Int × Key)) : Nat → List (List Key) × Key
  | 0 => ([], m)
  | i + 1 => match st[i]? with
    | some x => if x.1 = 1 then ((cU h m st i).1 ++ [jtT x.1 (cU h m st i).2 x.2], h (jtT x.1 (cU h m st i).2 x.2)) else cU h m st i
    | none => cU h m st i
def jp (h:List Key→Key) (el:Nat) (m:Key) (st:List (Int×Key)):List Key:=[.inr "row",.inl (el:Int),if el=0 then h [.inr "void"] else (cU h m st st.length).2]
def rQ (h:List Key→Key) (el:Nat) (m:Key) (st:List (Int×Key)):List (List Key):=(if el=0 then [[.inr "void"]] else (cU h m st st.length).1)++[jp h el m st]
def dl:List Int→Nat→Nat→List Key→List (Option Key)
 | [],lo,_,ks=>[ks[lo]?]
 | t::r,lo,hi,ks=>if t=1 then ks[lo]?::dl r (lo+1) hi ks else ks[hi - 1]?::dl r lo (hi - 1) ks
def cR (ts:List Int) (ks:List Key):List Key:=(dl ts 0 ks.length ks).map fun x=>x.getD (.inl 0)
def stR (ts:List Int) (ks:List Key):List (Int×Key):=(ts.zip ks).reverse
def inM (ts:List Int) (ks:List Key):Key:=((cR ts ks)[ts.length]?).getD (.inl 0)
abbrev stG (ts:List Int) (ks:List Key):List (Int×Key):=stR ts (cR ts ks)
def cJ (K:W.Frag) (A:Adr):Sp:=fun vs H Q _=>∃ (a:Addr) (ns:List Int) (k:Int),vs=[.ref a,.int k]∧SqL K H a (ns.map V.int)∧0≤k∧∀ z:Int,Q (.int z) H
def om (K:W.Frag) (A:Adr):Sp:=fun vs H Q _=>∃ c:Int,vs=[.int c]∧∀ (z:Str) (H':Hp),ao H H'→z.length≤4→cg z=true→Q (.str z) H'
def gD (K:W.Frag) (A:Adr):Sp:=fun vs H Q _=>∃ c:Int,vs=[.int c]∧∀ (e:Key) (H':Hp),ao H H'→enK e→Q (kV e) H'
def oF (K:W.Frag) (A:Adr):Sp:=fun vs H Q _=>∃ c:Int,vs=[.int c]∧∀ m:Nat,m<2^60→Q (.int (m:Int)) H
def nV (K:W.Frag) (A:Adr):Sp:=fun vs H Q _=>∃ c el:Nat,vs=[.int (c:Int),.int (el:Int)]∧el≤c∧c≤2^60∧∀ D,H D=none→Q (.ref D) (upd H D (.lst ((bf c el).map V.int)))
def lW (K:W.Frag) (A:Adr):Sp:=fun vs H Q _=>∃ (t:Int) (o a:Key),vs=[.int t,kV o,kV a]∧∀ p,H p=none→Q (.ref p) (upd H p (.tup ((jtT t o a).map kV)))
def iA (K:W.Frag) (A:Adr):Sp:=fun vs H Q _=>∃ (f b:Addr) (g:List Key→Option Key) (n:Nat),vs=[.ref f]∧Stp A H f b g n∧n≤40000∧
 ∀ (O:Addr) (po:List Addr) (v:Key) (g':List Key→Option Key) (H':Hp),aG b H H'→Stp A H' f b g' (n+1)→Sub g g'→g' [.inr "void"]=some v→okP v=true→szK v≤200→H' O=some (.lst (po.map V.ref))→PK H' po [[.inr "void"],[.inr "row",.inl 0,v]]→H O=none→Q (.ref O) H'
def lJ (K:W.Frag) (A:Adr):Sp:=fun vs H Q _=>∃ (L P:Addr) (ts:List Int) (ks:List Key),vs=[.ref L,.ref P]∧H L=some (.lst (ts.map V.int))∧H P=some (.tup (ks.map kV))∧ks.length=ts.length+1∧ts.length≤60∧(∀ t∈ts,t=0∨t=1)∧
 ∀ (R Z:Addr) (ps:List Addr) (H':Hp),ao H H'→H' R=some (.tup [kV (inM ts ks),.ref Z])→H' Z=some (.lst (ps.map V.ref))→ps.length=ts.length→(∀ (j:Nat) (p:Addr) (x:Int×Key),ps[j]?=some p→(stG ts ks)[j]?=some x→H' p=some (.tup [.int x.1,kV x.2]))→Q (.ref R) H'
def Ia (A:Adr) (f b:Addr) (c el:Nat) (m:Key) (st:List (Int×Key)) (g:List Key→Option Key) (n:Nat) (H:Hp) (R:Addr→Addr→Hp→Prop):Prop:=
 ∀ (Y O:Addr) (py po:List Addr) (ty to:List (List Key)) (g':List Key→Option Key) (H':Hp),aG b H H'→Stp A H' f b g' (n+130)→Sub g g'→H' Y=some (.lst (py.map V.ref))→H' O=some (.lst (po.map V.ref))→PK H' py ty→PK H' po to→ty.length=st.length+1→1≤to.length→to.length≤70→(∀ k∈ty,szT k≤20000)→(∀ k∈to,szT k≤20000)→(∀ h,Ext g' h→ty=kh h c m st (st.length+1)∧to=rQ h el m st)→R Y O H'
def lF (K:W.Frag) (A:Adr):Sp:=fun vs H Q _=>∃ (f b R Z:Addr) (c el:Nat) (m:Key) (st:List (Int×Key)) (ps:List Addr) (g:List Key→Option Key) (n:Nat),vs=[.ref f,.int (c:Int),.int (el:Int),.ref R]∧Stp A H f b g n∧n+400≤40000∧1≤el∧el≤c∧c<2^60∧H R=some (.tup [kV m,.ref Z])∧H Z=some (.lst (ps.map V.ref))∧ps.length=st.length∧(∀ (j:Nat) (p:Addr) (x:Int×Key),ps[j]?=some p→st[j]?=some x→H p=some (.tup [.int x.1,kV x.2]))∧st.length≤60∧enK m∧(∀ x∈st,(x.1=0∨x.1=1)∧enK x.2)∧
 Ia A f b c el m st g n H fun Y O H'=>∀ p,H' p=none→Q (.ref p) (upd H' p (.tup [.ref Y,.ref O]))
def sA (K:W.Frag) (A:Adr):Sp:=fun vs H Q _=>∃ (a:Addr) (x y:V),vs=[.ref a,x,y]∧H a=some (fq A.c_Broken a none)∧∀ dx,H dx=none→Q .non (upd (upd (upd H a (fq A.c_Broken a (some dx))) dx (kW [("due",x)] dx)) dx (kW (dH "came" y [("due",x)]) dx))
def yT (h:List Key→Key) (c el:Nat) (ks:List Key):List Key:=if c=0 then [.inr "row",.inl 0,h [.inr "void"]] else fi h c (inM (bf c el) ks) (stG (bf c el) ks) (bf c el).length
def oT (h:List Key→Key) (c el:Nat) (ks:List Key):List Key:=jp h el (inM (bf c el) ks) (stG (bf c el) ks)
def bI (c el:Nat):Nat:=if c=0 then 0 else (bf c el).length+1
structure Ask (A:Adr) (H:Hp) (f b:Addr) (g:List Key→Option Key) (n:Nat) (w m:V) (e k:Dat):Prop where
 s:Stp A H f b g n
 hn:n+400≤40000
 he:aJ H w e
 hm:aJ H m k
 sh:gT k
structure eS (k:Dat) (n:Nat) (ks:List Key):Prop where
 e:k=.tup (ks.map bX)
 l:ks.length=n
 en:∀ x∈ks,enK x
def GTQ (A:Adr) (f b:Addr) (c el:Nat) (ks:List Key) (g:List Key→Option Key) (n:Nat) (H:Hp) (Q:VK):Prop:=
 ∀ (Y O:Addr) (py po:List Addr) (ty to:List (List Key)) (g':List Key→Option Key) (H':Hp),aG b H H'→Stp A H' f b g' (n+130)→Sub g g'→H' Y=some (.lst (py.map V.ref))→H' O=some (.lst (po.map V.ref))→(c=0→Y≠O∧H Y=none)→PK H' py ty→PK H' po to→(∀ k∈ty,szT k≤20000)→(∀ k∈to,szT k≤20000)→
  (∀ h,Ext g' h→(∃ r,ty=r++[yT h c el ks])∧(∃ r,to=r++[oT h c el ks])∧(c=0→ty=[[.inr "void"],[.inr "row",.inl 0,h [.inr "void"]]]∧to=[[.inr "void"],[.inr "row",.inl 0,h [.inr "void"]]]))→∀ p,H' p=none→Q (.ref p) (upd H' p (.tup [.ref Y,.ref O]))
def fB (K:W.Frag) (A:Adr):Sp:=fun vs H Q E=>∃ (f b:Addr) (g:List Key→Option Key) (n:Nat) (v w m:V) (d e k:Dat),vs=[.ref f,v,w,m]∧Ask A H f b g n w m e k∧aJ H v d∧
 (aW d e=false→E (.ref A.c_NoPlace) none H)∧
 ∀ c el:Nat,d=.int (c:Int)→e=.int (el:Int)→el≤c→c<2^60→
  (cx (bI c el) k=false∧∀ H',ao H H'→E (.ref A.c_NoPaper) none H')∨∃ ks,eS k (bI c el) ks∧GTQ A f b c el ks g n H Q
def jZ (K : W.Frag) (A : Adr) : Sp := fun vs H Q E => ∃ (f b : Addr) (g : List Key → Option Key) (n : Nat) (v w m : V) (d e k : Dat), vs = [.ref f, v, w, m] ∧ Ask A H f b g n w m e k ∧ aJ H v d ∧
  ((cN d = false ∧ E (.ref A.c_NoHead) none H) ∨ ∃ (c : Nat) (mk : Key), d = .tup [.int (c : Int), bX mk] ∧ c < 2 ^ 60 ∧ okP mk = true ∧
    (aW (.int (c : Int)) e = false → E (.ref A.c_NoPlace) none H) ∧
    ∀ el : Nat, e = .int (el : Int) → el ≤ c → (cx (bI c el) k = false ∧ ∀ H', ao H H' → E (.ref A.c_NoPaper) none H') ∨
      ∃ ks, eS k (bI c el) ks ∧ ∀ (w : Key) (g' : List Key → Option Key) (H' : Hp), aG b H H' → Stp A H' f b g' (n + 131) → Sub g g' → okP w = true → (∀ h, Ext g' h → w = h (yT h c el ks)) →
        (w = mk → ∀ (u : Key) (g'' : List Key → Option Key) (H'' : Hp), aG b H' H'' → Stp A H'' f b g'' (n + 132) → Sub g' g'' → (∀ h, Ext g'' h → u = h (oT h c el ks)) → Q (kV u) H'') ∧
        (w ≠ mk → ∀ (dx : Addr) (H'' : Hp), ao H' H'' → E (.ref A.c_Broken) (some dx) H''))
def cE (A:Adr):Nat→Addr
 | 0=>A.c_NoHead
 | 1=>A.c_NoPlace
 | 2=>A.c_NoPaper
 | _=>A.c_Broken
def wE (A:Adr) (H:Hp) (v:V):Option Nat→Prop
 | none=>v=.non
 | some i=>i<4∧∃ a d,v=.ref a∧H a=some (kP (cE A i) d a)
def Ai:Option Nat→Int
 | none=> -1
 | some i=>i
def eX:List Bool→Option Nat
 | []=>none
 | b::r=>if b then some 0 else (eX r).map (·+1)
def fG (K:W.Frag) (A:Adr):Sp:=fun vs H Q _=>∃ (v:V) (o:Option Nat),vs=[v,.int (Ai o)]∧wE A H v o∧∀ H',ao H H'→Q (.bl true) H'
def gK (K:W.Frag) (A:Adr):Sp:=fun vs H Q _=>∃ (L:Addr) (bs:List Bool),vs=[.ref L]∧H L=some (.lst (bs.map V.bl))∧bs.length≤100∧Q (.int (Ai (eX bs))) H
inductive ph (d e k:Dat):Option Nat→Prop
 | place (h:aW d e=false):ph d e k (some 1)
 | paper (c el:Nat) (hd:d=.int (c:Int)) (he:e=.int (el:Int)) (h1:el≤c) (h2:c<2^60) (h:cx (bI c el) k=false):ph d e k (some 2)
 | good (c el:Nat) (ks:List Key) (hd:d=.int (c:Int)) (he:e=.int (el:Int)) (h1:el≤c) (h2:c<2^60) (h:eS k (bI c el) ks):ph d e k none
inductive jy (g:List Key→Option Key) (d e k:Dat):Option Nat→Prop
 | head (h:cN d=false):jy g d e k (some 0)
 | place (c:Nat) (mk:Key) (hd:d=.tup [.int (c:Int),bX mk]) (h2:c<2^60) (ok:okP mk=true) (h:aW (.int (c:Int)) e=false):jy g d e k (some 1)
 | paper (c el:Nat) (mk:Key) (hd:d=.tup [.int (c:Int),bX mk]) (h2:c<2^60) (ok:okP mk=true) (he:e=.int (el:Int)) (h1:el≤c) (h:cx (bI c el) k=false):jy g d e k (some 2)
 | good (c el:Nat) (mk tm:Key) (ks:List Key) (hd:d=.tup [.int (c:Int),bX mk]) (h2:c<2^60) (ok:okP mk=true) (he:e=.int (el:Int)) (h1:el≤c) (h:eS k (bI c el) ks) (ht:∀ h,Ext g h→tm=h (yT h c el ks)):jy g d e k (if tm=mk then none else some 3)
def iI (K:W.Frag) (A:Adr):Sp:=fun vs H Q _=>∃ (what:Int) (f b:Addr) (g:List Key→Option Key) (n:Nat) (v w m:V) (d e k:Dat) (o:Option Nat),vs=[.int what,.ref f,v,w,m]∧Ask A H f b g n w m e k∧aJ H v d∧((what=0∧ph d e k o)∨(what=1∧jy g d e k o))∧
 ∀ (u:V) (g':List Key→Option Key) (H':Hp),aG b H H'→Stp A H' f b g' (n+132)→Sub g g'→wE A H' u o→Q u H'
def oG (K:W.Frag) (A:Adr):Sp:=fun vs H Q _=>∃ (z:Int) (c:Nat),vs=[.int z,.int (c:Int)]∧c<2^60∧∀ (v:V) (d:Dat) (H':Hp),ao H H'→aJ H' v d→bv d=false→Q v H'
def lb (K:W.Frag) (A:Adr):Sp:=fun vs H Q _=>∃ (z:Int) (c:Nat),vs=[.int z,.int (c:Int)]∧c<2^60∧∀ (v:V) (d:Dat) (H':Hp),ao H H'→aJ H' v d→aW (.int (c:Int)) d=false→Q v H'
def jY (K:W.Frag) (A:Adr):Sp:=fun vs H Q _=>∃ z:Int,vs=[.int z]∧∀ (v:V) (d:Dat) (H':Hp),ao H H'→aJ H' v d→bo d=false→Q v H'
def lw (K:W.Frag) (A:Adr):Sp:=fun vs H Q _=>∃ (z:Int) (c:Nat) (mk:Key),vs=[.int z,.int (c:Int),kV mk]∧c<2^60∧∀ (v:V) (d:Dat) (H':Hp),ao H H'→aJ H' v d→cN d=false→Q v H'
def lM (K:W.Frag) (A:Adr):Sp:=fun vs H Q _=>∃ (z:Int) (P:Addr) (ks:List Key),vs=[.int z,.ref P]∧H P=some (.tup (ks.map kV))∧ks.length≤61∧∀ (v:V) (d:Dat) (H':Hp),ao H H'→aJ H' v d→cx ks.length d=false→gT d→Q v H'
def lf (K:W.Frag) (A:Adr):Sp:=fun vs H Q _=>∃ c el:Nat,vs=[.int (c:Int),.int (el:Int)]∧el≤c∧c<2^60∧Q (.int (bI c el:Nat)) H
def tpF (h : List Key → Key) : List Int → List Key → Key × Key
  | [], ks => (ks.getD 0 (.inl 0), ks.getD 0 (.inl 0))
  | t :: r, ks => if t = 1 then (h [.inr "joint", ks.getD 0 (.inl 0), (tpF h r ks.tail).1], h [.inr "joint", ks.getD 0 (.inl 0), (tpF h r ks.tail).2])
    else (h [.inr "joint", (tpF h r ks.dropLast).1, ks.getD (ks.length - 1) (.inl 0)], (tpF h r ks.dropLast).2)
def iM (K:W.Frag) (A:Adr) (j:Nat):Sp:=fun vs H Q _=>∃ (f b P:Addr) (c el:Nat) (ks:List Key) (g:List Key→Option Key) (n:Nat),vs=[.ref f,.int (c:Int),.int (el:Int),.ref P]∧Stp A H f b g n∧n+400≤40000∧1≤el∧el≤c∧c<2^60∧H P=some (.tup (ks.map kV))∧ks.length=(bf c el).length+1∧(bf c el).length<j∧(bf c el).length≤60∧(∀ x∈ks,enK x)∧
 ∀ (p:Addr) (y o:Key) (g':List Key→Option Key) (H':Hp),aG b H H'→Stp A H' f b g' (n+2*(bf c el).length)→Sub g g'→H' p=some (.tup [kV y,kV o])→okP y=true→okP o=true→szK y≤70+200*(bf c el).length→szK o≤70+200*(bf c el).length→(∀ h,Ext g' h→(y,o)=tpF h (bf c el) ks)→Q (.ref p) H'
def lD (K:W.Frag) (A:Adr):Sp:=fun vs H Q _=>∃ (f b P:Addr) (c el:Nat) (ks:List Key) (g:List Key→Option Key) (n:Nat),vs=[.ref f,.int (c:Int),.int (el:Int),.ref P]∧Stp A H f b g n∧n+500≤40000∧el≤c∧c<2^60∧H P=some (.tup (ks.map kV))∧ks.length=bI c el∧(∀ x∈ks,enK x)∧
 ∀ (p:Addr) (y o:Key) (g':List Key→Option Key) (H':Hp),aG b H H'→Stp A H' f b g' (n+130)→Sub g g'→H' p=some (.tup [kV y,kV o])→okP y=true→szK y≤50000→(∀ h,Ext g' h→y=h (yT h c el ks)∧o=h (oT h c el ks))→Q (.ref p) H'
def lT (K:W.Frag) (A:Adr):Sp:=fun vs H Q _=>∃ (z:Int) (m:Key),vs=[.int z,kV m]∧okP m=true∧szK m≤50000∧∀ (e:Key) (H':Hp),ao H H'→okP e=true→Q (kV e) H'
def iF (K:W.Frag) (A:Adr):Sp:=fun vs H Q _=>∃ (z:Int) (s:Nat),vs=[.int z,.int (s:Int)]∧s≤1000∧∀ (v:V) (d:Dat) (H':Hp),ao H H'→aJ H' v d→Q v H'
def lI (K:W.Frag) (A:Adr):Sp:=fun vs H Q _=>∃ (f b a P:Addr) (ns:List Int) (c el:Nat) (ks:List Key) (mk:Key) (g:List Key→Option Key) (n:Nat),vs=[.ref f,.ref a,.int (c:Int),.int (el:Int),.ref P,kV mk]∧Stp A H f b g n∧n+1000≤40000∧SqL K H a (ns.map V.int)∧el≤c∧c<2^60∧H P=some (.tup (ks.map kV))∧ks.length=bI c el∧(∀ x∈ks,enK x)∧okP mk=true∧szK mk≤50000∧(∀ h,Ext g h→mk=h (yT h c el ks))∧
 ∀ (g':List Key→Option Key) (H':Hp),aG b H H'→Stp A H' f b g' (n+300)→Sub g g'→Q (.bl true) H'
def gw (es:List Key) (what:Int) (d e:Dat):Option Nat:=if what=0 then (if aW (.int es.length) d then none else some 1) else (if (aW d e&&leD (es.length:Int) d) then none else some 1)
def jJ (K:W.Frag) (A:Adr):Sp:=fun vs H Q _=>∃ (what:Int) (x f L D b:Addr) (es:List Key) (kvs:List (List Key×Key)) (g:List Key→Option Key) (n:Nat) (v w:V) (d e:Dat),vs=[.int what,.ref x,v,w]∧cw A H x f L D b es kvs g n∧n+200≤30000∧aJ H v d∧aJ H w e∧
 ∀ (u:V) (kvs':List (List Key×Key)) (g':List Key→Option Key) (H':Hp),bC b D H H'→cw A H' x f L D b es kvs' g' (n+200)→Sub g g'→wE A H' u (gw es what d e)→Q u H'
def lA (K:W.Frag) (A:Adr):Sp:=fun vs H Q _=>∃ (f b a:Addr) (ns:List Int) (g:List Key→Option Key) (n:Nat),vs=[.ref f,.ref a]∧Stp A H f b g n∧n+10000≤30000∧SqL K H a (ns.map V.int)∧ns.length≤63∧∀ H',Q (.bl true) H'
def oz (K:W.Frag) (A:Adr):Sp:=fun vs H Q _=>∃ (a:Addr) (ns:List Int),vs=[.ref a]∧SqL K H a (ns.map V.int)∧ns.length≤63∧yb A H∧∀ H',Q (.bl true) H'
end Rs
namespace Rs
open PySem PySem.Spec PyProof.Rows L2
def cD (K:W.Frag) (A:Adr):L2.jc:=[(fF,rD K A),(fX,sM K A),(fW,rL K A),(fZ,sN K A)]
def BZ (K:W.Frag) (A:Adr):TE:=au (lr K A) (fun _=>E0) (aa (ad 0) (af))
def Du (K:W.Frag) (A:Adr):TE:=bx A.c_Numbers "number_of" (rz K A) (fun _=>E0) (ad 1) (aa (ad 0) (af))
def Bs (K:W.Frag) (A:Adr):TS:=aD (tBM K "dict" rl (ad 2) (aa (ad 0) (aa (tOp (aL K) (tOp (eV) (ad 1) (tCB (cy K) (aa (ad 2) (af)))) (tC (.int 5))) (af))))
def CZ (K:W.Frag) (A:Adr):TS:=av (aA (tCB (cy K) (aa (ad 0) (af))) (aw 1)) (av (gQ (iS K (ad 0)) (aw 2) (aR (bO K (tCB (eD) (aa (ad 2) (aa (tC (.ty "str")) (af))))) (aA (tOp (aL K) (tOp (eV) (tC (.int 2)) (ad 1)) (tCB (cy K) (aa (ad 2) (af)))) (aw 1)) (aA (tOp (aL K) (tOp (eV) (tC (.int 2)) (ad 1)) (ad 2)) (aw 1)))) (aD (tOp (bn) (ad 1) (ad 3))))
def GR (K:W.Frag) (A:Adr):TS:=aD (bZ (tCB (eD) (aa (ad 0) (aa (tC (.ty "int")) (af)))) (oa (tCB (eD) (aa (ad 0) (aa (tC (.ty "bool")) (af))))))
def Hb (K:W.Frag) (A:Adr):TS:=av (aR (bO K (au (iN K A) (fun _=>E0) (aa (ad 0) (af)))) (aD (dD (mLe) (mLt) (tC (.int 0)) (ad 0) (tOp (kM) (tC (.int 10)) (tC (.int 60))))) (aK)) (aD (tCB (eD) (aa (ad 0) (aa (tC (.ty "str")) (af)))))
def GS (K:W.Frag) (A:Adr):TS:=av (aR (dj (bO K (tCB (eD) (aa (ad 0) (aa (tC (.ty "tuple")) (af)))))) (aD (tC (.bl false))) (aK)) (av (aR (dj (aT (dD (mLe) (mLe) (tC (.int 1)) (tCB (cy K) (aa (ad 0) (af))) (tC (.int 8))))) (aD (tC (.bl false))) (aK)) (aD (bZ (tCB (eD) (aa (tOp (aI K) (ad 0) (tC (.int 0))) (aa (tC (.ty "str")) (af)))) (tCB (wk) (aa (dJ [] (iS K (ad 0)) (fun _ H Q=>Q true H) (au (iR K A) (fun _=>E0) (aa (ad 0) (af)))) (af))))))
def Ic (K:W.Frag) (A:Adr):TS:=av (aR (bO K (au (iN K A) (fun _=>E0) (aa (ad 0) (af)))) (aD (mJ ((tu (ad 0))::(tC (.str ";"))::[]) Str.empty)) (aK)) (av (aA (tCB (cy K) (aa (ad 0) (af))) (aw 1)) (aD (mJ ((tu (ad 1))::(tC (.str ":"))::(tu (ad 0))::[]) Str.empty)))
def Hr (K:W.Frag) (A:Adr):TS:=av (aR (dj (bO K (au (lU K A) (fun _=>E0) (aa (ad 0) (af))))) (jq) (aK)) (aD (tBM K "str" nQ (tC (.str "")) (aa (dJ [] (iS K (ad 0)) (fun _ H Q=>Q true H) (au (oE K A) (fun _=>E0) (aa (ad 0) (af)))) (af))))
def T_2 (K:W.Frag) (A:Adr):TS:=av (aR (dj (bO K (au (lU K A) (fun _=>E0) (aa (ad 1) (af))))) (jq) (aK)) (av (aR (aT (tOp (mD K) (ad 1) (fz K (ad 0) "given"))) (aA (tCB (cy K) (aa (fz K (ad 0) "given") (af))) (rZ (fz K (ad 0) "given") (ad 1) oK)) (aK)) (aD (tOp (aI K) (fz K (ad 0) "given") (ad 1))))
def BF (K:W.Frag) (A:Adr):TSM:=qd (my A.t_60 ⟨202,11,202,37⟩ fF [])
def T_1 (K:W.Frag) (A:Adr):TS:=mL K (ad 0) (gY) "given"
def AV (K:W.Frag) (A:Adr) (q0:Addr):TSM:=pw (lC (aA (lP A.c_Numbers (sj K A) (fun _=>E0) (af)) (aw 0))) (qd (my A.t_42 ⟨205,11,205,47⟩ fX [q0]))
def AB (K:W.Frag) (A:Adr) (q0 q1:Addr):TSM:=pw (lC (aA (gY) (aw 1))) (pw (lC (aA (my A.t_32 ⟨226,4,227,80⟩ fW [q0,q1]) (aw 2))) (qd (ad 2)))
def Cf (K:W.Frag) (A:Adr) (q0:Addr):TSM:=pw (lC (aA (my A.t_36 ⟨231,4,238,42⟩ fZ [q0]) (aw 1))) (qd (ad 1))
def ID (K:W.Frag) (A:Adr):TS:=av (aR (aT (tOp (bu K) (tOp (bn) (ad 0) (tC (.int 5))) (tC (.int 0)))) (aD (au (nR K A) (fun _=>E0) af)) (aK)) (av (aR (aT (tOp (bu K) (tOp (bn) (ad 0) (tC (.int 5))) (tC (.int 1)))) (aD (au (oB K A) (fun _=>E0) af)) (aK)) (av (aR (aT (tOp (bu K) (tOp (bn) (ad 0) (tC (.int 5))) (tC (.int 2)))) (aD (au (oj K A) (fun _=>E0) (aa (tOp (aL K) (tC (.int 1)) (tOp (bn) (tOp (br) (ad 0) (tC (.int 5))) (tC (.int 9)))) (af)))) (aK)) (aD (au (nP K A) (fun _=>E0) (aa (tOp (aL K) (tC (.int 1)) (tOp (bn) (tOp (br) (ad 0) (tC (.int 5))) (tC (.int 9)))) (af))))))
def Hc (K:W.Frag) (A:Adr):TS:=av (aR (aT (tOp (mLt) (ad 1) (tCB (cy K) (aa (ad 0) (af))))) (aD (tOp (aI K) (ad 0) (ad 1))) (aK)) (aD (tC (.int 0)))
def Il (K:W.Frag) (A:Adr):TS:=av (aR (aT (tOp (bu K) (tOp (bn) (ad 0) (tC (.int 3))) (tC (.int 0)))) (aD (tOp (bn) (tOp (br) (ad 0) (tC (.int 3))) (tC (.int 41)))) (aK)) (av (aR (aT (tOp (bu K) (tOp (bn) (ad 0) (tC (.int 3))) (tC (.int 1)))) (aD (tOp (cC) (tOp (aL K) (tOp (iZ) (tC (.int 1)) (tOp (aL K) (tC (.int 1)) (tOp (bn) (tOp (br) (ad 0) (tC (.int 3))) (tC (.int 59))))) (tOp (bn) (tOp (br) (ad 0) (tC (.int 177))) (tC (.int 4)))) (tC (.int 1)))) (aK)) (aD (tOp (bn) (tOp (br) (ad 0) (tC (.int 3))) (tOp (iZ) (tC (.int 1)) (tC (.int 60))))))
def Iy (K:W.Frag) (A:Adr):TS:=av (aA (tC (.int 1)) (aw 1)) (av (ii (aT (tOp (mLt) (tOp (eV) (tC (.int 2)) (ad 1)) (ad 0))) (aA (tOp (eV) (tC (.int 2)) (ad 1)) (aw 1))) (aD (ad 1)))
def Bx (K:W.Frag) (A:Adr):TS:=aD (ad 2)
def Cs (K:W.Frag) (A:Adr):TS:=av (ii (aT (dD (mLt) (mLt) (tC (.int 0)) (ad 1) (ad 0))) (av (aA (au (jT K A) (fun _=>E0) (aa (ad 0) (af))) (aw 3)) (av (aA (tOp (aL K) (ad 2) (tC (.int 1))) (aw 2)) (aR (aT (tOp (mGt) (ad 1) (ad 3))) (av (aA (tOp (cC) (ad 0) (ad 3)) (aw 0)) (aA (tOp (cC) (ad 1) (ad 3)) (aw 1))) (aA (ad 3) (aw 0)))))) (Bx K A)
def Ik (K:W.Frag) (A:Adr):TS:=av (aA (tCB (pQ) (aa (ad 0) (aa (tC (.int 1)) (af)))) (aw 2)) (av (ii (aT (dD (mLt) (mLt) (tC (.int 0)) (ad 1) (ad 0))) (av (aA (au (jT K A) (fun _=>E0) (aa (ad 0) (af))) (aw 3)) (av (aA (tOp (aL K) (ad 2) (tC (.int 1))) (aw 2)) (aR (aT (tOp (mGt) (ad 1) (ad 3))) (av (aA (tOp (cC) (ad 0) (ad 3)) (aw 0)) (aA (tOp (cC) (ad 1) (ad 3)) (aw 1))) (aA (ad 3) (aw 0)))))) (aD (ad 2)))
def Ce (K:W.Frag) (A:Adr):TS:=aD (tBM K "str" nQ (tC (.str "")) (aa (dJ [0,1] (gJ (aa (tOp (bn) (ad 0) (tC (.int 5))) (af))) (fun _ H Q=>Q true H) (tOp (aI K) (ad 2) (tOp (bn) (tOp (aL K) (tOp (br) (ad 1) (tC (.int 5))) (tOp (eV) (ad 0) (tOp (bn) (tOp (br) (ad 1) (tC (.int 470))) (tC (.int 7))))) (tC (.int 94))))) (af)))
def GO (K:W.Frag) (A:Adr):TS:=av (aA (tC (.str " !\"#$&'()*+,-./0123456789:;<=>?@ABCDEFGHIJKLMNOPQRSTUVWXYZ[\\]^_`")) (aw 1)) (av (aA (tOp (aL K) (ad 1) (tC (.str "abcdefghijklmnopqrstuvwxyz{|}~"))) (aw 1)) (aD (tBM K "str" nQ (tC (.str "")) (aa (dJ [0,1] (gJ (aa (tOp (bn) (ad 0) (tC (.int 5))) (af))) (fun _ H Q=>Q true H) (tOp (aI K) (ad 2) (tOp (bn) (tOp (aL K) (tOp (br) (ad 1) (tC (.int 5))) (tOp (eV) (ad 0) (tOp (bn) (tOp (br) (ad 1) (tC (.int 470))) (tC (.int 7))))) (tC (.int 94))))) (af)))))
def Hq (K:W.Frag) (A:Adr):TS:=av (aR (aT (tOp (bu K) (tOp (bn) (ad 0) (tC (.int 4))) (tC (.int 0)))) (aD (au (om K A) (fun _=>E0) (aa (tOp (br) (ad 0) (tC (.int 4))) (af)))) (aK)) (av (aR (aT (tOp (bu K) (tOp (bn) (ad 0) (tC (.int 4))) (tC (.int 1)))) (aD (tOp (bn) (tOp (br) (ad 0) (tC (.int 4))) (tOp (kM) (tC (.int 10)) (tC (.int 60))))) (aK)) (aD (tOp (bn) (tOp (br) (ad 0) (tC (.int 4))) (tC (.int 7)))))
def IF (K:W.Frag) (A:Adr) (n:Nat):TS:=av (aR (aT (tOp (bu K) (ad 2) (ad 1))) (aD (aO (aa (tOp (aI K) (ad 3) (tC (.int 0))) (aa (tOp (aI K) (ad 3) (tC (.int 0))) (af))))) (aK)) (av (aA (au (jT K A) (fun _=>E0) (aa (ad 1) (af))) (aw 4)) (av (aR (aT (tOp (mGt) (ad 2) (ad 4))) (av (aA (au (iM K A n) (fun _=>E0) (aa (ad 0) (aa (tOp (cC) (ad 1) (ad 4)) (aa (tOp (cC) (ad 2) (ad 4)) (aa (tSl (gr K) (ad 3) (dZ (tC (.int 1))) (cX)) (af)))))) (sQ K 2 (ja (aw 5) (ja (aw 6) sd)))) (aD (aO (aa (dk (cD K A) (fun _=>E0) (ad 0) (aa (aO (aa (tC (.str "joint")) (aa (tOp (aI K) (ad 3) (tC (.int 0))) (aa (ad 5) (af))))) (af))) (aa (dk (cD K A) (fun _=>E0) (ad 0) (aa (aO (aa (tC (.str "joint")) (aa (tOp (aI K) (ad 3) (tC (.int 0))) (aa (ad 6) (af))))) (af))) (af)))))) (aK)) (av (aA (au (iM K A n) (fun _=>E0) (aa (ad 0) (aa (ad 4) (aa (ad 2) (aa (tSl (gr K) (ad 3) (cX) (dZ (tUn dM (tC (.int 1))))) (af)))))) (sQ K 2 (ja (aw 5) (ja (aw 6) sd)))) (aD (aO (aa (dk (cD K A) (fun _=>E0) (ad 0) (aa (aO (aa (tC (.str "joint")) (aa (ad 5) (aa (tOp (aI K) (ad 3) (tUn dM (tC (.int 1)))) (af))))) (af))) (aa (ad 6) (af))))))))
def Cc (K:W.Frag) (A:Adr):TS:=aD (aO (aa (dk (cD K A) (fun _=>E0) (ad 0) (aa (aO (aa (tC (.str "row")) (aa (ad 1) (aa (tOp (aI K) (ad 5) (tC (.int 0))) (af))))) (af))) (aa (dk (cD K A) (fun _=>E0) (ad 0) (aa (aO (aa (tC (.str "row")) (aa (ad 2) (aa (tOp (aI K) (ad 5) (tC (.int 1))) (af))))) (af))) (af))))
def Iz (K:W.Frag) (A:Adr):TS:=av (aA (dk (cD K A) (fun _=>E0) (ad 0) (aa (aO (aa (tC (.str "void")) (af))) (af))) (aw 4)) (av (aA (aO (aa (ad 4) (aa (ad 4) (af)))) (aw 5)) (av (aR (aT (tOp (mGt) (ad 2) (tC (.int 0)))) (aA (au (iM K A 70) (fun _=>E0) (aa (ad 0) (aa (ad 1) (aa (ad 2) (aa (ad 3) (af)))))) (aw 5)) (aR (aT (tOp (mGt) (ad 1) (tC (.int 0)))) (aA (aO (aa (tOp (aI K) (ad 3) (tC (.int 0))) (aa (ad 4) (af)))) (aw 5)) (aK))) (aD (aO (aa (dk (cD K A) (fun _=>E0) (ad 0) (aa (aO (aa (tC (.str "row")) (aa (ad 1) (aa (tOp (aI K) (ad 5) (tC (.int 0))) (af))))) (af))) (aa (dk (cD K A) (fun _=>E0) (ad 0) (aa (aO (aa (tC (.str "row")) (aa (ad 2) (aa (tOp (aI K) (ad 5) (tC (.int 1))) (af))))) (af))) (af)))))))
def HV (K:W.Frag) (A:Adr):TS:=av (aA (bQ (aa (tC .non) (aa (tC (.bl true)) (aa (tC (.bl false)) (aa (tCB (mm) (aa (ad 1) (af))) (aa (tOp (cC) (tUn dM (tC (.int 1))) (ad 1)) (aa (tOp (iZ) (tC (.int 1)) (tC (.int 60))) (aa (tOp (aL K) (tOp (iZ) (tC (.int 1)) (tC (.int 60))) (ad 1)) (aa (aO (aa (ad 1) (af))) (aa (bQ (aa (ad 1) (af))) (af))))))))))) (aw 2)) (aD (tOp (aI K) (ad 2) (tOp (bn) (ad 0) (tC (.int 9)))))
def IE (K:W.Frag) (A:Adr):TS:=av (aA (tOp (bn) (tOp (br) (ad 0) (tC (.int 9))) (tOp (kM) (tC (.int 10)) (tC (.int 30)))) (aw 2)) (av (aA (bQ (aa (tC .non) (aa (tC (.bl true)) (aa (tC (.bl false)) (aa (tCB (mm) (aa (tOp (bn) (ad 2) (tOp (aL K) (ad 1) (tC (.int 1)))) (af))) (aa (tOp (cC) (tUn dM (tC (.int 1))) (ad 2)) (aa (tOp (aL K) (ad 1) (tC (.int 1))) (aa (tOp (aL K) (tOp (aL K) (ad 1) (tC (.int 2))) (ad 2)) (aa (aO (aa (ad 1) (af))) (aa (bQ (aa (tC (.int 0)) (af))) (af))))))))))) (aw 3)) (aD (tOp (aI K) (ad 3) (tOp (bn) (ad 0) (tC (.int 9))))))
def IG (K:W.Frag) (A:Adr):TS:=av (aA (tOp (bn) (tOp (br) (ad 0) (tC (.int 9))) (tOp (kM) (tC (.int 10)) (tC (.int 30)))) (aw 1)) (av (aA (bQ (aa (tC .non) (aa (tC (.bl true)) (aa (tC (.bl false)) (aa (tOp (cC) (tUn dM (tC (.int 1))) (ad 1)) (aa (tOp (aL K) (tOp (kM) (tC (.int 10)) (tC (.int 60))) (ad 1)) (aa (aO (aa (ad 1) (af))) (aa (bQ (aa (ad 1) (af))) (aa (gY) (aa (aO (aa (tC (.str "a")) (af))) (af))))))))))) (aw 2)) (aD (tOp (aI K) (ad 2) (tOp (bn) (ad 0) (tC (.int 9))))))
def Df (K:W.Frag) (A:Adr):TS:=aD (tOp (aL K) (tOp (aL K) (tSl (gr K) (ad 1) (cX) (dZ (ad 2))) (aO (aa (ad 3) (af)))) (tSl (gr K) (ad 1) (dZ (tOp (aL K) (ad 2) (tC (.int 1)))) (cX)))
def Cq (K:W.Frag) (A:Adr):TS:=av (aR (aT (tOp (bu K) (tOp (bn) (tOp (br) (tOp (br) (ad 0) (tC (.int 5))) (tC (.int 60))) (tC (.int 2))) (tC (.int 0)))) (aD (tOp (aL K) (tSl (gr K) (ad 1) (cX) (dZ (ad 2))) (tSl (gr K) (ad 1) (dZ (tOp (aL K) (ad 2) (tC (.int 1)))) (cX)))) (aK)) (Df K A)
def Cp (K:W.Frag) (A:Adr):TS:=av (aR (mOr (aT (tOp (mLt) (tOp (bn) (ad 0) (tC (.int 5))) (tC (.int 4)))) (aT (tOp (bu K) (tCB (cy K) (aa (ad 1) (af))) (tC (.int 0))))) (aD (tOp (aI K) (ad 4) (tOp (bn) (tOp (bn) (ad 0) (tC (.int 5))) (tC (.int 4))))) (aK)) (Cq K A)
def Co (K:W.Frag) (A:Adr):TS:=av (aA (bQ (aa (tC .non) (aa (tCB (rW K) (aa (ad 1) (af))) (aa (tOp (aL K) (ad 1) (aO (aa (tC (.str "a")) (af)))) (aa (tOp (aL K) (ad 1) (aO (aa (ad 3) (af)))) (af)))))) (aw 4)) (Cp K A)
def IJ (K:W.Frag) (A:Adr):TS:=av (aA (tOp (bn) (tOp (br) (ad 0) (tC (.int 5))) (tCB (xq) (aa (tC (.int 1)) (aa (tCB (cy K) (aa (ad 1) (af))) (af))))) (aw 2)) (av (aA (au (jY K A) (fun _=>E0) (aa (tOp (br) (ad 0) (tC (.int 300))) (af))) (aw 3)) (av (aA (bQ (aa (tC .non) (aa (tCB (rW K) (aa (ad 1) (af))) (aa (tOp (aL K) (ad 1) (aO (aa (tC (.str "a")) (af)))) (aa (tOp (aL K) (ad 1) (aO (aa (ad 3) (af)))) (af)))))) (aw 4)) (av (aR (mOr (aT (tOp (mLt) (tOp (bn) (ad 0) (tC (.int 5))) (tC (.int 4)))) (aT (tOp (bu K) (tCB (cy K) (aa (ad 1) (af))) (tC (.int 0))))) (aD (tOp (aI K) (ad 4) (tOp (bn) (tOp (bn) (ad 0) (tC (.int 5))) (tC (.int 4))))) (aK)) (av (aR (aT (tOp (bu K) (tOp (bn) (tOp (br) (tOp (br) (ad 0) (tC (.int 5))) (tC (.int 60))) (tC (.int 2))) (tC (.int 0)))) (aD (tOp (aL K) (tSl (gr K) (ad 1) (cX) (dZ (ad 2))) (tSl (gr K) (ad 1) (dZ (tOp (aL K) (ad 2) (tC (.int 1)))) (cX)))) (aK)) (aD (tOp (aL K) (tOp (aL K) (tSl (gr K) (ad 1) (cX) (dZ (ad 2))) (aO (aa (ad 3) (af)))) (tSl (gr K) (ad 1) (dZ (tOp (aL K) (ad 2) (tC (.int 1)))) (cX))))))))
def HQ (K:W.Frag) (A:Adr):TS:=av (gQ (gJ (aa (tCB (cy K) (aa (ad 0) (af))) (af))) (aw 1) (aR (bO K (tOp (aI K) (ad 0) (ad 1))) (aD (ad 1)) (aK))) (aD (tUn dM (tC (.int 1))))
def GX (K:W.Frag) (A:Adr):TS:=av (aR (aT (tOp (mLt) (ad 1) (tC (.int 0)))) (aD (tOp (vC) (ad 0) (tC .non))) (aK)) (av (aA (bQ (aa (tCB (iP K) (aa (ad 0) (aa (tC (.ref A.c_NoHead)) (af)))) (aa (tCB (iP K) (aa (ad 0) (aa (tC (.ref A.c_NoPlace)) (af)))) (aa (tCB (iP K) (aa (ad 0) (aa (tC (.ref A.c_NoPaper)) (af)))) (af))))) (aw 2)) (av (aA (tOp (aL K) (ad 2) (bQ (aa (tCB (iP K) (aa (ad 0) (aa (tC (.ref A.c_Broken)) (af)))) (aa (tCB (iP K) (aa (ad 0) (aa (tC (.ref A.c_NoStamp)) (af)))) (aa (tCB (iP K) (aa (ad 0) (aa (tC (.ty "ValueError")) (af)))) (af)))))) (aw 2)) (aD (tOp (bu K) (ad 2) (dJ [1] (gJ (aa (tC (.int 6)) (af))) (fun _ H Q=>Q true H) (oR (tOp (bu K) (ad 0) (ad 1)) (tOp (bu K) (ad 0) (tC (.int 5)))))))))
def GN (K:W.Frag) (A:Adr):TS:=aD (bZ (au (iN K A) (fun _=>E0) (aa (ad 0) (af))) (dD (mLe) (mLt) (tC (.int 0)) (ad 0) (tOp (iZ) (tC (.int 1)) (tC (.int 60)))))
def Iv (K:W.Frag) (A:Adr):TS:=aD (bZ (au (lO K A) (fun _=>E0) (aa (ad 0) (af))) (bZ (au (iN K A) (fun _=>E0) (aa (ad 1) (af))) (dD (mLe) (mLe) (tC (.int 0)) (ad 1) (ad 0))))
def Ho (K:W.Frag) (A:Adr):TS:=aD (tOp (iZ) (tC (.int 1)) (tOp (cC) (pO K "int" rY (tOp (cC) (ad 0) (tC (.int 1)))) (tC (.int 1))))
def Im (K:W.Frag) (A:Adr):TS:=av (aA (bQ (af)) (aw 2)) (av (aA (ad 1) (aw 3)) (av (aA (ad 0) (aw 4)) (av (ii (aT (dD (mLt) (mLt) (tC (.int 0)) (ad 3) (ad 4))) (av (aA (au (ki K A) (fun _=>E0) (aa (ad 4) (af))) (aw 5)) (aR (aT (tOp (mLe) (ad 3) (ad 5))) (av (cz (tBM K "list" dG (ad 2) (aa (tC (.int 0)) (af)))) (aA (ad 5) (aw 4))) (av (cz (tBM K "list" dG (ad 2) (aa (tC (.int 1)) (af)))) (av (aA (tOp (cC) (ad 3) (ad 5)) (aw 3)) (aA (tOp (cC) (ad 4) (ad 5)) (aw 4))))))) (aD (ad 2)))))
def Io (K:W.Frag) (A:Adr):TS:=aD (bZ (tCB (eD) (aa (ad 1) (aa (tC (.ty "tuple")) (af)))) (bZ (tOp (bu K) (tCB (cy K) (aa (ad 1) (af))) (ad 0)) (tCB (wk) (aa (dJ [] (iS K (ad 1)) (fun _ H Q=>Q true H) (au (iR K A) (fun _=>E0) (aa (ad 0) (af)))) (af)))))
def Ih (K:W.Frag) (A:Adr):TS:=aD (bQ (aa (aO (aa (tC (.str "void")) (af))) (aa (aO (aa (tC (.str "row")) (aa (tC (.int 0)) (aa (dk (cD K A) (fun _=>E0) (ad 0) (aa (aO (aa (tC (.str "void")) (af))) (af))) (af))))) (af))))
def Hh (K:W.Frag) (A:Adr):TS:=aD (mIf (aT (tOp (bu K) (ad 0) (tC (.int 0)))) (aO (aa (tC (.str "joint")) (aa (ad 1) (aa (ad 2) (af))))) (aO (aa (tC (.str "joint")) (aa (ad 2) (aa (ad 1) (af))))))
def HZ (K:W.Frag) (A:Adr):TS:=av (aA (bQ (af)) (aw 4)) (av (aA (bQ (af)) (aw 5)) (av (aA (tOp (aI K) (ad 3) (tC (.int 0))) (aw 6)) (av (aA (tOp (aI K) (ad 3) (tC (.int 0))) (aw 7)) (av (gQ (iS K (tOp (aI K) (ad 3) (tC (.int 1)))) (aw 8) (av (cz (tBM K "list" dG (ad 4) (aa (au (lW K A) (fun _=>E0) (aa (tOp (aI K) (ad 8) (tC (.int 0))) (aa (ad 6) (aa (tOp (aI K) (ad 8) (tC (.int 1))) (af))))) (af)))) (av (aA (dk (cD K A) (fun _=>E0) (ad 0) (aa (tOp (aI K) (ad 4) (tUn dM (tC (.int 1)))) (af))) (aw 6)) (aR (aT (tOp (bu K) (tOp (aI K) (ad 8) (tC (.int 0))) (tC (.int 1)))) (av (cz (tBM K "list" dG (ad 5) (aa (au (lW K A) (fun _=>E0) (aa (tOp (aI K) (ad 8) (tC (.int 0))) (aa (ad 7) (aa (tOp (aI K) (ad 8) (tC (.int 1))) (af))))) (af)))) (aA (dk (cD K A) (fun _=>E0) (ad 0) (aa (tOp (aI K) (ad 5) (tUn dM (tC (.int 1)))) (af))) (aw 7))) (aK))))) (av (cz (tBM K "list" dG (ad 4) (aa (aO (aa (tC (.str "row")) (aa (ad 1) (aa (ad 6) (af))))) (af)))) (av (cz (tBM K "list" dG (ad 5) (aa (aO (aa (tC (.str "row")) (aa (ad 2) (aa (ad 7) (af))))) (af)))) (aD (aO (aa (ad 4) (aa (ad 5) (af)))))))))))
def GY (K:W.Frag) (A:Adr):TS:=av (aA (bQ (af)) (aw 2)) (av (aA (tC (.int 0)) (aw 3)) (av (aA (tOp (cC) (tCB (cy K) (aa (ad 1) (af))) (tC (.int 1))) (aw 4)) (av (gQ (iS K (ad 0)) (aw 5) (aR (aT (tOp (bu K) (ad 5) (tC (.int 0)))) (av (cz (tBM K "list" dG (ad 2) (aa (aO (aa (ad 5) (aa (tOp (aI K) (ad 1) (ad 4)) (af)))) (af)))) (aA (tOp (cC) (ad 4) (tC (.int 1))) (aw 4))) (av (cz (tBM K "list" dG (ad 2) (aa (aO (aa (ad 5) (aa (tOp (aI K) (ad 1) (ad 3)) (af)))) (af)))) (aA (tOp (aL K) (ad 3) (tC (.int 1))) (aw 3))))) (aD (aO (aa (tOp (aI K) (ad 1) (ad 3)) (aa (tCB (pW K) (aa (ad 2) (af))) (af))))))))
def Dl (K:W.Frag) (A:Adr) (E:XK):TS:=aD (au (lF K A) (fun _=>E0) (aa (ad 0) (aa (ad 1) (aa (ad 2) (aa (au (lJ K A) (fun _=>E0) (aa (ad 4) (aa (ad 3) (af)))) (af))))))
def ur (K:W.Frag) (A:Adr) (E:XK):TS:=av (aR (aT (tOp (bu K) (ad 2) (tC (.int 0)))) (av (aA (mIf (aT (tOp (bu K) (ad 1) (tC (.int 0)))) (au (iA K A) (fun _=>E0) (aa (ad 0) (af))) (bQ (aa (aO (aa (tC (.str "row")) (aa (ad 1) (aa (tOp (aI K) (ad 3) (tC (.int 0))) (af))))) (af)))) (aw 5)) (aD (aO (aa (ad 5) (aa (au (iA K A) (fun _=>E0) (aa (ad 0) (af))) (af)))))) (aK)) (Dl K A E)
def BB (K:W.Frag) (A:Adr) (E:XK):TS:=av (aR (dj (bO K (au (lq K A) (fun _=>E0) (aa (ad 1) (aa (ad 2) (af)))))) (hJ A.c_NoPlace (fun _=>E)) (aK)) (av (aA (au (nV K A) (fun _=>E0) (aa (ad 1) (aa (ad 2) (af)))) (aw 4)) (av (aR (dj (bO K (au (ol K A) (fun _=>E0) (aa (mIf (aT (tOp (bu K) (ad 1) (tC (.int 0)))) (tC (.int 0)) (tOp (aL K) (tCB (cy K) (aa (ad 4) (af))) (tC (.int 1)))) (aa (ad 3) (af)))))) (hJ A.c_NoPaper (fun _=>E)) (aK)) (av (aR (aT (tOp (bu K) (ad 2) (tC (.int 0)))) (av (aA (mIf (aT (tOp (bu K) (ad 1) (tC (.int 0)))) (au (iA K A) (fun _=>E0) (aa (ad 0) (af))) (bQ (aa (aO (aa (tC (.str "row")) (aa (ad 1) (aa (tOp (aI K) (ad 3) (tC (.int 0))) (af))))) (af)))) (aw 5)) (aD (aO (aa (ad 5) (aa (au (iA K A) (fun _=>E0) (aa (ad 0) (af))) (af)))))) (aK)) (aD (au (lF K A) (fun _=>E0) (aa (ad 0) (aa (ad 1) (aa (ad 2) (aa (au (lJ K A) (fun _=>E0) (aa (ad 4) (aa (ad 3) (af)))) (af))))))))))
def HA (K:W.Frag) (A:Adr):TS:=aD (bZ (tCB (eD) (aa (ad 0) (aa (tC (.ty "tuple")) (af)))) (bZ (tOp (bu K) (tCB (cy K) (aa (ad 0) (af))) (tC (.int 2))) (bZ (au (lO K A) (fun _=>E0) (aa (tOp (aI K) (ad 0) (tC (.int 0))) (af))) (au (iR K A) (fun _=>E0) (aa (tOp (aI K) (ad 0) (tC (.int 1))) (af))))))
def AX (K:W.Frag) (A:Adr) (E:XK):TS:=aR (dj (bO K (au (oh K A) (fun _=>E0) (aa (ad 0) (af))))) (hJ A.c_NoHead (fun _=>E)) (aK)
def T_0 (K:W.Frag) (A:Adr):TS:=av (rJ K A.c_Broken (ad 0) (ad 1) "due") (rJ K A.c_Broken (ad 0) (ad 2) "came")
def Dk (K:W.Frag) (A:Adr) (E:XK):TS:=av (cz (au (oI K A) (fun _=>E) (aa (ad 1) (af)))) (av (aA (au (fB K A) (fun _=>E) (aa (ad 0) (aa (tOp (aI K) (ad 1) (tC (.int 0))) (aa (ad 2) (aa (ad 3) (af)))))) (aw 4)) (av (aA (dk (cD K A) (fun _=>E0) (ad 0) (aa (tOp (aI K) (tOp (aI K) (ad 4) (tC (.int 0))) (tUn dM (tC (.int 1)))) (af))) (aw 5)) (av (aR (aT (tOp (gl K) (ad 5) (tOp (aI K) (ad 1) (tC (.int 1))))) (rn A.c_Broken (sA K A) (fun _=>E) (aa (tOp (aI K) (ad 1) (tC (.int 1))) (aa (ad 5) (af)))) (aK)) (aD (dk (cD K A) (fun _=>E0) (ad 0) (aa (tOp (aI K) (tOp (aI K) (ad 4) (tC (.int 1))) (tUn dM (tC (.int 1)))) (af)))))))
def Hm (K:W.Frag) (A:Adr):TS:=av (aA (tC .non) (aw 5)) (av (vb K (fun EH=>aR (aT (tOp (bu K) (ad 0) (tC (.int 0)))) (cz (au (fB K A) EH (aa (ad 1) (aa (ad 2) (aa (ad 3) (aa (ad 4) (af))))))) (cz (au (jZ K A) EH (aa (ad 1) (aa (ad 2) (aa (ad 3) (aa (ad 4) (af)))))))) (hAs K A.c_StampError 6 (aA (ad 6) (aw 5)) (lL)) (aK)) (aD (ad 5)))
def HG (K:W.Frag) (A:Adr):TS:=av (aR (aT (tOp (mGt) (tOp (bn) (ad 0) (tC (.int 3))) (tC (.int 0)))) (aD (au (gD K A) (fun _=>E0) (aa (tOp (br) (ad 0) (tC (.int 3))) (af)))) (aK)) (av (aR (bO K (tCB (eD) (aa (ad 1) (aa (tC (.ty "str")) (af))))) (aD (tOp (aL K) (ad 1) (tC (.str "0")))) (aK)) (aD (tCB (mm) (aa (ad 1) (af)))))
def Ix (K:W.Frag) (A:Adr):TS:=av (aA (bQ (aa (tC .non) (aa (aO (aa (ad 1) (af))) (aa (aO (aa (ad 1) (aa (ad 2) (aa (ad 2) (af))))) (aa (bQ (aa (ad 1) (aa (ad 2) (af)))) (aa (aO (aa (tC (.bl true)) (aa (ad 2) (af)))) (aa (aO (aa (tOp (cC) (tUn dM (tC (.int 1))) (ad 1)) (aa (ad 2) (af)))) (aa (aO (aa (tOp (iZ) (tC (.int 1)) (tC (.int 60))) (aa (ad 2) (af)))) (af))))))))) (aw 3)) (av (aA (tOp (aL K) (ad 3) (bQ (aa (aO (aa (tCB (mm) (aa (ad 1) (af))) (aa (ad 2) (af)))) (aa (aO (aa (ad 1) (aa (au (jY K A) (fun _=>E0) (aa (tOp (br) (ad 0) (tC (.int 10))) (af))) (af)))) (aa (ad 2) (aa (gY) (af))))))) (aw 3)) (aD (tOp (aI K) (ad 3) (tOp (bn) (ad 0) (tC (.int 11))))))
def zi (K:W.Frag) (A:Adr):TS:=aD (au (fG K A) (fun _=>E0) (aa (au (iI K A) (fun _=>E0) (aa (tC (.int 1)) (aa (ad 0) (aa (ad 10) (aa (ad 3) (aa (ad 4) (af))))))) (aa (ad 9) (af))))
def qY (K:W.Frag) (A:Adr):TS:=av (aA (au (gK K A) (fun _=>E0) (aa (bQ (aa (tOp (aI K) (ad 6) (tC (.int 0))) (aa (tOp (aI K) (ad 6) (tC (.int 1))) (aa (tOp (aI K) (ad 6) (tC (.int 2))) (aa (ad 11) (af)))))) (af))) (aw 9)) (zi K A)
def zS (K:W.Frag) (A:Adr):TS:=av (aR (bO K (tOp (aI K) (ad 6) (tC (.int 0)))) (aA (au (lw K A) (fun _=>E0) (aa (tOp (aI K) (ad 7) (tC (.int 0))) (aa (ad 2) (aa (ad 5) (af))))) (aw 10)) (aK)) (qY K A)
def qR (K:W.Frag) (A:Adr):TS:=av (aA (tOp (gl K) (tOp (aI K) (ad 10) (tC (.int 1))) (ad 5)) (aw 11)) (zS K A)
def CB (K:W.Frag) (A:Adr):TS:=av (aR (bO K (tOp (aI K) (ad 6) (tC (.int 3)))) (aA (aO (aa (ad 2) (aa (au (lT K A) (fun _=>E0) (aa (tOp (aI K) (ad 7) (tC (.int 3))) (aa (ad 5) (af)))) (af)))) (aw 10)) (aK)) (qR K A)
def tG (K:W.Frag) (A:Adr):TS:=av (aA (aO (aa (ad 2) (aa (ad 5) (af)))) (aw 10)) (CB K A)
def tP (K:W.Frag) (A:Adr):TS:=av (aR (dj (bO K (au (fG K A) (fun _=>E0) (aa (au (iI K A) (fun _=>E0) (aa (tC (.int 0)) (aa (ad 0) (aa (ad 8) (aa (ad 3) (aa (ad 4) (af))))))) (aa (ad 9) (af)))))) (aD (tC (.bl false))) (aK)) (tG K A)
def tQ (K:W.Frag) (A:Adr):TS:=av (aA (au (gK K A) (fun _=>E0) (aa (bQ (aa (tC (.bl false)) (aa (oR (tOp (aI K) (ad 6) (tC (.int 0))) (tOp (aI K) (ad 6) (tC (.int 1)))) (aa (tOp (aI K) (ad 6) (tC (.int 2))) (af))))) (af))) (aw 9)) (tP K A)
def uM (K:W.Frag) (A:Adr):TS:=av (aR (bO K (tOp (aI K) (ad 6) (tC (.int 2)))) (aA (au (lM K A) (fun _=>E0) (aa (tOp (aI K) (ad 7) (tC (.int 2))) (aa (ad 4) (af)))) (aw 4)) (aK)) (tQ K A)
def AG (K:W.Frag) (A:Adr):TS:=av (aR (bO K (tOp (aI K) (ad 6) (tC (.int 1)))) (aA (au (lb K A) (fun _=>E0) (aa (tOp (aI K) (ad 7) (tC (.int 1))) (aa (ad 2) (af)))) (aw 3)) (aK)) (uM K A)
def Hu (K:W.Frag) (A:Adr):TS:=av (aA (dJ [1] (gH (aa (tC (.int 4)) (aa (tC (.int 8)) (af)))) (fun _ H Q=>Q true H) (tOp (bu K) (tOp (bn) (au (cJ K A) (fun _=>E0) (aa (ad 1) (aa (ad 0) (af)))) (tC (.int 3))) (tC (.int 0)))) (aw 6)) (av (aA (dJ [1] (gH (aa (tC (.int 4)) (aa (tC (.int 8)) (af)))) (fun _ H Q=>Q true H) (tOp (br) (au (cJ K A) (fun _=>E0) (aa (ad 1) (aa (ad 0) (af)))) (tC (.int 3)))) (aw 7)) (av (aA (ad 2) (aw 8)) (av (aR (bO K (tOp (aI K) (ad 6) (tC (.int 0)))) (aA (au (oG K A) (fun _=>E0) (aa (tOp (aI K) (ad 7) (tC (.int 0))) (aa (ad 2) (af)))) (aw 8)) (aK)) (av (aR (bO K (tOp (aI K) (ad 6) (tC (.int 1)))) (aA (au (lb K A) (fun _=>E0) (aa (tOp (aI K) (ad 7) (tC (.int 1))) (aa (ad 2) (af)))) (aw 3)) (aK)) (av (aR (bO K (tOp (aI K) (ad 6) (tC (.int 2)))) (aA (au (lM K A) (fun _=>E0) (aa (tOp (aI K) (ad 7) (tC (.int 2))) (aa (ad 4) (af)))) (aw 4)) (aK)) (av (aA (au (gK K A) (fun _=>E0) (aa (bQ (aa (tC (.bl false)) (aa (oR (tOp (aI K) (ad 6) (tC (.int 0))) (tOp (aI K) (ad 6) (tC (.int 1)))) (aa (tOp (aI K) (ad 6) (tC (.int 2))) (af))))) (af))) (aw 9)) (av (aR (dj (bO K (au (fG K A) (fun _=>E0) (aa (au (iI K A) (fun _=>E0) (aa (tC (.int 0)) (aa (ad 0) (aa (ad 8) (aa (ad 3) (aa (ad 4) (af))))))) (aa (ad 9) (af)))))) (aD (tC (.bl false))) (aK)) (av (aA (aO (aa (ad 2) (aa (ad 5) (af)))) (aw 10)) (av (aR (bO K (tOp (aI K) (ad 6) (tC (.int 3)))) (aA (aO (aa (ad 2) (aa (au (lT K A) (fun _=>E0) (aa (tOp (aI K) (ad 7) (tC (.int 3))) (aa (ad 5) (af)))) (af)))) (aw 10)) (aK)) (av (aA (tOp (gl K) (tOp (aI K) (ad 10) (tC (.int 1))) (ad 5)) (aw 11)) (av (aR (bO K (tOp (aI K) (ad 6) (tC (.int 0)))) (aA (au (lw K A) (fun _=>E0) (aa (tOp (aI K) (ad 7) (tC (.int 0))) (aa (ad 2) (aa (ad 5) (af))))) (aw 10)) (aK)) (av (aA (au (gK K A) (fun _=>E0) (aa (bQ (aa (tOp (aI K) (ad 6) (tC (.int 0))) (aa (tOp (aI K) (ad 6) (tC (.int 1))) (aa (tOp (aI K) (ad 6) (tC (.int 2))) (aa (ad 11) (af)))))) (af))) (aw 9)) (aD (au (fG K A) (fun _=>E0) (aa (au (iI K A) (fun _=>E0) (aa (tC (.int 1)) (aa (ad 0) (aa (ad 10) (aa (ad 3) (aa (ad 4) (af))))))) (aa (ad 9) (af)))))))))))))))))
def T_3 (K:W.Frag) (A:Adr):TS:=av (mL K (ad 0) (ad 1) "stamper") (av (mL K (ad 0) (bQ (af)) "entries") (mL K (ad 0) (gY) "tops"))
def T_4 (K:W.Frag) (A:Adr):TS:=av (aR (dj (bO K (au (iR K A) (fun _=>E0) (aa (ad 1) (af))))) (jq) (aK)) (av (cz (tBM K "list" dG (fz K (ad 0) "entries") (aa (ad 1) (af)))) (aD (tOp (cC) (tCB (cy K) (aa (fz K (ad 0) "entries") (af))) (tC (.int 1)))))
def T_9 (K:W.Frag) (A:Adr):TS:=aD (tCB (cy K) (aa (fz K (ad 0) "entries") (af)))
def T_7 (K:W.Frag) (A:Adr):TS:=aD (bZ (au (lq K A) (fun _=>E0) (aa (ad 1) (aa (ad 2) (af)))) (tOp (mLe) (ad 1) (bx A.c_Row "size" (kH K A) (fun _=>E0) (ad 0) af)))
def Hv (K:W.Frag) (A:Adr) (n:Nat):TS:=av (aR (aT (tOp (bu K) (ad 2) (tC (.int 0)))) (aD (aO (aa (tC (.str "void")) (af)))) (aK)) (av (aR (aT (tOp (bu K) (ad 2) (tC (.int 1)))) (aD (aO (aa (tC (.str "entry")) (aa (tOp (aI K) (fz K (ad 0) "entries") (ad 1)) (af))))) (aK)) (av (aA (au (ki K A) (fun _=>E0) (aa (ad 2) (af))) (aw 3)) (aD (aO (aa (tC (.str "joint")) (aa (bx A.c_Row "top_of" (dO K A n) (fun _=>E0) (ad 0) (aa (ad 1) (aa (ad 3) (af)))) (aa (bx A.c_Row "top_of" (dO K A n) (fun _=>E0) (ad 0) (aa (tOp (aL K) (ad 1) (ad 3)) (aa (tOp (cC) (ad 2) (ad 3)) (af)))) (af))))))))
def Hy (K:W.Frag) (A:Adr) (n:Nat):TS:=av (aA (aO (aa (ad 1) (aa (ad 2) (af)))) (aw 3)) (av (aR (aT (tOp (mD K) (ad 3) (fz K (ad 0) "tops"))) (aA (pN (cD K A) A.c_Row "stamper" (fun _=>E0) (ad 0) (aa (bx A.c_Row "top_term" (oA K A n) (fun _=>E0) (ad 0) (aa (ad 1) (aa (ad 2) (af)))) (af))) (rZ (fz K (ad 0) "tops") (ad 3) oK)) (aK)) (aD (tOp (aI K) (fz K (ad 0) "tops") (ad 3))))
def T_8 (K:W.Frag) (A:Adr) (E:XK):TS:=av (aR (dj (bO K (bx A.c_Row "has_elder" (oP K A) (fun _=>E0) (ad 0) (aa (bx A.c_Row "size" (kH K A) (fun _=>E0) (ad 0) af) (aa (ad 1) (af)))))) (hJ A.c_NoPlace (fun _=>E)) (aK)) (aD (pN (cD K A) A.c_Row "stamper" (fun _=>E0) (ad 0) (aa (aO (aa (tC (.str "row")) (aa (ad 1) (aa (bx A.c_Row "top_of" (dO K A 70) (fun _=>E0) (ad 0) (aa (tC (.int 0)) (aa (ad 1) (af)))) (af))))) (af))))
def GT (K:W.Frag) (A:Adr):TS:=av (aR (aT (tOp (mGt) (tOp (bn) (ad 0) (tC (.int 3))) (tC (.int 0)))) (aD (tOp (cC) (tOp (bn) (tOp (br) (ad 0) (tC (.int 3))) (tOp (aL K) (ad 1) (tC (.int 3)))) (tC (.int 1)))) (aK)) (aD (au (jY K A) (fun _=>E0) (aa (tOp (br) (ad 0) (tC (.int 3))) (af))))
def Hw (K:W.Frag) (A:Adr):TS:=aD (bZ (tCB (eD) (aa (ad 0) (aa (tC (.ty "int")) (af)))) (oa (tCB (eD) (aa (ad 0) (aa (tC (.ty "bool")) (af))))))
def Ij (K:W.Frag) (A:Adr):TS:=aD (bZ (au (oi K A) (fun _=>E0) (aa (ad 0) (af))) (dD (mLe) (mLt) (tC (.int 0)) (ad 0) (ad 1)))
def T_5 (K:W.Frag) (A:Adr) (n:Nat):TS:=av (aR (mOr (aT (tOp (bu K) (ad 3) (tC (.int 0)))) (aT (tOp (bu K) (ad 3) (ad 2)))) (aD (aO (aa (bx A.c_Row "top_of" (dO K A 70) (fun _=>E0) (ad 0) (aa (ad 1) (aa (ad 2) (af)))) (af)))) (aK)) (av (aA (au (ki K A) (fun _=>E0) (aa (ad 2) (af))) (aw 4)) (av (aR (aT (tOp (mLe) (ad 3) (ad 4))) (aD (tOp (aL K) (bx A.c_Row "growth_marks" (kJ K A n) (fun _=>E0) (ad 0) (aa (ad 1) (aa (ad 4) (aa (ad 3) (af))))) (aO (aa (bx A.c_Row "top_of" (dO K A 70) (fun _=>E0) (ad 0) (aa (tOp (aL K) (ad 1) (ad 4)) (aa (tOp (cC) (ad 2) (ad 4)) (af)))) (af))))) (aK)) (aD (tOp (aL K) (aO (aa (bx A.c_Row "top_of" (dO K A 70) (fun _=>E0) (ad 0) (aa (ad 1) (aa (ad 4) (af)))) (af))) (bx A.c_Row "growth_marks" (kJ K A n) (fun _=>E0) (ad 0) (aa (tOp (aL K) (ad 1) (ad 4)) (aa (tOp (cC) (ad 2) (ad 4)) (aa (tOp (cC) (ad 3) (ad 4)) (af)))))))))
def T_6 (K:W.Frag) (A:Adr) (E:XK):TS:=av (aR (dj (bO K (bx A.c_Row "has_elder" (oP K A) (fun _=>E0) (ad 0) (aa (ad 1) (aa (ad 2) (af)))))) (hJ A.c_NoPlace (fun _=>E)) (aK)) (aD (mIf (aT (tOp (mGt) (ad 1) (tC (.int 0)))) (bx A.c_Row "growth_marks" (kJ K A 70) (fun _=>E0) (ad 0) (aa (tC (.int 0)) (aa (ad 1) (aa (ad 2) (af))))) (aO (af))))
def HL (K:W.Frag) (A:Adr):TS:=av (aA (tC .non) (aw 4)) (av (vb K (fun EH=>aR (aT (tOp (bu K) (ad 0) (tC (.int 0)))) (cz (bx A.c_Row "mark_at" (jG K A) EH (ad 1) (aa (ad 2) (af)))) (cz (bx A.c_Row "growth_paper" (sK K A) EH (ad 1) (aa (ad 2) (aa (ad 3) (af)))))) (hAs K A.c_StampError 5 (aA (ad 5) (aw 4)) (lL)) (aK)) (aD (ad 4)))
def Bu (K:W.Frag) (A:Adr):TS:=aD (bZ (tOp (bu K) (bx A.c_Row "size" (kH K A) (fun _=>E0) (ad 2) af) (ad 3)) (tOp (bu K) (bx A.c_Row "mark_at" (jG K A) (fun _=>E0) (ad 2) (aa (ad 3) (af))) (ad 5)))
def Do (K:W.Frag) (A:Adr):TS:=av (gQ (gH (aa (tC (.int 17)) (aa (tOp (aL K) (tC (.int 17)) (tCB (pQ) (aa (tCB (cy K) (aa (ad 1) (af))) (aa (tC (.int 12)) (af))))) (af)))) (aw 4) (av (aA (au (cJ K A) (fun _=>E0) (aa (ad 1) (aa (ad 4) (af)))) (aw 6)) (av (aA (au (iF K A) (fun _=>E0) (aa (au (cJ K A) (fun _=>E0) (aa (ad 1) (aa (tOp (aL K) (ad 4) (tC (.int 1))) (af)))) (aa (ad 3) (af)))) (aw 7)) (av (aA (au (iF K A) (fun _=>E0) (aa (tOp (br) (au (cJ K A) (fun _=>E0) (aa (ad 1) (aa (tOp (aL K) (ad 4) (tC (.int 2))) (af)))) (tC (.int 3))) (aa (ad 3) (af)))) (aw 8)) (av (aA (au (je K A) (fun _=>E0) (aa (ad 7) (aa (tOp (aL K) (ad 3) (tC (.int 1))) (af)))) (aw 9)) (av (aR (aT (tOp (mGt) (tOp (bn) (ad 6) (tC (.int 3))) (tC (.int 0)))) (aA (bZ (ad 9) (au (je K A) (fun _=>E0) (aa (ad 8) (aa (tOp (aL K) (ad 7) (tC (.int 1))) (af))))) (aw 9)) (aK)) (aR (dj (bO K (au (fG K A) (fun _=>E0) (aa (au (jJ K A) (fun _=>E0) (aa (tOp (bn) (ad 6) (tC (.int 3))) (aa (ad 2) (aa (ad 7) (aa (ad 8) (af)))))) (aa (tOp (aI K) (bQ (aa (tC (.int 1)) (aa (tUn dM (tC (.int 1))) (af)))) (tCB (pH) (aa (ad 9) (af)))) (af)))))) (aD (tC (.bl false))) (aK)))))))) (Bu K A)
def BS (K:W.Frag) (A:Adr):TS:=av (aA (bx A.c_Row "mark_at" (jG K A) (fun _=>E0) (ad 2) (aa (ad 3) (af))) (aw 5)) (Do K A)
def BJ (K:W.Frag) (A:Adr):TS:=av (gQ (gH (aa (tC (.int 8)) (aa (tOp (aL K) (tC (.int 8)) (ad 3)) (af)))) (aw 4) (cz (bx A.c_Row "add" (pZ K A) (fun _=>E0) (ad 2) (aa (au (gD K A) (fun _=>E0) (aa (tOp (aL K) (au (cJ K A) (fun _=>E0) (aa (ad 1) (aa (ad 4) (af)))) (ad 4)) (af))) (af))))) (BS K A)
def Iu (K:W.Frag) (A:Adr):TS:=av (aA (lP A.c_Row (tz K A) (fun _=>E0) (aa (ad 0) (af))) (aw 2)) (av (aA (tOp (bn) (au (cJ K A) (fun _=>E0) (aa (ad 1) (aa (tC (.int 3)) (af)))) (tC (.int 9))) (aw 3)) (av (gQ (gH (aa (tC (.int 8)) (aa (tOp (aL K) (tC (.int 8)) (ad 3)) (af)))) (aw 4) (cz (bx A.c_Row "add" (pZ K A) (fun _=>E0) (ad 2) (aa (au (gD K A) (fun _=>E0) (aa (tOp (aL K) (au (cJ K A) (fun _=>E0) (aa (ad 1) (aa (ad 4) (af)))) (ad 4)) (af))) (af))))) (av (aA (bx A.c_Row "mark_at" (jG K A) (fun _=>E0) (ad 2) (aa (ad 3) (af))) (aw 5)) (av (gQ (gH (aa (tC (.int 17)) (aa (tOp (aL K) (tC (.int 17)) (tCB (pQ) (aa (tCB (cy K) (aa (ad 1) (af))) (aa (tC (.int 12)) (af))))) (af)))) (aw 4) (av (aA (au (cJ K A) (fun _=>E0) (aa (ad 1) (aa (ad 4) (af)))) (aw 6)) (av (aA (au (iF K A) (fun _=>E0) (aa (au (cJ K A) (fun _=>E0) (aa (ad 1) (aa (tOp (aL K) (ad 4) (tC (.int 1))) (af)))) (aa (ad 3) (af)))) (aw 7)) (av (aA (au (iF K A) (fun _=>E0) (aa (tOp (br) (au (cJ K A) (fun _=>E0) (aa (ad 1) (aa (tOp (aL K) (ad 4) (tC (.int 2))) (af)))) (tC (.int 3))) (aa (ad 3) (af)))) (aw 8)) (av (aA (au (je K A) (fun _=>E0) (aa (ad 7) (aa (tOp (aL K) (ad 3) (tC (.int 1))) (af)))) (aw 9)) (av (aR (aT (tOp (mGt) (tOp (bn) (ad 6) (tC (.int 3))) (tC (.int 0)))) (aA (bZ (ad 9) (au (je K A) (fun _=>E0) (aa (ad 8) (aa (tOp (aL K) (ad 7) (tC (.int 1))) (af))))) (aw 9)) (aK)) (aR (dj (bO K (au (fG K A) (fun _=>E0) (aa (au (jJ K A) (fun _=>E0) (aa (tOp (bn) (ad 6) (tC (.int 3))) (aa (ad 2) (aa (ad 7) (aa (ad 8) (af)))))) (aa (tOp (aI K) (bQ (aa (tC (.int 1)) (aa (tUn dM (tC (.int 1))) (af)))) (tCB (pH) (aa (ad 9) (af)))) (af)))))) (aD (tC (.bl false))) (aK)))))))) (aD (bZ (tOp (bu K) (bx A.c_Row "size" (kH K A) (fun _=>E0) (ad 2) af) (ad 3)) (tOp (bu K) (bx A.c_Row "mark_at" (jG K A) (fun _=>E0) (ad 2) (aa (ad 3) (af))) (ad 5))))))))
def zD (K:W.Frag) (A:Adr):TS:=aD (bZ (tOp (bu K) (tOp (aI K) (ad 8) (tC (.int 1))) (ad 7)) (bZ (tOp (bu K) (au (fB K A) (fun _=>E0) (aa (ad 1) (aa (tC (.int 0)) (aa (tC (.int 0)) (aa (aO (af)) (af)))))) (aO (aa (ad 7) (aa (ad 7) (af))))) (au (lA K A) (fun _=>E0) (aa (ad 1) (aa (ad 0) (af))))))
def yK (K:W.Frag) (A:Adr):TS:=av (cz (pO K "list" pr (tOp (aI K) (ad 8) (tC (.int 0))))) (zD K A)
def zX (K:W.Frag) (A:Adr):TS:=av (aR (mOr (dj (bO K (tCB (eD) (aa (ad 8) (aa (tC (.ty "tuple")) (af)))))) (aT (tOp (gl K) (ad 8) (aO (aa (ad 7) (aa (ad 7) (af))))))) (aD (tC (.bl false))) (aK)) (yK K A)
def Dd (K:W.Frag) (A:Adr):TS:=av (aA (au (fB K A) (fun _=>E0) (aa (ad 1) (aa (tC (.int 0)) (aa (tC (.int 0)) (aa (aO (af)) (af)))))) (aw 8)) (zX K A)
def Dw (K:W.Frag) (A:Adr):TS:=av (aA (bQ (aa (aO (aa (tC (.str "void")) (af))) (aa (aO (aa (tC (.str "row")) (aa (tC (.int 0)) (aa (dk (cD K A) (fun _=>E0) (ad 1) (aa (aO (aa (tC (.str "void")) (af))) (af))) (af))))) (af)))) (aw 7)) (Dd K A)
def CT (K:W.Frag) (A:Adr):TS:=av (aR (aT (tOp (gl K) (au (jZ K A) (fun _=>E0) (aa (ad 1) (aa (aO (aa (ad 2) (aa (tOp (aI K) (ad 6) (tC (.int 0))) (af)))) (aa (ad 3) (aa (ad 5) (af)))))) (tOp (aI K) (ad 6) (tC (.int 1))))) (aD (tC (.bl false))) (aK)) (Dw K A)
def CA (K:W.Frag) (A:Adr):TS:=av (aR (dj (bO K (au (lI K A) (fun _=>E0) (aa (ad 1) (aa (ad 0) (aa (ad 2) (aa (ad 3) (aa (ad 5) (aa (tOp (aI K) (ad 6) (tC (.int 0))) (af)))))))))) (aD (tC (.bl false))) (aK)) (CT K A)
def At (K:W.Frag) (A:Adr):TS:=av (aA (au (lD K A) (fun _=>E0) (aa (ad 1) (aa (ad 2) (aa (ad 3) (aa (ad 5) (af)))))) (aw 6)) (CA K A)
def CM (K:W.Frag) (A:Adr):TS:=av (aA (tCB (pG K) (aa (dJ [0] (gJ (aa (ad 4) (af))) (fun _ H Q=>Q true H) (au (gD K A) (fun _=>E0) (aa (tOp (aL K) (au (cJ K A) (fun _=>E0) (aa (ad 1) (aa (tOp (aL K) (tC (.int 9)) (ad 0)) (af)))) (tOp (eV) (tC (.int 5)) (ad 0))) (af)))) (af))) (aw 5)) (At K A)
def Bm (K:W.Frag) (A:Adr):TS:=av (aA (au (lf K A) (fun _=>E0) (aa (ad 2) (aa (ad 3) (af)))) (aw 4)) (CM K A)
def Ip (K:W.Frag) (A:Adr):TS:=av (aA (au (og K A) (fun _=>E0) (aa (au (cJ K A) (fun _=>E0) (aa (ad 0) (aa (tC (.int 0)) (af)))) (af))) (aw 1)) (av (aA (au (oF K A) (fun _=>E0) (aa (au (cJ K A) (fun _=>E0) (aa (ad 0) (aa (tC (.int 1)) (af)))) (af))) (aw 2)) (av (aA (tOp (bn) (au (cJ K A) (fun _=>E0) (aa (ad 0) (aa (tC (.int 2)) (af)))) (tOp (aL K) (ad 2) (tC (.int 1)))) (aw 3)) (av (aA (au (lf K A) (fun _=>E0) (aa (ad 2) (aa (ad 3) (af)))) (aw 4)) (av (aA (tCB (pG K) (aa (dJ [0] (gJ (aa (ad 4) (af))) (fun _ H Q=>Q true H) (au (gD K A) (fun _=>E0) (aa (tOp (aL K) (au (cJ K A) (fun _=>E0) (aa (ad 1) (aa (tOp (aL K) (tC (.int 9)) (ad 0)) (af)))) (tOp (eV) (tC (.int 5)) (ad 0))) (af)))) (af))) (aw 5)) (av (aA (au (lD K A) (fun _=>E0) (aa (ad 1) (aa (ad 2) (aa (ad 3) (aa (ad 5) (af)))))) (aw 6)) (av (aR (dj (bO K (au (lI K A) (fun _=>E0) (aa (ad 1) (aa (ad 0) (aa (ad 2) (aa (ad 3) (aa (ad 5) (aa (tOp (aI K) (ad 6) (tC (.int 0))) (af)))))))))) (aD (tC (.bl false))) (aK)) (av (aR (aT (tOp (gl K) (au (jZ K A) (fun _=>E0) (aa (ad 1) (aa (aO (aa (ad 2) (aa (tOp (aI K) (ad 6) (tC (.int 0))) (af)))) (aa (ad 3) (aa (ad 5) (af)))))) (tOp (aI K) (ad 6) (tC (.int 1))))) (aD (tC (.bl false))) (aK)) (av (aA (bQ (aa (aO (aa (tC (.str "void")) (af))) (aa (aO (aa (tC (.str "row")) (aa (tC (.int 0)) (aa (dk (cD K A) (fun _=>E0) (ad 1) (aa (aO (aa (tC (.str "void")) (af))) (af))) (af))))) (af)))) (aw 7)) (av (aA (au (fB K A) (fun _=>E0) (aa (ad 1) (aa (tC (.int 0)) (aa (tC (.int 0)) (aa (aO (af)) (af)))))) (aw 8)) (av (aR (mOr (dj (bO K (tCB (eD) (aa (ad 8) (aa (tC (.ty "tuple")) (af)))))) (aT (tOp (gl K) (ad 8) (aO (aa (ad 7) (aa (ad 7) (af))))))) (aD (tC (.bl false))) (aK)) (av (cz (pO K "list" pr (tOp (aI K) (ad 8) (tC (.int 0))))) (aD (bZ (tOp (bu K) (tOp (aI K) (ad 8) (tC (.int 1))) (ad 7)) (bZ (tOp (bu K) (au (fB K A) (fun _=>E0) (aa (ad 1) (aa (tC (.int 0)) (aa (tC (.int 0)) (aa (aO (af)) (af)))))) (aO (aa (ad 7) (aa (ad 7) (af))))) (au (lA K A) (fun _=>E0) (aa (ad 1) (aa (ad 0) (af))))))))))))))))))
end Rs
namespace Rs
open PySem PySem.Spec PyProof.Rows L2
def tyD:Dat→String
 | .non=> "NoneType"
 | .bl _=> "bool"
 | .int _=> "int"
 | .str _=> "str"
 | .lst _=> "list"
 | .tup _=> "tuple"
 | .dic=> "dict"
theorem aJ.ty {H:Hp} {v:V} {d:Dat} (h:aJ H v d):tyN H v=some (tyD d):=by
 cases h with
 | lst e _=>unfold tyN;dsimp only;rw [e];rfl
 | tup e _=>unfold tyN;dsimp only;rw [e];rfl
 | dic e=>unfold tyN;dsimp only;obtain ⟨kvs,e⟩:=e;rw [e];rfl
 | _=>rfl
mutual
theorem aJ.toV {K:W.Frag} {H:Hp} {v:V} {d:Dat} (h:aJ H v d) (ok:okD d=true):dU K H v (gR d):=by
 cases h with
 | non=>exact .non
 | bl b=>exact .bl b
 | int i=>exact .int i
 | str z=>exact .str z
 | lst e r=>exact .lst (SqL.of e) (DatWs.toV r ok)
 | tup e r=>exact .tup (SqT.of e) (DatWs.toV r ok)
 | dic e=>cases ok
theorem DatWs.toV {K : W.Frag} {H : Hp} {xs : List V} {ds : List Dat} (h : DatWs H xs ds) (ok : okDs ds = true) : DatVs K H xs (toPys ds) := by
  cases h with
  | nil => exact .nil
  | cons a r =>
    have ok : (okD _ && okDs _) = true := ok
    rw [Bool.and_eq_true] at ok
    exact .cons (aJ.toV a ok.1) (DatWs.toV r ok.2)
end
theorem BQ {z:Str} (h:cg z=true):PyData.strOk z=true:=by
 unfold PyData.strOk
 unfold cg at h
 rw [Array.all_eq_true] at h ⊢
 intro i hi
 have:=of_decide_eq_true (h i hi)
 exact decide_eq_true (by omega)
mutual
theorem eA:∀ {d:Dat},okD d=true→(gR d).canLay0=true
 | .non,_=>rfl
 | .bl _,_=>rfl
 | .int _,_=>rfl
 | .str z,h=>BQ (Bool.and_eq_true_iff.mp h).1
 | .lst ds,h=>lay_toPys h
 | .tup ds,h=>lay_toPys h
theorem lay_toPys : ∀ {ds : List Dat}, okDs ds = true → PyData.canLayAll0 (toPys ds) = true
  | [], _ => rfl
  | d :: r, h => by
    have h : (okD d && okDs r) = true := h
    rw [Bool.and_eq_true] at h
    show ((gR d).canLay0 && PyData.canLayAll0 (toPys r)) = true
    rw [eA h.1, lay_toPys h.2]; rfl
end
theorem DatWs.len {H:Hp}:∀ {xs:List V} {ds:List Dat},DatWs H xs ds→xs.length=ds.length
 | _,_,.nil=>rfl
 | _,_,.cons _ r=>by rw [List.length_cons,List.length_cons,r.len]
theorem DatWs.get {H : Hp} : ∀ {xs : List V} {ds : List Dat}, DatWs H xs ds → ∀ {i : Nat} {x : V}, xs[i]? = some x → ∃ d, ds[i]? = some d ∧ aJ H x d
  | _, _, .nil, i, x, e => by cases e
  | _, _, .cons a r, i, x, e => by
    cases i with
    | zero => cases e; exact ⟨_, rfl, a⟩
    | succ i => exact r.get e
mutual
theorem aJ.mono {H H':Hp} {v:V} {d:Dat} (s:ao H H') (h:aJ H v d):aJ H' v d:=by
 cases h with
 | non=>exact .non
 | bl b=>exact .bl b
 | int i=>exact .int i
 | str z=>exact .str z
 | lst e r=>exact .lst (s _ _ e) (DatWs.mono s r)
 | tup e r=>exact .tup (s _ _ e) (DatWs.mono s r)
 | dic e=>exact (let ⟨k,e⟩:=e;.dic ⟨k,s _ _ e⟩)
theorem DatWs.mono {H H':Hp} {xs:List V} {ds:List Dat} (s:ao H H') (h:DatWs H xs ds):DatWs H' xs ds:=by
 cases h with
 | nil=>exact .nil
 | cons a r=>exact .cons (aJ.mono s a) (DatWs.mono s r)
end
theorem ixT {K:W.Frag} {H:Hp} {Q:VK} {a:Addr} {xs:List V} {x:V} {i:Int} {j:Nat} (ha:H a=some (.tup xs)) (e:i=j) (hx:xs[j]?=some x) (q:Q x H):aI K (.ref a) (.int i) H Q:=by
 subst e
 refine .inl (.inr (.inl ⟨a,xs,j,x,rfl,rfl,SqT.of ha,?_,q⟩))
 have hj:=(List.getElem?_eq_some_iff.mp hx).1
 rw [oV (by omega) (by omega)]
 simp [List.getD_eq_getElem?_getD,hx]
variable {K:W.Frag} {mg:Str→Option Value} {A:Adr}
theorem BO (K:W.Frag) (A:Adr):Ln (iN K A) 1:=by rintro vs H Q E ⟨v,d,rfl,_⟩;rfl
theorem FD (T:Txt K mg A) (vs:List V) (H:Hp) (Q:VK) (E:XK) (h:iN K A vs H Q E):GR K A { nx:=fun _ H'=>Q .non H',rt:=Q } (start ["thing"] vs) H:=by
 obtain ⟨v,d,rfl,w,q⟩:=h
 refine ⟨by decide,_,w.ty,?_⟩
 cases d
 case int i=>exact Sel.yes rfl ⟨by decide,_,w.ty,q⟩
 case bl b=>exact Sel.yes rfl ⟨by decide,_,w.ty,q⟩
 all_goals exact Sel.no rfl q
theorem BH (K:W.Frag) (A:Adr):Ln (iR K A) 1:=by rintro vs H Q E ⟨v,d,rfl,_⟩;rfl
theorem Gp (T : Txt K mg A) (vs : List V) (H : Hp) (Q : VK) (E : XK) (h : iR K A vs H Q E) : Hb K A { nx := fun _ H' => Q .non H', rt := Q } (start ["thing"] vs) H := by
  obtain ⟨v, d, rfl, w, q⟩ := h
  refine ⟨v, d, rfl, w, ?_⟩
  cases w with
  | int i =>
    refine Sel.yes rfl (Sel.dec (fun h0 => ⟨⟨by decide, by decide, by decide⟩, ?_⟩) (fun h0 => ?_))
    · show Q (.bl (decide (i < 10 ^ ((60 : Int).toNat)))) H
      have e : bo (.int i) = decide (i < 10 ^ ((60 : Int).toNat)) := by
        show decide (0 ≤ i ∧ i < 10 ^ 60) = decide (i < 10 ^ 60)
        by_cases h1 : i < 10 ^ 60
        · rw [decide_eq_true h1, decide_eq_true ⟨h0, h1⟩]
        · rw [decide_eq_false h1, decide_eq_false fun z => h1 z.2]
      rw [← e]; exact q
    · have e : bo (.int i) = false := decide_eq_false fun z => h0 z.1
      rw [← e]; exact q
  | non => exact Sel.no rfl ⟨by decide, _, rfl, q⟩
  | bl b => exact Sel.no rfl ⟨by decide, _, rfl, q⟩
  | str z => exact Sel.no rfl ⟨by decide, _, rfl, q⟩
  | lst e r => exact Sel.no rfl ⟨by decide, _, (aJ.lst e r).ty, q⟩
  | tup e r => exact Sel.no rfl ⟨by decide, _, (aJ.tup e r).ty, q⟩
  | dic e => exact Sel.no rfl ⟨by decide, _, (aJ.dic e).ty, q⟩
end Rs
namespace Rs
open PySem PySem.Spec PyProof.Rows L2
theorem mO {x y:Str} (h1:cg x=true) (h2:cg y=true):cg (x++y)=true:=by
 unfold cg at h1 h2 ⊢
 show (x.cps++y.cps).all _=true
 rw [Array.all_append,h1,h2];rfl
theorem Cn (H:Hp) (m:Key):aJ H (kV m) (bX m):=by cases m <;> constructor
end Rs
namespace Rs
open PySem PySem.Spec PyProof.Rows L2
theorem wt {K:W.Frag} {H:Hp} {Q:VK} {a b:Key} (q:Q (.bl (decide (a=b))) H):bu K (kV a) (kV b) H Q:=by
 cases a <;> cases b
 · rename_i i j
   have e:decide ((Sum.inl i:Key)=Sum.inl j)=decide (i=j):=by simp
   rw [e] at q;exact q
 · have e:∀ (i:Int) (j:Str),decide ((Sum.inl i:Key)=Sum.inr j)=false:=by simp
   rw [e] at q;exact q
 · have e:∀ (i:Int) (j:Str),decide ((Sum.inr j:Key)=Sum.inl i)=false:=by simp
   rw [e] at q;exact q
 · rename_i i j
   have e:decide ((Sum.inr i:Key)=Sum.inr j)=decide (i=j):=by simp
   rw [e] at q;exact q
variable {K:W.Frag} {mg:Str→Option Value} {A:Adr}
theorem ix {H:Hp} {ps:List Addr} {ts:List (List Key)} (h:PK H ps ts):ps.length=ts.length:=Paired.length h
theorem mH {k:List Key} (h:okT k=true):1≤k.length∧k.length≤8:=by
 unfold okT at h
 simp only [Bool.and_eq_true] at h
 exact of_decide_eq_true h.1.1
end Rs
namespace Rs
open PySem PySem.Spec PyProof.Rows L2
theorem gW {k:List Key} (h:okT k=true):k.all okP=true:=by
 unfold okT at h
 rw [Bool.and_eq_true] at h
 exact h.2
theorem mf {k:List Key} {x:Key} (h:okT k=true) (hx:x∈k):okP x=true:=List.all_eq_true.mp (gW h) x hx
theorem vw {k : List Key} (h : okT k = true) : ∃ z r, k = .inr z :: r := by
  unfold okT at h
  simp only [Bool.and_eq_true] at h
  cases k with
  | nil => cases h.1.2
  | cons x r =>
    cases x with
    | inl i => cases h.1.2
    | inr z => exact ⟨z, r, rfl⟩
theorem wD {x:Key} (h:okP x=true):bo (bX x)=true:=by
 cases x with
 | inl i=>exact h
 | inr z=>rfl
theorem jz {i:Int} (h0:0≤i) (h1:i<10^60):i.natAbs.log2<1920:=by
 by_cases e:i.natAbs=0
 · rw [e];decide
 · refine (Nat.log2_lt e).mpr ?_
   have:i.natAbs<10^60:=by omega
   exact Nat.lt_of_lt_of_le this (by decide +kernel)
theorem fc {i:Int} (h0:0≤i) (h1:i<10^60):((toString i:String):Str).length≤61:=by
 have:i.natAbs<10^60:=by omega
 have:=int_text_length_le10 (k:=60) (by decide) this
 show (Str.ofString _).length≤_
 rw [PySem.ofString_length];exact this
theorem gi (s:String) (h:s.length=1:=by rfl):(s:Str).length=1:=by
 show (Str.ofString s).length=1
 rw [PySem.ofString_length];exact h
theorem nB {x : Key} (h : okP x = true) : (ej x).length ≤ szK x := by
  cases x with
  | inl i =>
    have h := of_decide_eq_true h
    have := fc h.1 h.2
    show (((toString i : String) : Str) ++ ((";" : String) : Str)).length ≤ 62
    rw [strLen_append, gi ";"]; omega
  | inr z =>
    have h := of_decide_eq_true (Bool.and_eq_true_iff.mp h).2
    have := fc (i := (z.length : Int)) (by omega) (by omega)
    show (((toString (z.length : Int) : String) : Str) ++ ((":" : String) : Str) ++ z).length ≤ z.length + 62
    rw [strLen_append, strLen_append, gi ":"]; omega
theorem Ck {x : Key} (h : okP x = true) : szK x ≤ 100062 := by
  cases x with
  | inl i => show 62 ≤ 100062; decide
  | inr z =>
    have h := of_decide_eq_true (Bool.and_eq_true_iff.mp h).2
    show z.length + 62 ≤ 100062; omega
theorem pq:∀ xs:List Key,fU xs=(xs.map ej).foldr (·++·) Str.empty
 | []=>rfl
 | x::r=>by show ej x++fU r=ej x++_;rw [pq r]
theorem mW : ∀ {k : List Key}, k.all okP = true → (fU k).length ≤ szT k
  | [], _ => by show Str.empty.length ≤ 0; decide
  | x :: r, h => by
    rw [List.all_cons, Bool.and_eq_true] at h
    have h1 := nB h.1
    have h2 := mW h.2
    show (ej x ++ fU r).length ≤ ((x :: r).map szK).sum
    rw [strLen_append, List.map_cons, List.sum_cons]
    unfold szT at h2
    omega
theorem gU {x y:Str} (h1:cg x=true) (h2:cg y=true):cg (x++y)=true:=mO h1 h2
theorem vx {z:Str} (h:∀ c∈z.cps.toList,c<128):cg z=true:=by
 unfold cg
 rw [Array.all_eq_true]
 intro i hi
 exact decide_eq_true (h _ (by simp))
theorem zn (n:Nat):cg ((toString (n:Int):String):Str)=true:=by
 refine vx fun c hc=>?_
 rw [W.KIN.signs_num n] at hc
 obtain ⟨ch,hch,e⟩:=List.mem_map.mp hc
 have:=digit_range (Nat.isDigit_of_mem_toDigits (by decide) (by decide) hch)
 rw [← e];omega
theorem mr {i:Int} (h:0≤i):cg ((toString i:String):Str)=true:=by
 obtain ⟨n,rfl⟩:=Int.eq_ofNat_of_zero_le h
 exact zn n
theorem tT {x : Key} (h : okP x = true) : cg (ej x) = true := by
  cases x with
  | inl i =>
    have h := of_decide_eq_true h
    exact gU (mr h.1) (by decide +kernel)
  | inr z =>
    have h := (Bool.and_eq_true_iff.mp h).1
    exact gU (gU (mr (by omega)) (by decide +kernel)) h
theorem ni : ∀ {k : List Key}, k.all okP = true → cg (fU k) = true
  | [], _ => by decide +kernel
  | x :: r, h => by
    rw [List.all_cons, Bool.and_eq_true] at h
    exact gU (tT h.1) (ni h.2)
theorem qA : ∀ {k : List Key}, k.all okP = true → szT k ≤ k.length * 100062
  | [], _ => by decide
  | x :: r, h => by
    rw [List.all_cons, Bool.and_eq_true] at h
    have h1 := Ck h.1
    have h2 := qA h.2
    show ((x :: r).map szK).sum ≤ _
    rw [List.map_cons, List.sum_cons, List.length_cons, Nat.succ_mul]
    unfold szT at h2
    omega
theorem pF : ∀ {k : List Key}, k.all okP = true → ((k.map ej).map (·.length)).sum ≤ szT k
  | [], _ => by decide
  | x :: r, h => by
    rw [List.all_cons, Bool.and_eq_true] at h
    have h1 := nB h.1
    have h2 := pF h.2
    show (((x :: r).map ej).map (·.length)).sum ≤ ((x :: r).map szK).sum
    rw [List.map_cons, List.map_cons, List.sum_cons, List.map_cons, List.sum_cons]
    unfold szT at h2
    omega
variable {K:W.Frag} {mg:Str→Option Value} {A:Adr}
theorem CL (K:W.Frag) (A:Adr):Ln (lU K A) 1:=by rintro vs H Q E ⟨p,k,rfl,_⟩;rfl
theorem Gu (T:Txt K mg A):Rd (lU K A) (GS K A) ["thing"]:=by
 intro vs H Q E h
 obtain ⟨p,k,rfl,hp,ok,q⟩:=h
 obtain ⟨l1,l8⟩:=mH ok
 obtain ⟨z,r,hk⟩:=vw ok
 have ty:tyN H (.ref p)=some "tuple" :=by unfold tyN;dsimp only;rw [hp]
 refine ⟨by decide, "tuple",ty,Sel.no rfl (.inl (.inr (.inl ⟨_,SqT.of hp,?_⟩)))⟩
 refine Sel.dec (fun h1=>?_) (fun h1=>absurd (by simp;omega) h1)
 refine Sel.ndec (fun h8=>absurd (by simp;omega) h8) (fun h8=>?_)
 refine ixT (j:=0) hp rfl (by rw [hk];rfl) ⟨by decide, "str",rfl,Sel.yes rfl ?_⟩
 refine ⟨p,rfl,.inr ⟨⟨_,SqT.of hp⟩,fun D hD=>?_⟩⟩
 have hne:p≠D:=ay hp hD
 have hml:(k.map kV).length=k.length:=by simp
 refine eQ (dQ.tuple (xs:=k.map kV) .non) (fun i ys H2=>ys=(k.take i).map (fun x=>V.bl true)∧H2=upd H D (.lst ys)) (fun i ys H2 hi ⟨_,e2⟩=>?_) ⟨rfl,rfl⟩ (fun i ys H2 hi ⟨e1,e2⟩=>?_) (fun ys H2 ⟨e1,e2⟩=>?_)
 · rw [e2];exact SqT.of (by rw [aq hne];exact hp)
 · subst e2
   have hi':i<k.length:=by omega
   obtain ⟨x,hx⟩:∃ x,k[i]?=some x:=⟨_,List.getElem?_eq_getElem hi'⟩
   have hg:(k.map kV).getD i .non=kV x:=by rw [List.getD_eq_getElem?_getD,List.getElem?_map,hx];rfl
   rw [hg]
   have hs:=wD (mf ok (List.mem_of_getElem? hx))
   refine iB ⟨_,bX x,rfl,Cn _ x,?_⟩
   rw [hs]
   have hyl:ys.length=i:=by rw [e1,List.length_map,List.length_take];omega
   refine ⟨ai,by rw [hyl];exact bR (by omega),CWd.next hi ⟨?_,eR⟩⟩
   rw [e1,List.take_add_one,List.map_append,hx];rfl
 · subst e2
   refine ⟨D,k.map fun _=>true,rfl,by rw [ai,e1,hml,List.take_length,List.map_map];rfl,?_⟩
   have:(k.map fun _=>true).all id=true:=by simp
   rw [this];exact q _ (ao.upd hD)
theorem Bd (K:W.Frag) (A:Adr):Ln (oE K A) 1:=by rintro vs H Q E ⟨v,rfl,_⟩;rfl
theorem Ek (T : Txt K mg A) : Rd (oE K A) (Ic K A) ["part", "signs"] := by
  intro vs H Q E h
  obtain ⟨v, rfl, hp, q⟩ := h
  cases v with
  | inl i =>
    have h := of_decide_eq_true hp
    have l := fc h.1 h.2
    refine ⟨.int i, .int i, rfl, .int i, Sel.t ?_⟩
    have e1 : Str.empty ++ ((toString i : String) : Str) = ((toString i : String) : Str) := Str.empty_append _
    have l2 : (((toString i : String) : Str) ++ ((";" : String) : Str)).length ≤ sizeLine := by rw [strLen_append, gi ";"]; exact ax (by omega)
    refine ⟨jz h.1 h.2, by rw [e1]; exact ax (by omega), ?_, ?_, ?_⟩ <;> rw [e1]
    · exact l2
    · exact l2
    · exact q
  | inr z =>
    have h := of_decide_eq_true (Bool.and_eq_true_iff.mp hp).2
    have l := fc (i := (z.length : Int)) (by omega) (by omega)
    refine ⟨.str z, .str z, rfl, .str z, Sel.f ?_⟩
    have e1 : Str.empty ++ ((toString (z.length : Int) : String) : Str) = ((toString (z.length : Int) : String) : Str) := Str.empty_append _
    have l2 : (((toString (z.length : Int) : String) : Str) ++ ((":" : String) : Str)).length ≤ sizeLine := by rw [strLen_append, gi ":"]; exact ax (by omega)
    have l3 : (((toString (z.length : Int) : String) : Str) ++ ((":" : String) : Str) ++ z).length ≤ sizeLine := by rw [strLen_append, strLen_append, gi ":"]; exact ax (by omega)
    refine .inl ⟨ax (by omega), jz (by omega) (by omega), by rw [e1]; exact ax (by omega), ?_, ax (by omega), ?_, ?_, ?_⟩ <;> rw [e1]
    · exact l2
    · exact l3
    · exact l3
    · exact q
theorem AL (K:W.Frag) (A:Adr):Ln (lr K A) 1:=by rintro vs H Q E ⟨p,k,rfl,_⟩;rfl
theorem FM (T:Txt K mg A):Rd (lr K A) (Hr K A) ["term"]:=by
 intro vs H Q E h
 obtain ⟨p,k,rfl,hp,ok,q⟩:=h
 refine ⟨p,k,rfl,hp,ok,fun H' s=>Sel.no rfl ?_⟩
 have hp':=s _ _ hp
 have hml:(k.map kV).length=k.length:=by simp
 obtain ⟨l1,l8⟩:=mH ok
 refine ⟨rfl,⟨p,rfl,.inr ⟨⟨_,SqT.of hp'⟩,fun D hD=>?_⟩⟩⟩
 have hne:p≠D:=ay hp' hD
 refine eQ (dQ.tuple (xs:=k.map kV) .non) (fun i ys H2=>ys=(k.take i).map (fun x=>V.str (ej x))∧H2=upd H' D (.lst ys)) (fun i ys H2 hi ⟨_,e2⟩=>?_) ⟨rfl,rfl⟩ (fun i ys H2 hi ⟨e1,e2⟩=>?_) (fun ys H2 ⟨e1,e2⟩=>?_)
 · rw [e2];exact SqT.of (by rw [aq hne];exact hp')
 · subst e2
   have hi':i<k.length:=by omega
   obtain ⟨x,hx⟩:∃ x,k[i]?=some x:=⟨_,List.getElem?_eq_getElem hi'⟩
   have hg:(k.map kV).getD i .non=kV x:=by rw [List.getD_eq_getElem?_getD,List.getElem?_map,hx];rfl
   rw [hg]
   refine iB ⟨x,rfl,mf ok (List.mem_of_getElem? hx),?_⟩
   have hyl:ys.length=i:=by rw [e1,List.length_map,List.length_take];omega
   refine ⟨ai,by rw [hyl];exact bR (by omega),CWd.next hi ⟨?_,eR⟩⟩
   rw [e1,List.take_add_one,List.map_append,hx];rfl
 · subst e2
   refine ⟨"",D,k.map ej,rfl,rfl,by rw [ai,e1,hml,List.take_length,List.map_map];rfl,?_,?_⟩
   · have h1:=pF (gW ok)
     have h2:=qA (gW ok)
     have e0:(("" :String):Str).length=0:=by decide
     rw [e0]
     have:k.length*100062≤8*100062:=Nat.mul_le_mul_right _ l8
     omega
   · rw [mh,←pq]
     exact q _ (s.trans (ao.upd hD))
theorem FE (K:W.Frag) (A:Adr):Ln (sj K A) 1:=by rintro vs H Q E ⟨x,dx,rfl,_⟩;rfl
theorem HD (T:Txt K mg A):Rd (sj K A) (T_1 K A) ["self"]:=by
 intro vs H Q E h
 obtain ⟨x,dx,rfl,hx,q⟩:=h
 exact .inr fun d hd=>⟨x,A.c_Numbers,dx,[],rfl,by rw [aq (ay hx hd)];exact hx,T.cl_Numbers,T.na_Numbers_given,by decide,q d hd⟩
theorem fR.mono {H H':Hp} {x d:Addr} {kvs:List (List Key×V)} (s:ao H H') (n:fR A H x d kvs):fR A H' x d kvs:=by
 obtain ⟨⟨dx,h1⟩,h2⟩:=n
 exact ⟨⟨dx,s _ _ h1⟩,s _ _ h2⟩
theorem fR.hide {H:Hp} {x d:Addr} {kvs:List (List Key×V)} {cs:List Addr} {cvs:List V} (hc:cp H cs cvs) (n:fR A H x d kvs):fR A (cA cs H) x d kvs:=by
 obtain ⟨⟨dx,h1⟩,h2⟩:=n
 exact ⟨⟨dx,hc.hide h1 (fun _ z=>nomatch z)⟩,hc.hide h2 (fun _ z=>nomatch z)⟩
theorem FN (K:W.Frag) (A:Adr):Ln (rz K A) 2:=by rintro vs H Q E ⟨x,d,p,kvs,k,rfl,_⟩;rfl
theorem Ir (T : Txt K mg A) : Rd (rz K A) (T_2 K A) ["self", "term"] := by
  intro vs H Q E h
  obtain ⟨x, d, a, kvs, k, rfl, nu, hl, hp, ok, q⟩ := h
  refine ⟨a, k, rfl, hp, ok, fun H' s => Sel.no rfl ?_⟩
  have ta' := s _ _ hp
  obtain ⟨⟨dx, hx⟩, hd⟩ := nu.mono s
  have q := q H' s
  have g := fb.t hd ta'
  refine ⟨x, A.c_Numbers, dx, _, .ref d, rfl, hx, T.cl_Numbers, T.na_Numbers_given, rfl, .inl ⟨d, bY kvs k, rfl, g, ?_⟩⟩
  unfold jf iC at q
  cases e : bY kvs k with
  | some w =>
    rw [e] at q g
    have q : Q w H' := q
    exact Sel.no rfl ⟨x, A.c_Numbers, dx, _, .ref d, rfl, hx, T.cl_Numbers, T.na_Numbers_given, rfl, .inr ⟨d, w, rfl, g, q⟩⟩
  | none =>
    rw [e] at q g
    have q : Q (.int kvs.length) (upd H' d (.dT (bW kvs k (.int kvs.length)))) := q
    have hx' : upd H' d (.dT (bW kvs k (.int kvs.length))) x = some (.ins A.c_Numbers dx [("given", .ref d)]) := by rw [aq (bH hx hd (fun z => nomatch z))]; exact hx
    have ha' : upd H' d (.dT (bW kvs k (.int kvs.length))) a = some (.tup (k.map kV)) := by rw [aq (bH ta' hd (fun z => nomatch z))]; exact ta'
    refine Sel.yes rfl ⟨x, A.c_Numbers, dx, _, .ref d, rfl, hx, T.cl_Numbers, T.na_Numbers_given, rfl, .inr ⟨d, kvs, rfl, hd, x, A.c_Numbers, dx, _, .ref d, rfl, hx, T.cl_Numbers, T.na_Numbers_given, rfl, .inr ⟨d, _, rfl, .inr ⟨kvs, k, a, hd, rfl, ta', Nat.lt_of_le_of_lt hl (ax (n := 50001) (by decide)), rfl⟩, ?_⟩⟩⟩
    have g2 := fb.t (kvs := bW kvs k (.int kvs.length)) (k := k) ai ha'
    rw [kR, if_pos rfl] at g2
    exact ⟨x, A.c_Numbers, dx, _, .ref d, rfl, hx', T.cl_Numbers, T.na_Numbers_given, rfl, .inr ⟨d, _, rfl, g2, q⟩⟩
theorem DQ (T:Txt K mg A) (a0:V) (H:Hp) (Q:VK) (E:XK) (h:rD K A [a0] H Q E):BZ K A (dN ["term"] [a0] []) H Q:=h
theorem FS (T:Txt K mg A) (a0 b0:V) (H:Hp) (Q:VK) (E:XK) (h:sM K A [a0,b0] H Q E):Du K A (dN ["term", "numbers"] [a0] [b0]) H Q:=by
 obtain ⟨x,d,p,kvs,k,e,nu,hl,hp,ok,h⟩:=h
 cases e
 obtain ⟨dx,hx⟩:=nu.ob
 exact ⟨x,dx,_,rfl,hx,rfl,x,d,p,kvs,k,rfl,nu,hl,hp,ok,h⟩
theorem Dr {H:Hp} {b p:Addr} {kvs:List (List Key×V)} {kk:List Key} {d:V} (hb:H b=some (.dT kvs)) (hp:H p=some (.tup (kk.map kV))) (hl:kvs.length≤50000):
  Dj H b (.ref p) d (jf kvs kk d) (iC H b kvs kk d):=by
 unfold jf iC
 have g:=fb.t hb hp
 cases e:bY kvs kk with
 | some v=>rw [e] at g;exact .inl ⟨g,if_pos rfl⟩
 | none=>rw [e] at g;exact .inr ⟨g,.inr ⟨kvs,kk,p,hb,rfl,hp,Nat.lt_of_le_of_lt hl (ax (n:=50001) (by decide)),if_neg (by decide)⟩,rfl⟩
theorem bN.trans {P:Addr} {H H1 H2:Hp} (a:bN P H H1) (b:bN P H1 H2):bN P H H2:=fun x o e n=>b x o (a x o e n) n
theorem bN.new {P p:Addr} {H:Hp} {o:HO} (h:H p=none):bN P H (upd H p o):=fun b u e _=>by rw [aq (ay e h)];exact e
theorem bN.tab {P:Addr} {H:Hp} {o:HO}:bN P H (upd H P o):=fun b u e n=>by rw [aq n];exact e
theorem cb {H:Hp} {P q:Addr} {o:HO} (hP:H P=some o) (hq:H q=none):q≠P:=fun e=>by rw [e,hP] at hq;cases hq
theorem bJ {H:Hp} {p q:Addr} {o:HO} (h:upd H p o q=none):q≠p∧H q=none:=by
 by_cases e:q=p
 · subst e;rw [ai] at h;cases h
 · rw [aq e] at h;exact ⟨e,h⟩
theorem yD {H:Hp} {P c f q:Addr} {o1 o2:HO} {t:cV} {v:V} (hP:H P=some o1) (hc:H c=none) (hf:H f=none) (hne:c≠f) (hq:upd (upd (upd H P o2) c (cH c t.qual)) f (du f t [q] c) q=none):
  bN P H (upd (upd (upd (upd H P o2) c (cH c t.qual)) f (du f t [q] c)) q (cn q v))∧dv (upd (upd (upd (upd H P o2) c (cH c t.qual)) f (du f t [q] c)) q (cn q v)) f t [q] [v]:=by
 have c1:upd H P o2 c=none:=by rw [aq (cb hP hc)];exact hc
 have f1:upd (upd H P o2) c (cH c t.qual) f=none:=by rw [aq (Ne.symm hne),aq (cb hP hf)];exact hf
 have S3:=bN.new (P:=P) (o:=cn q v) hq
 have S2:=(bN.new (P:=P) (o:=du f t [q] c) f1).trans S3
 have S1:=(bN.new (P:=P) (o:=cH c t.qual) c1).trans S2
 exact ⟨bN.tab.trans S1,⟨⟨c,S3 _ _ ai (cb hP hf),S2 _ _ ai (cb hP hc)⟩,.cons ai .nil⟩⟩
theorem pi:fJ []:=fun p hp=>nomatch hp
theorem rC.of {P:Addr} {H H':Hp} {ps:Array Value} (hP:H P=some (.tbl ps)) (k:bN P H H'):rC H H':=fun b o e n=>k b o e fun z=>by subst z;rw [hP] at e;cases e;exact n _ rfl
end Rs
namespace Rs
open PySem PySem.Spec PyProof.Rows L2
theorem uc {x:Int} (h:x.natAbs<2^64):Builtin.Int.intBits x≤64:=by
 unfold Builtin.Int.intBits
 split
 · decide
 · rename_i hx
   have hx:x≠0:=by simpa using hx
   have:x.natAbs.log2<64:=(Nat.log2_lt (by omega)).mpr h
   omega
theorem sZ {x y:Int} (h0:0≤x) (h:x<2^64):IntMulOk x y:=IntMulOk.of_left (uc (by omega))
theorem IL {x y:Int} (h0:0≤y) (h:y<2^64):IntMulOk x y:=IntMulOk.of_right (uc (by omega))
variable {K:W.Frag} {mg:Str→Option Value} {A:Adr}
end Rs
namespace Rs
open PySem PySem.Spec PyProof.Rows L2
theorem BX {H:Hp} {P c f q0 q1:Addr} {o1 o2:HO} {t:cV} {v0 v1:V} (hP:H P=some o1) (hc:H c=none) (hf:H f=none) (hne:c≠f) (n01:q0≠q1) (h0:upd (upd (upd H P o2) c (cH c t.qual)) f (du f t [q0,q1] c) q0=none) (h1:upd (upd (upd H P o2) c (cH c t.qual)) f (du f t [q0,q1] c) q1=none):
  bN P H (upd (upd (upd (upd (upd H P o2) c (cH c t.qual)) f (du f t [q0,q1] c)) q0 (cn q0 v0)) q1 (cn q1 v1))∧dv (upd (upd (upd (upd (upd H P o2) c (cH c t.qual)) f (du f t [q0,q1] c)) q0 (cn q0 v0)) q1 (cn q1 v1)) f t [q0,q1] [v0,v1]:=by
 have c1:upd H P o2 c=none:=by rw [aq (cb hP hc)];exact hc
 have f1:upd (upd H P o2) c (cH c t.qual) f=none:=by rw [aq (Ne.symm hne),aq (cb hP hf)];exact hf
 have h1':upd (upd (upd (upd H P o2) c (cH c t.qual)) f (du f t [q0,q1] c)) q0 (cn q0 v0) q1=none:=by rw [aq (Ne.symm n01)];exact h1
 have S4:=bN.new (P:=P) (o:=cn q1 v1) h1'
 have S3:=(bN.new (P:=P) (o:=cn q0 v0) h0).trans S4
 have S2:=(bN.new (P:=P) (o:=du f t [q0,q1] c) f1).trans S3
 have S1:=(bN.new (P:=P) (o:=cH c t.qual) c1).trans S2
 exact ⟨bN.tab.trans S1,⟨⟨c,S3 _ _ ai (cb hP hf),S2 _ _ ai (cb hP hc)⟩,.cons (by rw [aq n01];exact ai) (.cons ai .nil)⟩⟩
variable {K:W.Frag} {mg:Str→Option Value} {A:Adr}
theorem FA (T:Txt K mg A) (a0 b0 b1:V) (H:Hp) (Q:VK) (E:XK) (h:rL K A [a0,b0,b1] H Q E):Bs K A { nx:=fun _ H'=>Q .non H',rt:=Q } (dN ["_law_term", "_law_step", "_law_known"] [a0] [b0,b1]) H:=by
 obtain ⟨p,b,j,k,kvs,e,j0,j1,hp,hb,hl,q⟩:=h
 cases e
 exact ⟨.inr (.inr (.inl ⟨rfl,.inr ⟨_,hb⟩⟩)),.inr ⟨b,kvs,rfl,hb,sZ j0 (by omega),b,.ref p,_,_,_,rfl,rfl,Dr hb hp hl,q⟩⟩
theorem GH (T : Txt K mg A) (a0 b0 : V) (H : Hp) (Q : VK) (E : XK) (h : sN K A [a0, b0] H Q E) : CZ K A { nx := fun _ H' => Q .non H', rt := Q } (dN ["_law_term", "_law_total", "_law_part", "_law_many_here"] [a0] [b0]) H := by
  obtain ⟨p, m, k, e, h1, h2, hp, ok, q⟩ := h
  cases e
  refine .inl (.inr (.inl ⟨_, SqT.of hp, ?_⟩))
  refine ⟨p, rfl, .inr ⟨⟨_, SqT.of hp⟩, ?_⟩⟩
  rw [List.length_map]
  refine zH (xs := k.map kV) (fun i σ H' => H' = H ∧ ∃ x2, σ = [some (.ref p), some (.int ((k.take i).foldl lX k.length)), x2, some (.int m)]) ⟨rfl, none, rfl⟩ ?_ ?_ ?_
  · rintro i σ _ _ ⟨rfl, _⟩; exact SqT.of hp
  · rintro i x σ _ hx ⟨rfl, x2, rfl⟩
    obtain ⟨kk, hk, rfl⟩ := jV hx
    have okk : okP kk = true := mf ok (List.mem_of_getElem? hk)
    have st := rV lX (k.length : Int) k i kk hk
    cases kk with
    | inl n =>
      refine ⟨by decide, "int", rfl, Sel.no rfl ⟨IntMulOk.of_left (by decide), rfl, some (.int n), ?_⟩⟩
      rw [st]; rfl
    | inr z =>
      refine ⟨by decide, "str", rfl, Sel.yes rfl ⟨IntMulOk.of_left (by decide), ?_⟩⟩
      obtain ⟨hz, hl⟩ := Bool.and_eq_true_iff.mp okk
      have hl := of_decide_eq_true hl
      refine .inl ⟨ax (by omega), rfl, some (.str z), ?_⟩
      rw [st]; rfl
  · rintro σ _ ⟨rfl, x2, rfl⟩
    have e : k.take (k.map kV).length = k := by rw [List.length_map, List.take_length]
    rw [e]
    exact ⟨by omega, q⟩
end Rs
namespace Rs
open PySem PySem.Spec PyProof.Rows L2
theorem Sub.rfl' {g:List Key→Option Key}:Sub g g:=fun _ _ e=>e
theorem Sub.trans {g g1 g2:List Key→Option Key} (a:Sub g g1) (b:Sub g1 g2):Sub g g2:=fun k v e=>b k v (a k v e)
theorem Ext.of {g g':List Key→Option Key} {h:List Key→Key} (s:Sub g g') (e:Ext g' h):Ext g h:=fun k v z=>e k v (s k v z)
theorem ib (kvs:List (List Key×Key)) (k:List Key):bY (bz kvs) k=(ci kvs k).map kV:=by
 unfold bY bz ci
 rw [List.find?_map]
 simp only [Option.map_map]
 congr 1
theorem uA {kvs:List (List Key×Key)} {k:List Key} {v:Key} {x:List Key×Key} (h:ci kvs k=some v):ci (kvs++[x]) k=some v:=by
 unfold ci at h ⊢
 rw [List.find?_append]
 cases e:kvs.find? fun p=>decide (p.1=k) with
 | none=>rw [e] at h;cases h
 | some y=>rw [e] at h;exact h
theorem vz {kvs:List (List Key×Key)} {k:List Key} {d:Key} (h:ci kvs k=none):ci (kvs++[(k,d)]) k=some d:=by
 unfold ci at h ⊢
 rw [List.find?_append]
 cases e:kvs.find? fun p=>decide (p.1=k) with
 | none=>simp
 | some y=>rw [e] at h;cases h
theorem wI {kvs:List (List Key×Key)} {k:List Key} {v:Key} (h:ci kvs k=some v):bY (bz kvs) k=some (kV v):=by rw [ib,h];rfl
theorem vM {kvs : List (List Key × Key)} {k : List Key} {v : Key} (hs : fJ kvs) (h : ci kvs k = some v) : il v := by
  unfold ci at h
  cases e : kvs.find? fun p => decide (p.1 = k) with
  | none => rw [e] at h; cases h
  | some y =>
    rw [e] at h
    cases h
    exact hs y (List.mem_of_find?_eq_some e)
theorem qq {kvs:List (List Key×Key)} {x:List Key×Key} (h:fJ kvs) (hx:il x.2):fJ (kvs++[x]):=fun p hp=>by
 rcases List.mem_append.mp hp with z | z
 · exact h p z
 · rw [List.mem_singleton.mp z];exact hx
theorem lH {k : List Key} {v : Key} (hk : 1 ≤ k.length) (h : il v) : rK k v := by
  cases v with
  | inl i => exact h
  | inr z =>
    refine ⟨h.1, Nat.le_trans h.2 ?_⟩
    cases k with
    | nil => simp at hk
    | cons x r =>
      show 62 ≤ ((x :: r).map szK).sum
      rw [List.map_cons, List.sum_cons]
      have : 62 ≤ szK x := by cases x with
        | inl i => exact Nat.le_refl 62
        | inr z => show 62 ≤ z.length + 62; omega
      omega
theorem pC {H : Hp} {b : Addr} {cs : List Addr} {cvs : List V} {kvs : List (List Key × Key)} (kk : List Key) (d : Key) (hs : fJ kvs) (hd : il d) (hb : H b = some (.dT (bz kvs))) (hc : cp H cs cvs) (H1 : Hp) (S : ao (cA cs H) H1) :
    ∃ (kvs' : List (List Key × Key)) (v : Key) (H' : Hp), jf (bz kvs) kk (kV d) = kV v ∧ cm cs H (iC H1 b (bz kvs) kk (kV d)) = H' ∧ H' b = some (.dT (bz kvs')) ∧ (∀ x o, x ≠ b → H x = some o → H' x = some o) ∧ kvs'.length ≤ kvs.length + 1 ∧ fJ kvs' ∧ ci kvs' kk = some v ∧ il v ∧ ∀ k v, ci kvs k = some v → ci kvs' k = some v := by
  have hbc : b ∉ cs := hc.notin hb fun _ z => nomatch z
  have S2 := ao.hide cs S
  cases e : ci kvs kk with
  | some v =>
    have ev := wI e
    refine ⟨kvs, v, cm cs H H1, by unfold jf; rw [ev]; rfl, ?_, S2 _ _ hb, fun _ _ _ h => S2 _ _ h, Nat.le_succ _, hs, e, vM hs e, fun _ _ h => h⟩
    unfold iC; rw [ev]; rfl
  | none =>
    have ev : bY (bz kvs) kk = none := by rw [ib, e]; rfl
    refine ⟨kvs ++ [(kk, d)], d, upd (cm cs H H1) b (.dT (bz (kvs ++ [(kk, d)]))), by unfold jf; rw [ev]; rfl, ?_, ai, fun x o n h => by rw [aq n]; exact S2 _ _ h, by simp, qq hs hd, vz e, hd, fun _ _ h => uA h⟩
    unfold iC; rw [ev, if_neg (by decide), ue hbc, vA _ ev]
    unfold bz; rw [List.map_append]; rfl
variable {K:W.Frag} {mg:Str→Option Value} {A:Adr}
theorem m0 {x:cV×Sp} {l:List (cV×Sp)}:x∈x::l:=List.mem_cons_self
theorem mS {x y:cV×Sp} {l:List (cV×Sp)} (h:x∈l):x∈y::l:=List.mem_cons_of_mem _ h
end Rs
namespace Rs
open PySem PySem.Spec PyProof.Rows L2
theorem aG.rfl' {b:Addr} {H:Hp}:aG b H H:=fun _ _ _ e=>e
theorem aG.trans {b:Addr} {H H1 H2:Hp} (a:aG b H H1) (c:aG b H1 H2):aG b H H2:=fun x o n e=>c x o n (a x o n e)
theorem aG.same {b:Addr} {H H':Hp} (S:ao H H'):aG b H H':=fun x o _ e=>S x o e
variable {K:W.Frag} {mg:Str→Option Value} {A:Adr}
theorem Ab (K:W.Frag) (A:Adr):Ln (nR K A) 0:=by rintro vs H Q E ⟨rfl,_⟩;rfl
theorem Ep (T:Txt K mg A) (hnd:([]:List Addr).Nodup) (vs:List V) (H:Hp) (Q:VK) (E:XK) (h:nR K A vs H Q E):BF K A { nx:=fun σ H'=>(∀ p∈([]:List (Nat×Addr)),H' p.2=none)→Q .non (cG [] σ H'),rt:=fun σ v H'=>(∀ p∈([]:List (Nat×Addr)),H' p.2=none)→Q v (cG [] σ H') } (L2.start [] vs) H:=by
 obtain ⟨rfl,hP,q⟩:=h
 refine ⟨#[],hP,trivial,.inl ⟨rfl,fun c f hc hf hne _=>?_⟩⟩
 have cP:=cb hP hc
 have fP:=cb hP hf
 have c1:∀ o,upd H A.t_60 o c=none:=fun o=>by rw [aq cP];exact hc
 have f1:∀ o,upd (upd H A.t_60 o) c (cH c fF.qual) f=none:=fun o=>by rw [aq (Ne.symm hne),aq fP];exact hf
 exact q f f _ _ (bN.tab.trans ((bN.new (c1 _)).trans (bN.new (f1 _)))) (.wri ⟨⟨c,ai,(aq hne).trans ai⟩,.nil⟩ rfl rfl) hf
theorem AK (K:W.Frag) (A:Adr):Ln (oB K A) 0:=by rintro vs H Q E ⟨rfl,_⟩;rfl
theorem FC (T:Txt K mg A) (q0:Addr) (hnd:([q0]:List Addr).Nodup) (vs:List V) (H:Hp) (Q:VK) (E:XK) (h:oB K A vs H Q E):AV K A q0 { nx:=fun σ H'=>(∀ p∈([(0,q0)]:List (Nat×Addr)),H' p.2=none)→Q .non (cG [(0,q0)] σ H'),rt:=fun σ v H'=>(∀ p∈([(0,q0)]:List (Nat×Addr)),H' p.2=none)→Q v (cG [(0,q0)] σ H') } (L2.start ["numbers"] vs) H:=by
 obtain ⟨rfl,hP,q⟩:=h
 intro x dx hx hdx hne
 refine ⟨x,dx,rfl,ai,fun d hd=>⟨rfl,?_⟩⟩
 obtain ⟨dnx,hd1⟩:=bJ hd
 obtain ⟨dndx,hd0⟩:=bJ hd1
 have xP:=cb hP hx
 have dxP:=cb hP hdx
 have dP:=cb hP hd0
 generalize e2:upd (upd (upd (upd H dx (.own x)) x (.ins A.c_Numbers dx [])) d (.dT [])) x (.ins A.c_Numbers dx [("given",.ref d)])=H2
 have S2:bN A.t_42 H H2:=by
  intro b o e n
  have b1:=ay e hx
  have b2:=ay e hdx
  have b3:=ay e hd0
  rw [← e2,aq b1,aq b3,aq b1,aq b2];exact e
 have hP2:H2 A.t_42=some (.tbl #[]):=by rw [← e2,aq (Ne.symm xP),aq (Ne.symm dP),aq (Ne.symm xP),aq (Ne.symm dxP)];exact hP
 have hx2:H2 x=some (.ins A.c_Numbers dx [("given",.ref d)]):=by rw [← e2,ai]
 have hd2:H2 d=some (.dT []):=by rw [← e2,aq dnx,ai]
 refine ⟨#[],hP2,trivial,.inl ⟨rfl,fun c f hc hf hne hq=>?_⟩⟩
 obtain ⟨k,ca⟩:=yD (v:=.ref x) hP2 hc hf hne (hq _ (List.mem_singleton.mpr rfl))
 exact q f d _ _ (S2.trans k) (.cnt q0 x [] ca ⟨⟨dx,k _ _ hx2 xP⟩,k _ _ hd2 dP⟩ (Nat.zero_le _) pi rfl) hd0
theorem AF (K:W.Frag) (A:Adr):Ln (nP K A) 1:=by rintro vs H Q E ⟨m,rfl,_⟩;rfl
theorem EW (T:Txt K mg A) (q0:Addr) (hnd:([q0]:List Addr).Nodup) (vs:List V) (H:Hp) (Q:VK) (E:XK) (h:nP K A vs H Q E):Cf K A q0 { nx:=fun σ H'=>(∀ p∈([(0,q0)]:List (Nat×Addr)),H' p.2=none)→Q .non (cG [(0,q0)] σ H'),rt:=fun σ v H'=>(∀ p∈([(0,q0)]:List (Nat×Addr)),H' p.2=none)→Q v (cG [(0,q0)] σ H') } (L2.start ["_law_many_here", "_law_stamp"] vs) H:=by
 obtain ⟨m,rfl,m1,m2,hP,q⟩:=h
 refine ⟨#[],hP,trivial,.inl ⟨rfl,fun c f hc hf hne hq=>?_⟩⟩
 obtain ⟨k,ca⟩:=yD (v:=.int m) hP hc hf hne (hq _ (List.mem_singleton.mpr rfl))
 exact q f f _ _ k (.wea q0 m m1 m2 ca rfl rfl) hf
theorem CC (K:W.Frag) (A:Adr):Ln (oj K A) 1:=by rintro vs H Q E ⟨j,rfl,_⟩;rfl
theorem Fx (T:Txt K mg A) (q0 q1:Addr) (hnd:([q0,q1]:List Addr).Nodup) (vs:List V) (H:Hp) (Q:VK) (E:XK) (h:oj K A vs H Q E):AB K A q0 q1 { nx:=fun σ H'=>(∀ p∈([(0,q0),(1,q1)]:List (Nat×Addr)),H' p.2=none)→Q .non (cG [(0,q0),(1,q1)] σ H'),rt:=fun σ v H'=>(∀ p∈([(0,q0),(1,q1)]:List (Nat×Addr)),H' p.2=none)→Q v (cG [(0,q0),(1,q1)] σ H') } (L2.start ["_law_step", "_law_known", "_law_stamp"] vs) H:=by
 obtain ⟨j,rfl,j0,j1,hP,q⟩:=h
 have n01:q0≠q1:=fun e=>by simp [e] at hnd
 refine .inr fun b hb=>?_
 have bP:b≠A.t_32:=cb hP hb
 have hP1:upd H b (.dT []) A.t_32=some (.tbl #[]):=by rw [aq (Ne.symm bP)];exact hP
 have S1:bN A.t_32 H (upd H b (.dT [])):=bN.new hb
 refine ⟨#[],hP1,trivial,.inl ⟨rfl,fun c f hc hf hne hq=>?_⟩⟩
 obtain ⟨k,ca⟩:=BX (v0:=.int j) (v1:=.ref b) hP1 hc hf hne n01 (hq (0,q0) (by simp)) (hq (1,q1) (by simp))
 exact q f b _ _ (S1.trans k) (.sur q0 q1 j j0 j1 [] ca (k _ _ ai bP) (Nat.zero_le _) pi rfl) hb
theorem CK (K:W.Frag) (A:Adr):Ln (og K A) 1:=by rintro vs H Q E ⟨c,rfl,_⟩;rfl
theorem Fy (T:Txt K mg A):Rd (og K A) (ID K A) ["_law_cell"]:=by
 intro vs H Q E h
 obtain ⟨c,rfl,⟨t1,t2,t3,t4,_⟩,q⟩:=h
 refine ⟨by decide,Sel.dec (fun h=>?_) (fun h=>?_)⟩
 · exact ⟨rfl,t1,fun f b g H' k s=>q f b g H' (.of t1 k) s⟩
 refine ⟨by decide,Sel.dec (fun h=>?_) (fun h=>?_)⟩
 · exact ⟨rfl,t2,fun f b g H' k s=>q f b g H' (.of t2 k) s⟩
 refine ⟨by decide,Sel.dec (fun h=>?_) (fun h=>?_)⟩
 · exact ⟨⟨by decide,by decide⟩,by decide,_,rfl,by omega,by omega,t3,fun f b g H' k s=>q f b g H' (.of t3 k) s⟩
 · exact ⟨⟨by decide,by decide⟩,by decide,_,rfl,by omega,by omega,t4,fun f b g H' k s=>q f b g H' (.of t4 k) s⟩
theorem Stp.clo {H:Hp} {f b:Addr} {g:List Key→Option Key} {n:Nat} (s:Stp A H f b g n):∃ ts∈cD K A,∃ cs cvs,dv H f ts.1 cs cvs:=by
 cases s with
 | wri hc _ _=>exact ⟨_,m0,_,_,hc⟩
 | cnt _ _ _ hc=>exact ⟨_,mS m0,_,_,hc⟩
 | sur _ _ _ _ _ _ hc=>exact ⟨_,mS (mS m0),_,_,hc⟩
 | wea _ _ _ _ hc=>exact ⟨_,mS (mS (mS m0)),_,_,hc⟩
theorem Stp.keep {H H' : Hp} {f b : Addr} {g : List Key → Option Key} {n m : Nat} (s : Stp A H f b g n) (hn : n ≤ m) (k : ∀ z o, H z = some o → (∀ xs, o ≠ .lst xs) → (∀ ps, o ≠ .tbl ps) → (z = b ∨ ∀ kvs, o ≠ .dT kvs) → H' z = some o) : Stp A H' f b g m := by
  have kx : ∀ z φ, H z = some (.ext φ) → H' z = some (.ext φ) := fun z φ e => k z _ e (fun _ z => nomatch z) (fun _ z => nomatch z) (.inr fun _ z => nomatch z)
  have kd : ∀ xs, H b = some (.dT xs) → H' b = some (.dT xs) := fun φ e => k b _ e (fun _ z => nomatch z) (fun _ z => nomatch z) (.inl rfl)
  cases s with
  | wri hc hb hg => exact .wri (hc.keep kx) hb hg
  | cnt q x kvs hc num hl hs hg =>
    obtain ⟨⟨dx, h1⟩, h2⟩ := num
    exact .cnt q x kvs (hc.keep kx) ⟨⟨dx, k _ _ h1 (fun _ z => nomatch z) (fun _ z => nomatch z) (.inr fun _ z => nomatch z)⟩, kd _ h2⟩ (Nat.le_trans hl hn) hs hg
  | sur q0 q1 j j0 j1 kvs hc hb hl hs hg => exact .sur q0 q1 j j0 j1 kvs (hc.keep kx) (kd _ hb) (Nat.le_trans hl hn) hs hg
  | wea q m h1 h2 hc hb hg => exact .wea q m h1 h2 (hc.keep kx) hb hg
theorem Stp.same {H H':Hp} {f b:Addr} {g:List Key→Option Key} {n m:Nat} (s:Stp A H f b g n) (hn:n≤m) (S:ao H H'):Stp A H' f b g m:=s.keep hn fun b o e _ _ _=>S b o e
theorem dn {H : Hp} {f b p : Addr} {g : List Key → Option Key} {n : Nat} {k : List Key} {R : VK} (s : Stp A H f b g n) (hn : n ≤ 45000) (hp : H p = some (.tup (k.map kV))) (ok : okT k = true)
    (q : ∀ (v : Key) (H' : Hp) (g' : List Key → Option Key), aG b H H' → Stp A H' f b g' (n + 1) → Sub g g' → g' k = some v → rK k v → R (kV v) H') : iL (cD K A) f [.ref p] H R E0 := by
  have s0 := s
  have hk := (mH ok).1
  have ll : ∀ kvs : List (List Key × Key), (bz kvs).length = kvs.length := fun kvs => by simp [bz]
  cases s with
  | wri hc hb hg =>
    refine ⟨_, m0, _, _, hc, rfl, p, k, rfl, hc.cells.hide hp (fun _ z => nomatch z), ok, fun H' S => ?_⟩
    have S := ao.hide _ S
    exact q (.inr (fU k)) _ g (aG.same S) (s0.same (Nat.le_succ _) S) Sub.rfl' (by rw [hg]) ⟨ni (gW ok), mW (gW ok)⟩
  | wea c m h1 h2 hc hb hg =>
    refine ⟨_, mS (mS (mS m0)), _, _, hc, rfl, p, m, k, rfl, h1, h2, hc.cells.hide hp (fun _ z => nomatch z), ok, ?_⟩
    have S := ao.hide [c] (.refl (cA [c] H))
    have r0 := Int.emod_nonneg (k.foldl lX k.length) (b := m) (by omega)
    have r1 := Int.emod_lt_of_pos (k.foldl lX k.length) (b := m) (by omega)
    have p60 : (9 : Int) < 10 ^ 60 := by decide +kernel
    exact q (rN m k) _ g (aG.same S) (s0.same (Nat.le_succ _) S) Sub.rfl' (by rw [hg]) (show 0 ≤ _ ∧ _ < _ from ⟨r0, by omega⟩)
  | cnt c x kvs hc num hl hs hg =>
    have p60 : (50000 : Int) < 10 ^ 60 := by decide +kernel
    refine ⟨_, mS m0, _, _, hc, rfl, x, b, p, bz kvs, k, rfl, num.hide hc.cells, by rw [ll]; omega, hc.cells.hide hp (fun _ z => nomatch z), ok, fun H' S => ?_⟩
    obtain ⟨dx, hx⟩ := num.ob
    obtain ⟨kvs', v, H2, ev, eH, hb', keep, hl', hs', gv, sv, sub⟩ := pC k (.inl ((bz kvs).length : Int)) hs (show 0 ≤ _ ∧ _ < _ from ⟨by omega, by rw [ll]; omega⟩) num.di hc.cells H' S
    rw [show V.int ((bz kvs).length : Int) = kV (.inl ((bz kvs).length : Int)) from rfl, ev, eH]
    refine q v H2 (ci kvs') (fun x o n e => keep x o n e)
      (.cnt c x kvs' (hc.keep fun x φ e => keep x _ (bH e num.di (fun z => nomatch z)) e) ⟨⟨dx, keep _ _ (bH hx num.di (fun z => nomatch z)) hx⟩, hb'⟩ (by omega) hs' rfl) ?_ gv (lH hk sv)
    rw [hg]; exact sub
  | sur q0 q1 j j0 j1 kvs hc hb hl hs hg =>
    have p60 : (50000000 : Int) < 10 ^ 60 := by decide +kernel
    have bd : 0 ≤ j * ((bz kvs).length : Int) + 5 ∧ j * ((bz kvs).length : Int) + 5 < 10 ^ 60 := by
      rw [ll]
      have h1 : j * (kvs.length : Int) ≤ 1000 * 45000 := Int.mul_le_mul (by omega) (by omega) (by omega) (by decide)
      have h2 : 0 ≤ j * (kvs.length : Int) := Int.mul_nonneg j0 (by omega)
      omega
    obtain ⟨kvs', v, H2, ev, eH, hb', keep, hl', hs', gv, sv, sub⟩ := pC k (.inl (j * ((bz kvs).length : Int) + 5)) hs bd hb hc.cells _ (.refl _)
    refine ⟨_, mS (mS m0), _, _, hc, rfl, p, b, j, k, bz kvs, rfl, j0, j1, hc.cells.hide hp (fun _ z => nomatch z), hc.cells.hide hb (fun _ z => nomatch z), by rw [ll]; omega, ?_⟩
    dsimp only
    rw [show V.int (j * ((bz kvs).length : Int) + 5) = kV (.inl (j * ((bz kvs).length : Int) + 5)) from rfl, ev, eH]
    refine q v H2 (ci kvs') (fun x o n e => keep x o n e)
      (.sur q0 q1 j j0 j1 kvs' (hc.keep fun x φ e => keep x _ (bH e hb (fun z => nomatch z)) e) hb' (by omega) hs' rfl) ?_ gv (lH hk sv)
    rw [hg]; exact sub
end Rs
namespace Rs
open PySem PySem.Spec PyProof.Rows L2
variable {K:W.Frag} {mg:Str→Option Value} {A:Adr}
theorem jN {n:Nat} (h:2≤n):1≤aE n∧aE n<n:=by
 unfold aE
 have h1:=Nat.log2_self_le (n:=n - 1) (by omega)
 exact ⟨Nat.one_le_two_pow,by omega⟩
theorem mU (h : List Key → Key) : ∀ (n m : Nat) (es : List Key), es.length ≤ n → es.length ≤ m → gk h n es = gk h m es := by
  intro n
  induction n with
  | zero =>
    intro m es h1 h2
    cases es with
    | nil => cases m <;> rfl
    | cons a r => simp at h1
  | succ n ih =>
    intro m es h1 h2
    cases m with
    | zero =>
      cases es with
      | nil => rfl
      | cons a r => simp at h2
    | succ m =>
      match es, h1, h2 with
      | [], _, _ => rfl
      | [e], _, _ => rfl
      | a :: b :: r, h1, h2 =>
        have hl : 2 ≤ (a :: b :: r).length := by simp
        obtain ⟨g1, g2⟩ := jN hl
        show [_, h (gk h n ((a :: b :: r).take _)), h (gk h n ((a :: b :: r).drop _))] = [_, h (gk h m _), h (gk h m _)]
        rw [ih m _ (by rw [List.length_take]; omega) (by rw [List.length_take]; omega), ih m _ (by rw [List.length_drop]; omega) (by rw [List.length_drop]; omega)]
theorem tZ (h : List Key → Key) {es : List Key} (hl : 2 ≤ es.length) : fS h es = [.inr "joint", h (fS h (es.take (aE es.length))), h (fS h (es.drop (aE es.length)))] := by
  obtain ⟨g1, g2⟩ := jN hl
  unfold fS
  match es, hl with
  | a :: b :: r, hl =>
    show [_, h (gk h ((b :: r).length) ((a :: b :: r).take _)), h (gk h ((b :: r).length) ((a :: b :: r).drop _))] = _
    have e : (a :: b :: r).length = (b :: r).length + 1 := rfl
    rw [mU h ((b :: r).length) ((a :: b :: r).take (aE (a :: b :: r).length)).length _ (by rw [List.length_take]; omega) (Nat.le_refl _), mU h ((b :: r).length) ((a :: b :: r).drop (aE (a :: b :: r).length)).length _ (by rw [List.length_drop]; omega) (Nat.le_refl _)]
end Rs
namespace Rs
open PySem PySem.Spec PyProof.Rows L2
variable {K:W.Frag} {mg:Str→Option Value} {A:Adr}
theorem cO {H:Hp} (x:Key):aJ H (kV x) (bX x):=by
 cases x with
 | inl i=>exact .int i
 | inr z=>exact .str z
theorem ixL {K:W.Frag} {H:Hp} {Q:VK} {a:Addr} {xs:List V} {x:V} {i:Int} {j:Nat} (ha:H a=some (.lst xs)) (e:i=j) (hx:xs[j]?=some x) (q:Q x H):aI K (.ref a) (.int i) H Q:=by
 subst e
 refine .inl (.inl ⟨a,xs,j,x,rfl,rfl,SqL.of ha,?_,q⟩)
 have hj:=(List.getElem?_eq_some_iff.mp hx).1
 rw [oV (by omega) (by omega)]
 simp [List.getD_eq_getElem?_getD,hx]
theorem jx {e:Key} (h:okP e=true):bo (bX e)=true:=by
 cases e with
 | inl i=>exact h
 | inr z=>rfl
theorem Gk:(PySem.Str.length " !\"#$&'()*+,-./0123456789:;<=>?@ABCDEFGHIJKLMNOPQRSTUVWXYZ[\\]^_`" +PySem.Str.length "abcdefghijklmnopqrstuvwxyz{|}~")≤1000000:=by decide +kernel
def sg1:Str:= " !\"#$&'()*+,-./0123456789:;<=>?@ABCDEFGHIJKLMNOPQRSTUVWXYZ[\\]^_`"
def sg2:Str:= "abcdefghijklmnopqrstuvwxyz{|}~"
theorem AH:(sg1++sg2).length=94∧(sg1++sg2).cps.toList.length=94∧(sg1++sg2).cps.toList.all (·<128)=true:=by decide +kernel
theorem vT {zs:List Str} (h:∀ z∈zs,cg z=true):cg (Txt.join "" zs)=true:=by
 rw [mh]
 induction zs with
 | nil=>decide +kernel
 | cons z r ih=>exact mO (h z List.mem_cons_self) (ih fun y hy=>h y (List.mem_cons_of_mem _ hy))
theorem zY (K:W.Frag) (A:Adr):Ln (cJ K A) 2:=by rintro vs H Q E ⟨a,ns,k,rfl,_⟩;rfl
theorem Fj (T:Txt K mg A):Rd (cJ K A) (Hc K A) ["_law_script", "_law_k"]:=by
 intro vs H Q E h
 obtain ⟨a,ns,k,rfl,hs,h0,q⟩:=h
 refine .inl (.inl ⟨_,hs,Sel.dec (fun h=>?_) (fun h=>q 0)⟩)
 obtain ⟨v,hv⟩:=tW h0 h
 obtain ⟨j,_,hj,_⟩:=ia hv
 obtain ⟨z,_,rfl⟩:=jV hj
 exact .inl (.inl ⟨a,_,k,_,rfl,rfl,hs,hv,q z⟩)
theorem Ao (K:W.Frag) (A:Adr):Ln (om K A) 1:=by rintro vs H Q E ⟨i,rfl,_⟩;rfl
theorem DJ (T:Txt K mg A):Rd (om K A) (GO K A) ["_law_cell", "_law_some"]:=by
 intro vs H Q E h
 obtain ⟨c,rfl,q⟩:=h
 obtain ⟨g1,g2,g3⟩:=AH
 refine ⟨ax Gk,?_⟩
 show Ce K A _ [some (.int c),some (.str (sg1++sg2))] H
 refine ⟨rfl,by decide,c%5,rfl,by omega,by omega,fun D hD=>?_⟩
 refine eQ (dQ.range (lo:=0) (n:=(c%5).toNat)) (fun i ys H2=>∃ zs:List Str,ys=zs.map V.str∧zs.length=i∧(∀ z∈zs,z.length=1∧cg z=true)∧H2=upd H D (.lst ys)) (fun _ _ _ _ _=>trivial) ⟨[],rfl,rfl,(fun _ h=>nomatch h),rfl⟩ (fun i ys H2 hi ⟨zs,e1,e2,e3,e4⟩=>?_) ?_
 · subst e4
   refine iB ⟨⟨by decide,by decide⟩,⟨by decide,by decide⟩,by decide,IL (by omega) (by omega),by decide,?_⟩
   generalize (c/5+_:Int)=w
   obtain ⟨cc,hcc⟩:=tW (xs:=(sg1++sg2).cps.toList) (i:=w%94) (by omega) (by rw [g2];omega)
   refine .inl (.inr (.inr ⟨_,_,cc,rfl,rfl,by rw [g1];exact ax (by decide),hcc,?_⟩))
   have hyl:ys.length=i:=by rw [e1,List.length_map,e2]
   refine ⟨ai,by rw [hyl];exact bR (by omega),CWd.next hi ⟨zs++[⟨#[cc]⟩],by rw [e1,List.map_append];rfl,by rw [List.length_append,e2];rfl,fun z hz=>?_,eR⟩⟩
   rcases List.mem_append.mp hz with h | h
   · exact e3 z h
   · rw [List.mem_singleton.mp h]
     refine ⟨rfl,?_⟩
     obtain ⟨j,_,hj,_⟩:=ia hcc
     have:=of_decide_eq_true (List.all_eq_true.mp g3 cc (List.mem_of_getElem? hj))
     unfold cg
     simp
     omega
 · rintro ys H2 ⟨zs,rfl,e2,e3,rfl⟩
   have hl:(Txt.join "" zs).length=zs.length:=xu zs fun z hz=>(e3 z hz).1
   refine ⟨_,_,zs,rfl,rfl,ai,?_,q _ _ (ao.upd hD) (by rw [hl];omega) (vT fun z hz=>(e3 z hz).2)⟩
   have e0:(("" :String):Str).length=0:=by decide
   rw [e0,kE zs fun z hz=>(e3 z hz).1]
   omega
theorem Ds (K:W.Frag) (A:Adr):Ln (gD K A) 1:=by rintro vs H Q E ⟨i,rfl,_⟩;rfl
theorem Ex (T:Txt K mg A):Rd (gD K A) (Hq K A) ["_law_cell"]:=by
 intro vs H Q E h
 obtain ⟨c,rfl,q⟩:=h
 have p60:(7:Int)<10^60:=by decide +kernel
 have num:∀ i:Int,0≤i→i<10^60→Q (.int i) H:=fun i h0 h1=>q (.inl i) H (.refl _) ⟨decide_eq_true ⟨h0,h1⟩,show 62≤70 by decide⟩
 refine ⟨by decide,Sel.dec (fun h=>?_) (fun h=>?_)⟩
 · refine ⟨by decide,_,rfl,fun z H' S hz ha=>q (.inr z) H' S ⟨?_,?_⟩⟩
   · show (cg z&&decide (z.length≤100000))=true
     rw [ha,decide_eq_true (by omega)];rfl
   · show z.length+62≤70
     omega
 refine ⟨by decide,Sel.dec (fun h=>?_) (fun h=>?_)⟩
 · refine ⟨by decide,⟨by decide,by decide,by decide⟩,by decide +kernel,?_⟩
   have p:(0:Int)<10^60:=by decide +kernel
   exact num (c/4%10^60) (Int.emod_nonneg _ (Int.ne_of_gt p)) (Int.emod_lt_of_pos _ p)
 · exact ⟨by decide,by decide,num (c/4%7) (by omega) (by omega)⟩
theorem jK {K:W.Frag} {H:Hp} {Q:VK} {L:Addr} {qs:List V} {p:V} (hL:H L=some (.lst (qs++[p]))) (q:Q p H):aI K (.ref L) (.int (-1)) H Q:=
 .inl (.inl ⟨L,_,-1,p,rfl,rfl,SqL.of hL,pe _ _,q⟩)
theorem jt {w:Str} {r:List Key} (hw:okP (.inr w)=true) (hr:∀ x∈r,okP x=true) (hl:r.length≤7):okT (.inr w::r)=true:=by
 show (decide (1≤r.length+1∧r.length+1≤8)&&true&&(okP (.inr w)&&r.all okP))=true
 rw [hw,List.all_eq_true.mpr hr,decide_eq_true (by omega)];rfl
theorem fj {k:List Key} {v:Key} (h:rK k v):szK v≤szT k+62:=by
 cases v with
 | inl i=>exact Nat.le_add_left _ _
 | inr z=>exact Nat.add_le_add_right h.2 _
theorem dE {k : List Key} {v : Key} (h : rK k v) (hs : szT k ≤ 100000) : okP v = true := by
  cases v with
  | inl i => exact decide_eq_true h
  | inr z =>
    show (cg z && decide (z.length ≤ 100000)) = true
    rw [h.1, decide_eq_true (Nat.le_trans h.2 hs)]; rfl
theorem ln:∀ {a b:Key},kV a=kV b→a=b
 | .inl _,.inl _,h=>by cases h;rfl
 | .inr _,.inr _,h=>by cases h;rfl
theorem okW:okP (.inr "void")=true∧okP (.inr "entry")=true∧okP (.inr "joint")=true∧okP (.inr "row")=true:=by decide +kernel
theorem szW:szK (.inr "void")=66∧szK (.inr "entry")=67∧szK (.inr "joint")=67∧szK (.inr "row")=65:=by decide +kernel
theorem sz1 (x:Key):szT [x]=szK x:=by simp [szT]
theorem sz2 (x y:Key):szT [x,y]=szK x+szK y:=by simp [szT]
theorem sz3 (x y z:Key):szT [x,y,z]=szK x+(szK y+szK z):=by simp [szT]
theorem uh {e:Key} (h:okP e=true):okT [.inr "entry",e]=true:=jt okW.2.1 (fun x hx=>by rw [List.mem_singleton.mp hx];exact h) (show 1≤7 by decide)
theorem gI {x y:Key} (hx:okP x=true) (hy:okP y=true):okT [.inr "joint",x,y]=true:=jt okW.2.2.1 (fun z hz=>by
 rcases List.mem_cons.mp hz with h | h
 · rw [h];exact hx
 · rw [List.mem_singleton.mp h];exact hy) (show 2≤7 by decide)
theorem yL {k:Nat} (h1:1≤k) (h2:k≤59):(2:Int)≤2^k∧(2:Int)^k≤2^59:=by
 have a:(2:Nat)^1≤2^k:=Nat.pow_le_pow_right (by decide) h1
 have b:(2:Nat)^k≤2^59:=Nat.pow_le_pow_right (by decide) h2
 rw [← xJ k];omega
theorem gz {m:Nat} (h:2≤m):aE m<m:=by
 have:=Nat.log2_self_le (n:=m - 1) (by omega)
 unfold aE;omega
theorem gt {m:Nat} (h:2≤m):m≤2*aE m:=by
 have:=Nat.lt_log2_self (n:=m - 1)
 unfold aE;rw [Nat.pow_succ] at this;omega
theorem nC {m e:Nat} (h:2≤m) (he:m≤2^e):∃ k,aE m=2^k∧k<e:=by
 refine ⟨Nat.log2 (m - 1),rfl,?_⟩
 have h1:=Nat.log2_self_le (n:=m - 1) (by omega)
 exact (Nat.pow_lt_pow_iff_right (by decide:1<2)).mp (by omega:2^Nat.log2 (m - 1)<2^e)
theorem fA {m e:Nat} (h:2≤m) (he:m≤2^(e+1)):aE m≤2^e:=by
 obtain ⟨k,e1,hk⟩:=nC h he
 rw [e1];exact Nat.pow_le_pow_right (by decide) (by omega)
theorem Bf (K:W.Frag) (A:Adr):Ln (ki K A) 1:=by rintro vs H Q E ⟨m,rfl,_⟩;rfl
theorem FV (T:Txt K mg A) (vs:List V) (H:Hp) (Q:VK) (E:XK) (h:ki K A vs H Q E):Ho K A { nx:=fun _ H'=>Q .non H',rt:=Q } (start ["many"] vs) H:=by
 obtain ⟨m,rfl,h2,h60,q⟩:=h
 obtain ⟨k,ek,hk⟩:=nC h2 h60
 have e:(Builtin.Int.intBits ((m:Int) - 1):Int) - 1=((Nat.log2 (m - 1):Nat):Int):=by
  unfold Builtin.Int.intBits
  rw [if_neg (by simp;omega)]
  have:((m:Int) - 1).natAbs=m - 1:=by omega
  rw [this];omega
 have hl:Nat.log2 (m - 1)<60:=by
  have h1:=Nat.log2_self_le (n:=m - 1) (by omega)
  exact (Nat.pow_lt_pow_iff_right (by decide:1<2)).mp (by omega:2^Nat.log2 (m - 1)<2^60)
 refine ⟨rfl,?_⟩
 show ((0≤(Builtin.Int.intBits ((m:Int) - 1):Int) - 1∧_∧_)∧Q (.int (1*2^((Builtin.Int.intBits ((m:Int) - 1):Int) - 1).toNat)) H)
 rw [e]
 refine ⟨⟨by omega,by omega,by decide⟩,?_⟩
 rw [Int.one_mul,Int.toNat_natCast,←xJ]
 exact q
theorem CU (K:W.Frag) (A:Adr):Ln (lW K A) 3:=by rintro vs H Q E ⟨t,o,a,rfl,_⟩;rfl
theorem DK (T:Txt K mg A):Rd (lW K A) (Hh K A) ["turn", "own", "aside"]:=by
 intro vs H Q E h
 obtain ⟨t,o,a,rfl,q⟩:=h
 unfold jtT at q
 refine Sel.dec (fun h=>⟨ax (show 3≤1000000 by decide),fun p hp=>?_⟩) (fun h=>⟨ax (show 3≤1000000 by decide),fun p hp=>?_⟩)
 · rw [if_pos h] at q;exact q p hp
 · rw [if_neg h] at q;exact q p hp
end Rs
namespace Rs
open PySem PySem.Spec PyProof.Rows L2
variable {K:W.Frag} {mg:Str→Option Value} {A:Adr}
theorem Fd (K:W.Frag) (A:Adr):Ln (tz K A) 2:=by rintro vs H Q E ⟨x,dx,f,rfl,_⟩;rfl
theorem GU (T:Txt K mg A):Rd (tz K A) (T_3 K A) ["self", "stamper"]:=by
 intro vs H Q E h
 obtain ⟨x,dx,f,rfl,hx,q⟩:=h
 refine ⟨x,A.c_Row,dx,[],rfl,hx,T.cl_Row,T.na_Row_stamper,by decide,Nat.zero_le _,fun L hL=>?_⟩
 obtain ⟨Lx,hL⟩:=bJ hL
 refine ⟨x,A.c_Row,dx,_,rfl,by rw [aq (Ne.symm Lx)];exact ai,T.cl_Row,T.na_Row_entries,by show 1<1000;decide,.inr fun D hD=>?_⟩
 obtain ⟨Dx,hD⟩:=bJ hD
 obtain ⟨DL,hD⟩:=bJ hD
 obtain ⟨_,hD⟩:=bJ hD
 refine ⟨x,A.c_Row,dx,_,rfl,by rw [aq (Ne.symm Dx)];exact ai,T.cl_Row,T.na_Row_tops,by show 2<1000;decide,q L D _ (fun z o zx e=>?_) hL hD (Ne.symm DL) ai ?_ ?_⟩
 · rw [aq zx,aq (ay e hD),aq zx,aq (ay e hL),aq zx];exact e
 · rw [aq Lx,aq (Ne.symm DL),aq Lx];exact ai
 · rw [aq Dx];exact ai
theorem Gr (K:W.Frag) (A:Adr):Ln (pZ K A) 2:=by rintro vs H Q E ⟨x,f,L,D,es,kvs,e,rfl,_⟩;rfl
theorem IH (T:Txt K mg A):Rd (pZ K A) (T_4 K A) ["self", "entry"]:=by
 intro vs H Q E h
 obtain ⟨x,f,L,D,es,kvs,e,rfl,r,en,le,q⟩:=h
 obtain ⟨dx,hx⟩:=r.ob
 have q:Q (.int (es.length:Int)) (upd H L (.lst (es.map kV++[kV e]))):=by
   rw [List.map_append] at q;exact q
 refine ⟨_,_,rfl,cO e,Sel.no (by rw [jx en.1];rfl) ⟨x,A.c_Row,dx,_,.ref L,rfl,hx,T.cl_Row,T.na_Row_entries,rfl,.inl ⟨rfl,_,SqL.of r.hl⟩,L,_,_,rfl,rfl,r.hl,?_,?_⟩⟩
 · rw [List.length_map];exact Nat.lt_of_lt_of_le le (ax (by decide))
 · have hL:x≠L:=bH hx r.hl (fun z=>nomatch z)
   refine ⟨x,A.c_Row,dx,_,.ref L,rfl,by rw [aq hL];exact hx,T.cl_Row,T.na_Row_entries,rfl,.inl (.inl ⟨_,SqL.of ai,?_⟩)⟩
   have e:(((es.map kV++[kV e]).length:Nat):Int) - 1=(es.length:Int):=by simp
   show Q (.int ((((es.map kV++[kV _]).length:Nat):Int) - 1)) _
   rw [e];exact q
theorem Fk (K:W.Frag) (A:Adr):Ln (kH K A) 1:=by rintro vs H Q E ⟨x,f,L,D,es,kvs,rfl,_⟩;rfl
theorem Hk (T:Txt K mg A):Rd (kH K A) (T_9 K A) ["self"]:=by
 intro vs H Q E h
 obtain ⟨x,f,L,D,es,kvs,rfl,r,q⟩:=h
 obtain ⟨dx,hx⟩:=r.ob
 refine ⟨x,A.c_Row,dx,_,.ref L,rfl,hx,T.cl_Row,T.na_Row_entries,rfl,.inl (.inl ⟨_,SqL.of r.hl,?_⟩)⟩
 rw [List.length_map];exact q
end Rs
namespace Rs
open PySem PySem.Spec PyProof.Rows L2
theorem yN (kvs : List (List Key × Key)) (k : List Key) (v : Key) : ∃ kvs', bz kvs' = bW (bz kvs) k (kV v) ∧ kvs'.length ≤ kvs.length + 1 ∧ ∀ j, ci kvs' j = if j = k then some v else ci kvs j := by
  have fin : ∀ kvs' : List (List Key × Key), bz kvs' = bW (bz kvs) k (kV v) → ∀ j, ci kvs' j = if j = k then some v else ci kvs j := by
    intro kvs' e j
    have h := ib kvs' j
    rw [e, kR, ib] at h
    by_cases hj : j = k
    · rw [if_pos hj] at h ⊢
      cases g : ci kvs' j with
      | none => rw [g] at h; cases h
      | some w => rw [g] at h; rw [ln (Option.some.inj h)]
    · rw [if_neg hj] at h ⊢
      cases g : ci kvs' j with
      | none =>
        rw [g] at h
        cases g2 : ci kvs j with
        | none => rfl
        | some w => rw [g2] at h; cases h
      | some w =>
        rw [g] at h
        cases g2 : ci kvs j with
        | none => rw [g2] at h; cases h
        | some u => rw [g2] at h; rw [ln (Option.some.inj h)]
  by_cases c : ((bz kvs).any fun kv => decide (kv.1 = k)) = true
  · have e : bz (kvs.map fun kv => if kv.1 = k then (kv.1, v) else kv) = bW (bz kvs) k (kV v) := by
      unfold bW
      rw [if_pos c]
      unfold bz
      rw [List.map_map, List.map_map]
      apply List.map_congr_left
      intro p _
      show ((if p.1 = k then (p.1, v) else p).1, kV (if p.1 = k then (p.1, v) else p).2) = if p.1 = k then (p.1, kV v) else (p.1, kV p.2)
      by_cases h : p.1 = k
      · rw [if_pos h, if_pos h]
      · rw [if_neg h, if_neg h]
    exact ⟨_, e, by rw [List.length_map]; omega, fin _ e⟩
  · have e : bz (kvs ++ [(k, v)]) = bW (bz kvs) k (kV v) := by
      unfold bW
      rw [if_neg c]
      unfold bz
      rw [List.map_append]; rfl
    exact ⟨_, e, by simp, fin _ e⟩
theorem jU.mono {g g':List Key→Option Key} {es:List Key} {kvs:List (List Key×Key)} (c:jU g es kvs) (s:Sub g g'):jU g' es kvs:=fun k v e=>by
 obtain ⟨a,m,h1,h2,h3,h4,h5⟩:=c k v e
 exact ⟨a,m,h1,h2,h3,h4,fun h x=>h5 h (Ext.of s x)⟩
theorem gx:okT [.inr "void"]=true:=jt okW.1 (fun _ h=>nomatch h) (by decide)
variable {K:W.Frag} {mg:Str→Option Value} {A:Adr}
theorem Stp.bb {H:Hp} {f b:Addr} {g:List Key→Option Key} {n:Nat} (s:Stp A H f b g n):(∃ φ,H b=some (.ext φ))∨∃ kvs,H b=some (.dT kvs):=by
 cases s with
 | wri hc hb hg=>obtain ⟨c,h,_⟩:=hc.ex;rw [hb];exact .inl ⟨_,h⟩
 | cnt q x kvs hc num hl hs hg=>exact .inr ⟨_,num.di⟩
 | sur q0 q1 j h0 h1 kvs hc hb hl hs hg=>exact .inr ⟨_,hb⟩
 | wea q m h1 h2 hc hb hg=>obtain ⟨c,h,_⟩:=hc.ex;rw [hb];exact .inl ⟨_,h⟩
theorem Stp.nb {H:Hp} {f b z:Addr} {g:List Key→Option Key} {n:Nat} {o:HO} (s:Stp A H f b g n) (h:H z=some o) (h1:∀ φ,o≠ .ext φ) (h2:∀ kvs,o≠ .dT kvs):z≠b:=by
 rcases s.bb with ⟨φ,e⟩ | ⟨kvs,e⟩
 · exact bH h e (h1 φ)
 · exact bH h e (h2 kvs)
theorem iK.same {H H':Hp} {x f L D:Addr} {es:List Key} {kvs:List (List Key×Key)} (r:iK A H x f L D es kvs) (S:ao H H'):iK A H' x f L D es kvs:=by
 obtain ⟨dx,hx⟩:=r.ob
 exact ⟨⟨dx,S _ _ hx⟩,S _ _ r.hl,S _ _ r.hd,r.en,r.le⟩
section
variable {H H':Hp} {x f L D b:Addr} {es:List Key} {kvs:List (List Key×Key)} {g g':List Key→Option Key} {n m:Nat}
theorem cw.same (r:cw A H x f L D b es kvs g n) (S:ao H H') (hn:n≤m):cw A H' x f L D b es kvs g m:=⟨r.r.same S,r.s.same hn S,r.c,r.db,Nat.le_trans r.kl hn⟩
theorem cw.call (r:cw A H x f L D b es kvs g n) (kb:aG b H H') (s:Stp A H' f b g' m) (sub:Sub g g') (hn:n≤m):cw A H' x f L D b es kvs g' m:=by
 obtain ⟨dx,hx⟩:=r.r.ob
 exact ⟨⟨⟨dx,kb _ _ (r.s.nb hx (fun _ z=>nomatch z) (fun _ z=>nomatch z)) hx⟩,kb _ _ (r.s.nb r.r.hl (fun _ z=>nomatch z) (fun _ z=>nomatch z)) r.r.hl,kb _ _ r.db r.r.hd,r.r.en,r.r.le⟩,s,r.c.mono sub,r.db,Nat.le_trans r.kl hn⟩
theorem cw.n2 (r:cw A H x f L D b es kvs g n) {z:Addr} {o:HO} (h:H z=some o) (h1:∀ φ,o≠ .ext φ) (h2:∀ kvs,o≠ .dT kvs):z≠b∧z≠D:=⟨r.s.nb h h1 h2,bH h r.r.hd (h2 _)⟩
theorem bC.trans {H1 H2:Hp} (a:bC b D H H1) (c:bC b D H1 H2):bC b D H H2:=fun x o n n' e=>c x o n n' (a x o n n' e)
theorem bC.same (S:ao H H'):bC b D H H':=fun x o _ _ e=>S x o e
theorem bC.kb (k:aG b H H'):bC b D H H':=fun x o n _ e=>k x o n e
end
theorem Bk (K:W.Frag) (A:Adr) (n:Nat):Ln (oA K A n) 3:=by rintro vs H Q E ⟨x,f,L,D,b,es,kvs,g,n,a,m,rfl,_⟩;rfl
theorem DS (T:Txt K mg A) (n:Nat) (vs:List V) (H:Hp) (Q:VK) (E:XK) (h:oA K A n vs H Q E):Hv K A n { nx:=fun _ H'=>Q .non H',rt:=Q } (L2.start ["self", "first", "many", "ahead"] vs) H:=by
 obtain ⟨x,f,L,D,b,es,kvs,g,N,a,m,rfl,r,ham,hm,hN,q⟩:=h
 obtain ⟨dx,hx⟩:=r.r.ob
 have l60:=r.r.le
 refine Sel.dec (fun h=>?_) (fun h=>?_)
 · obtain rfl:m=0:=by omega
   refine ⟨ax (show 1≤1000000 by decide),fun p hp=>q p [.inr "void"] kvs g _ (bC.same (ao.upd hp)) (r.same (ao.upd hp) (Nat.le_refl _)) Sub.rfl' ai gx (by rw [sz1,szW.1];decide) fun h _=>?_⟩
   rw [List.take_zero];rfl
 refine Sel.dec (fun h=>?_) (fun h=>?_)
 · obtain rfl:m=1:=by omega
   obtain ⟨e,he⟩:∃ e,es[a]?=some e:=⟨_,List.getElem?_eq_getElem (by omega)⟩
   have en:=r.r.en e (List.mem_of_getElem? he)
   refine ⟨x,A.c_Row,dx,_,.ref L,rfl,hx,T.cl_Row,T.na_Row_entries,rfl,ixL r.r.hl rfl (by rw [List.getElem?_map,he];rfl) ⟨ax (show 2≤1000000 by decide),fun p hp=>q p [.inr "entry",e] kvs g _ (bC.same (ao.upd hp)) (r.same (ao.upd hp) (Nat.le_refl _)) Sub.rfl' ai (uh en.1) ?_ fun h _=>?_⟩⟩
   · have:=en.2
     rw [sz2,szW.2.1];show _≤200;omega
   · have e1:(es.drop a).take 1=[e]:=by rw [List.take_one,List.head?_drop,he];rfl
     rw [e1];rfl
 · have h2:2≤m:=by omega
   obtain ⟨g1,g2⟩:=jN h2
   refine ⟨m,rfl,h2,by omega,x,dx,_,rfl,hx,rfl,x,f,L,D,b,es,kvs,g,N,a,aE m,rfl,r,by omega,by omega,by omega,fun v1 kvs1 g1' H1 k1 r1 s1 ok1 sz1' e1=>?_⟩
   obtain ⟨dx1,hx1⟩:=r1.r.ob
   refine ⟨x,dx1,_,rfl,hx1,rfl,x,f,L,D,b,es,kvs1,g1',_,a+aE m,m - aE m,?_,r1,by omega,by omega,by omega,fun v2 kvs2 g2' H2 k2 r2 s2 ok2 sz2' e2=>?_⟩
   · rw [Int.natCast_add,Int.ofNat_sub (by omega)]
   · refine ⟨ax (show 3≤1000000 by decide),fun p hp=>q p [.inr "joint",v1,v2] kvs2 g2' _ ((k1.trans k2).trans (bC.same (ao.upd hp))) (r2.same (ao.upd hp) (by omega)) (s1.trans s2) ai (gI ok1 ok2) ?_ fun h eh=>?_⟩
     · rw [sz3,szW.2.2.1]
       unfold szB at sz1' sz2' ⊢
       omega
     · have hl:((es.drop a).take m).length=m:=by rw [List.length_take,List.length_drop];omega
       rw [tZ h (by rw [hl];exact h2),hl,e1 h (Ext.of s2 eh),e2 h eh,List.take_take,Nat.min_eq_left (by omega),List.drop_take,List.drop_drop]
theorem Dy (K:W.Frag) (A:Adr) (n:Nat):Ln (dO K A n) 3:=by rintro vs H Q E ⟨x,f,L,D,b,es,kvs,g,n,a,m,rfl,_⟩;rfl
theorem xE (K:W.Frag) (A:Adr):∀ vs H Q E,dO K A 0 vs H Q E→False:=by rintro vs H Q E ⟨x,f,L,D,b,es,kvs,g,n,a,m,_,_,_,h,_⟩;omega
theorem Gq (T : Txt K mg A) (n : Nat) : Rd (dO K A (n + 1)) (Hy K A n) ["self", "first", "many", "part"] := by
  intro vs H Q E h
  obtain ⟨x, f, L, D, b, es, kvs, g, N, a, m, rfl, r, ham, hm, hN, q⟩ := h
  have l60 := r.r.le
  refine ⟨ax (show 2 ≤ 1000000 by decide), fun p hp => ?_⟩
  have S1 : ao H (upd H p (.tup [.int (a : Int), .int (m : Int)])) := ao.upd hp
  have r1 := r.same S1 (Nat.le_refl _)
  have hp1 : upd H p (.tup [.int (a : Int), .int (m : Int)]) p = some (.tup (([.inl (a : Int), .inl (m : Int)] : List Key).map kV)) := ai
  generalize upd H p (.tup [.int (a : Int), .int (m : Int)]) = H1 at S1 r1 hp1
  obtain ⟨dx, hx1⟩ := r1.r.ob
  have g1 := fb.t r1.r.hd hp1
  rw [ib] at g1
  refine ⟨x, A.c_Row, dx, _, .ref D, rfl, hx1, T.cl_Row, T.na_Row_tops, rfl, .inl ⟨D, _, rfl, g1, ?_⟩⟩
  cases e : ci kvs [.inl (a : Int), .inl (m : Int)] with
  | some v =>
    rw [e] at g1
    refine Sel.no rfl ⟨x, A.c_Row, dx, _, .ref D, rfl, hx1, T.cl_Row, T.na_Row_tops, rfl, .inr ⟨D, _, rfl, g1, ?_⟩⟩
    obtain ⟨a', m', h1, h2, h3, h4, h5⟩ := r.c _ _ e
    have ea : a = a' := by have := Sum.inl.inj (List.cons.inj h1).1; omega
    have em : m = m' := by have := Sum.inl.inj (List.cons.inj (List.cons.inj h1).2).1; omega
    subst ea em
    exact q v kvs g H1 (bC.same S1) (r1.same ao.rfl' (by omega)) Sub.rfl' h3 h4 h5
  | none =>
    refine Sel.yes rfl ⟨x, dx, _, f, rfl, hx1, rfl, r1.s.clo, x, dx, _, rfl, hx1, rfl, x, f, L, D, b, es, kvs, g, N, a, m, rfl, r1, ham, by omega, hN, fun p2 k kvs2 g2 H2 k2 r2 s2 hp2 okk szk ek => ?_⟩
    dsimp only [af]
    refine dn r2.s (by omega) hp2 okk fun v H3 g3 kb s3 sub3 gv st => ?_
    have r3 := r2.call kb s3 sub3 (Nat.le_succ _)
    obtain ⟨np, np'⟩ := r1.n2 hp1 (fun _ z => nomatch z) (fun _ z => nomatch z)
    have hp3 := kb _ _ np (k2 _ _ np np' hp1)
    obtain ⟨dx3, hx3⟩ := r3.r.ob
    obtain ⟨kvs4, e4, l4, f4⟩ := yN kvs2 [.inl (a : Int), .inl (m : Int)] v
    have kl := r2.kl
    have ll : (bz kvs2).length = kvs2.length := by simp [bz]
    refine ⟨x, A.c_Row, dx3, _, .ref D, rfl, hx3, T.cl_Row, T.na_Row_tops, rfl, .inr ⟨D, _, rfl, .inr ⟨_, [.inl (a : Int), .inl (m : Int)], p, r3.r.hd, rfl, hp3, Nat.lt_of_le_of_lt (m := 50000) (by omega) (ax (n := 50001) (by decide)), rfl⟩, ?_⟩⟩
    have xD : x ≠ D := bH hx3 r3.r.hd (fun z => nomatch z)
    have LD : L ≠ D := bH r3.r.hl r3.r.hd (fun z => nomatch z)
    have pD : p ≠ D := np'
    have szv : szK v ≤ szB m := Nat.le_trans (fj st) szk
    have okv : okP v = true := dE st (by unfold szB at szk; omega)
    have ev : ∀ h, Ext g3 h → v = h (fS h ((es.drop a).take m)) := fun h eh => by rw [← ek h (Ext.of sub3 eh)]; exact (eh _ _ gv).symm
    have gg := fb.t (H := upd H3 D (.dT (bW (bz kvs2) [.inl (a : Int), .inl (m : Int)] (kV v)))) (kvs := bW (bz kvs2) [.inl (a : Int), .inl (m : Int)] (kV v)) (k := [.inl (a : Int), .inl (m : Int)]) ai (by rw [aq pD]; exact hp3)
    rw [kR, if_pos rfl] at gg
    refine ⟨x, A.c_Row, dx3, _, .ref D, rfl, by rw [aq xD]; exact hx3, T.cl_Row, T.na_Row_tops, rfl, .inr ⟨D, _, rfl, gg, ?_⟩⟩
    have K4 : bC b D H3 (upd H3 D (.dT (bW (bz kvs2) [.inl (a : Int), .inl (m : Int)] (kV v)))) := fun z o _ n e => by rw [aq n]; exact e
    refine q v kvs4 g3 _ ((((bC.same S1).trans k2).trans (bC.kb kb)).trans K4) ⟨⟨⟨dx3, by rw [aq xD]; exact hx3⟩, by rw [aq LD]; exact r3.r.hl, by rw [e4]; exact ai, r3.r.en, r3.r.le⟩, ?_, ?_, r3.db, by omega⟩ (s2.trans sub3) okv szv ev
    · refine r3.s.keep (by omega) fun z o e _ _ hz => ?_
      have : z ≠ D := by
        rcases hz with h | h
        · rw [h]; exact Ne.symm r3.db
        · exact bH e r3.r.hd (h _)
      rw [aq this]; exact e
    · intro k' v' e'
      rw [f4] at e'
      by_cases hk : k' = [.inl (a : Int), .inl (m : Int)]
      · rw [if_pos hk] at e'
        obtain rfl := Option.some.inj e'
        exact ⟨a, m, hk, ham, okv, szv, ev⟩
      · rw [if_neg hk] at e'
        exact r3.c _ _ e'
end Rs
namespace Rs
open PySem PySem.Spec PyProof.Rows L2
theorem Ext.refl' (g:List Key→Option Key):Ext g (fun k=>(g k).getD (.inl 0)):=fun k v e=>by show (g k).getD _=v;rw [e];rfl
theorem okC {c:Nat} (h:c<2^60):okP (.inl (c:Int))=true:=by
 have p60:(2:Int)^60<10^60:=by decide +kernel
 have k:∀ i:Int,0≤i→i<10^60→okP (.inl i)=true:=fun i h0 h1=>decide_eq_true ⟨h0,h1⟩
 exact k _ (by omega) (by omega)
theorem yt {t:Int} {v a:Key} (hv:okP v=true) (ha:okP a=true):okT (jtT t v a)=true:=by
 unfold jtT;split
 · exact gI hv ha
 · exact gI ha hv
theorem yg {t:Int} {v a:Key}:szT (jtT t v a)=67+szK v+szK a:=by
 unfold jtT;split
 · rw [sz3,szW.2.2.1];omega
 · rw [sz3,szW.2.2.1];omega
theorem Bg {c : Nat} {st : List (Int × Key)} {i B : Nat} {v : Key} (hc : c < 2 ^ 60) (hm : ∀ x ∈ st, enK x.2) (ov : okP v = true) (sv : szK v ≤ B + 62) : okT (cK c st i v) = true ∧ szT (cK c st i v) ≤ B + 200 := by
  unfold cK
  cases e : st[i]? with
  | some x =>
    have hx := hm x (List.mem_of_getElem? e)
    exact ⟨yt ov hx.1, by rw [yg]; have := hx.2; omega⟩
  | none =>
    refine ⟨jt okW.2.2.2 (fun z hz => ?_) (show 2 ≤ 7 by decide), ?_⟩
    · rcases List.mem_cons.mp hz with rfl | hz
      · exact okC hc
      · rw [List.mem_singleton.mp hz]; exact ov
    · show szT [.inr "row", .inl (c : Int), v] ≤ _
      rw [sz3, szW.2.2.2]; show 65 + (62 + szK v) ≤ _; omega
theorem rj {ts:List Int} {ks:List Key} {x:Int×Key} (h:x∈stR ts ks):x.1∈ts∧x.2∈ks:=by
 unfold stR at h
 rw [List.mem_reverse] at h
 obtain ⟨a,b⟩:=x
 exact ⟨(List.of_mem_zip h).1,(List.of_mem_zip h).2⟩
variable {A:Adr}
end Rs
namespace Rs
open PySem PySem.Spec PyProof.Rows L2
variable {K:W.Frag} {mg:Str→Option Value} {A:Adr}
theorem PK.keep {H H':Hp} {ps:List Addr} {tt:List (List Key)} (h:PK H ps tt) (k:∀ x xs,H x=some (.tup xs)→H' x=some (.tup xs)):PK H' ps tt:=Paired.mapP h fun p t ⟨h1,h2⟩=>⟨k _ _ h1,h2⟩
theorem dX {α β:Type} {F:α→β→Prop}:∀ {l₁:List α} {l₂:List β} {a:α} {b:β},Paired F l₁ l₂→F a b→Paired F (l₁++[a]) (l₂++[b])
 | _,_,_,_,.nil,h=> .cons h .nil
 | _,_,_,_,.cons r t,h=> .cons r (dX t h)
theorem aG.tup {H H':Hp} {f b:Addr} {g:List Key→Option Key} {n:Nat} (s:Stp A H f b g n) (k:aG b H H'):∀ x xs,H x=some (.tup xs)→H' x=some (.tup xs):=fun x xs e=>k _ _ (s.nb e (fun _ z=>nomatch z) (fun _ z=>nomatch z)) e
theorem mC {H:Hp} {p:Addr} {t:List Key}:∀ {ps:List Addr} {tt:List (List Key)},ps.length=tt.length→PK H (ps++[p]) (tt++[t])→H p=some (.tup (t.map kV))∧okT t=true
 | [],[],_,.cons h _=>h
 | _::_,_::_,hl,.cons _ r=>mC (Nat.succ.inj hl) r
 | [],_::_,hl,_=>nomatch hl
 | _::_,[],hl,_=>nomatch hl
theorem qL {H:Hp} {p:Addr} {t:List Key} {ps:List Addr} {tt:List (List Key)} (h:PK H (ps++[p]) (tt++[t])):ps.length=tt.length:=by
 have:=ix h
 simp at this;exact this
theorem LadQ.last {tt:List (List Key)} {m:Nat} (h:tt.length=m+1):∃ r t,tt=r++[t]:=by
 cases e:tt.reverse with
 | nil=>have:=congrArg List.length e;rw [List.length_reverse,h] at this;simp at this
 | cons x r=>exact ⟨r.reverse,x,by rw [← List.reverse_reverse tt,e,List.reverse_cons]⟩
theorem oS {H : Hp} {ps : List Addr} {r : List (List Key)} {t : List Key} (h : PK H ps (r ++ [t])) : ∃ qs p, ps = qs ++ [p] ∧ PK H (qs ++ [p]) (r ++ [t]) := by
  have hl := ix h
  cases e : ps.reverse with
  | nil => have := congrArg List.length e; rw [List.length_reverse, hl] at this; simp at this
  | cons x q =>
    have e2 : ps = q.reverse ++ [x] := by rw [← List.reverse_reverse ps, e, List.reverse_cons]
    exact ⟨_, _, e2, by rw [← e2]; exact h⟩
theorem Gn (K:W.Frag) (A:Adr):Ln (sA K A) 3:=by rintro vs H Q E ⟨a,x,y,rfl,_⟩;rfl
theorem Hs (T:Txt K mg A):Rd (sA K A) (T_0 K A) ["self", "due", "came"]:=by
 intro vs H Q E h
 obtain ⟨a,x,y,rfl,ha,q⟩:=h
 refine ⟨a,rfl,T.ef_Broken_due,.inl ⟨ha,fun dx hdx ne=>?_⟩⟩
 refine ⟨a,rfl,T.ef_Broken_came,.inr ⟨dx,_,by rw [aq (Ne.symm ne)];exact ai,ai,ne,by show 1<1000;decide,?_⟩⟩
 exact q dx hdx
theorem jE {K:W.Frag} {H:Hp} {Q:VK} {a b:Key} (q:Q (.bl (!decide (a=b))) H):gl K (kV a) (kV b) H Q:=by
 cases a <;> cases b
 · rename_i i j
   have e:decide ((Sum.inl i:Key)=Sum.inl j)=decide (i=j):=by simp
   rw [e] at q;exact q
 · have e:∀ (i:Int) (j:Str),decide ((Sum.inl i:Key)=Sum.inr j)=false:=by simp
   rw [e] at q;exact q
 · have e:∀ (i:Int) (j:Str),decide ((Sum.inr j:Key)=Sum.inl i)=false:=by simp
   rw [e] at q;exact q
 · rename_i i j
   have e:decide ((Sum.inr i:Key)=Sum.inr j)=decide (i=j):=by simp
   rw [e] at q;exact q
theorem mQ (xs:List V) (j:Nat) (hj:j≤xs.length):eF xs none (some (j:Int))=xs.take j:=by
 unfold eF
 rw [HT.qZ,HT.kB,List.drop_zero,Nat.sub_zero,Nat.min_eq_left hj]
theorem kC (xs:List V) (j:Nat) (hj:j≤xs.length):eF xs (some (j:Int)) none=xs.drop j:=by
 unfold eF
 rw [HT.qZ,HT.kB,Nat.min_eq_left hj,List.take_of_length_le (by rw [List.length_drop];omega)]
theorem aG.obj {H H':Hp} {b x:Addr} {o:HO} (k:aG b H H') (hb:(∃ φ,H b=some (.ext φ))∨∃ kvs,H b=some (.dT kvs)) (e:H x=some o) (h:∀ kvs,o≠ .dT kvs) (h2:∀ φ,o≠ .ext φ:=by intro _ z;cases z):H' x=some o:=k _ _ (fun z=>by
 subst z
 rcases hb with ⟨φ,hb⟩ | ⟨kvs,hb⟩
 · rw [e] at hb;exact h2 _ (Option.some.inj hb)
 · rw [e] at hb;exact h _ (Option.some.inj hb)) e
theorem Stp.setL {H:Hp} {f b P:Addr} {g:List Key→Option Key} {n:Nat} {xs ys:List V} (s:Stp A H f b g n) (hP:H P=some (.lst xs)):Stp A (upd H P (.lst ys)) f b g n:=s.keep (Nat.le_refl _) fun z o e h1 _ _=>by rw [aq (bH e hP (h1 _))];exact e
end Rs
namespace Rs
open PySem PySem.Spec PyProof.Rows L2
variable {K:W.Frag} {mg:Str→Option Value} {A:Adr}
theorem An (K:W.Frag) (A:Adr):Ln (lO K A) 1:=by rintro vs H Q E ⟨v,d,rfl,_⟩;rfl
theorem EG (T : Txt K mg A) : Rd (lO K A) (GN K A) ["thing"] := by
  intro vs H Q E h
  obtain ⟨v, d, rfl, w, q⟩ := h
  refine ⟨_, d, rfl, w, ?_⟩
  cases w with
  | int i =>
    refine Sel.yes rfl (Sel.dec (fun h0 => ⟨by decide, ?_⟩) (fun h0 => ?_))
    · show Q (.bl (decide (i < 1 * 2 ^ (60 : Int).toNat))) H
      have e : bv (.int i) = decide (i < 1 * 2 ^ (60 : Int).toNat) := by
        show decide (0 ≤ i ∧ i < 2 ^ 60) = decide (i < 1 * 2 ^ 60)
        by_cases h1 : i < 2 ^ 60
        · rw [decide_eq_true ⟨h0, h1⟩, decide_eq_true (by omega)]
        · rw [decide_eq_false fun z => h1 z.2, decide_eq_false (by omega)]
      rw [← e]; exact q
    · have e : bv (.int i) = false := decide_eq_false fun z => h0 z.1
      rw [← e]; exact q
  | non => exact Sel.no rfl q
  | bl b => exact Sel.no rfl q
  | str z => exact Sel.no rfl q
  | lst e r => exact Sel.no rfl q
  | tup e r => exact Sel.no rfl q
  | dic e => exact Sel.no rfl q
theorem nD {d : Dat} (h : bv d = true) : ∃ c : Nat, d = .int (c : Int) ∧ c < 2 ^ 60 := by
  cases d with
  | int i =>
    obtain ⟨h0, h1⟩ : 0 ≤ i ∧ i < 2 ^ 60 := of_decide_eq_true h
    exact ⟨i.toNat, by rw [Int.toNat_of_nonneg h0], by omega⟩
  | non => cases h
  | bl b => cases h
  | str z => cases h
  | lst e => cases h
  | tup e => cases h
  | dic => cases h
theorem aJ.int_inv {H:Hp} {v:V} {i:Int} (w:aJ H v (.int i)):v=.int i:=by cases w;rfl
theorem Cb (K:W.Frag) (A:Adr):Ln (lq K A) 2:=by rintro vs H Q E ⟨v,d,w,e,rfl,_⟩;rfl
theorem Fb (T : Txt K mg A) : Rd (lq K A) (Iv K A) ["count", "elder"] := by
  intro vs H Q E h
  obtain ⟨v, d, w, e, rfl, hd, he, q⟩ := h
  refine ⟨v, d, rfl, hd, ?_⟩
  unfold aW at q
  cases hc : bv d with
  | false => rw [hc] at q; exact Sel.f q
  | true =>
    rw [hc] at q
    obtain ⟨c, rfl, c2⟩ := nD hc
    cases hd.int_inv
    refine Sel.t ⟨w, e, rfl, he, ?_⟩
    cases he with
    | int i =>
      refine Sel.yes rfl (Sel.dec (fun h0 => ?_) (fun h0 => ?_))
      · show Q (.bl (decide (i ≤ (c : Int)))) H
        have ee : decide (0 ≤ i ∧ i ≤ (c : Int)) = decide (i ≤ (c : Int)) := by
          by_cases h1 : i ≤ (c : Int)
          · rw [decide_eq_true ⟨h0, h1⟩, decide_eq_true h1]
          · rw [decide_eq_false fun z => h1 z.2, decide_eq_false h1]
        rw [← ee]; exact q
      · have ee : decide (0 ≤ i ∧ i ≤ (c : Int)) = false := decide_eq_false fun z => h0 z.1
        rw [← ee]; exact q
    | non => exact Sel.no rfl q
    | bl b => exact Sel.no rfl q
    | str z => exact Sel.no rfl q
    | lst e r => exact Sel.no rfl q
    | tup e r => exact Sel.no rfl q
    | dic e => exact Sel.no rfl q
theorem gF {d e : Dat} (h : aW d e = true) : ∃ c el : Nat, d = .int (c : Int) ∧ e = .int (el : Int) ∧ el ≤ c ∧ c < 2 ^ 60 := by
  unfold aW at h
  obtain ⟨h1, h2⟩ := Bool.and_eq_true_iff.mp h
  obtain ⟨h3, h4⟩ := Bool.and_eq_true_iff.mp h1
  obtain ⟨c, rfl, c2⟩ := nD h3
  cases e with
  | int i =>
    obtain ⟨a, b⟩ : 0 ≤ i ∧ i ≤ (c : Int) := of_decide_eq_true h2
    exact ⟨c, i.toNat, rfl, by rw [Int.toNat_of_nonneg a], by omega, c2⟩
  | non => cases h4
  | bl b => cases h4
  | str z => cases h4
  | lst e => cases h4
  | tup e => cases h4
  | dic => cases h4
theorem pI {i:Int} (h0:0≤i) (h1:i<2^60):bv (.int i)=true:=decide_eq_true ⟨h0,h1⟩
theorem jH {c e:Int} (h0:0≤e) (h1:e≤c) (h2:c<2^60):aW (.int c) (.int e)=true:=by
 unfold aW
 rw [pI (by omega) h2]
 show decide (0≤e∧e≤c)=true
 exact decide_eq_true ⟨h0,h1⟩
theorem cT {c el:Nat} (h1:el≤c) (h2:c<2^60):aW (.int (c:Int)) (.int (el:Int))=true:=jH (by omega) (by omega) (by omega)
theorem Bt (K:W.Frag) (A:Adr):Ln (oh K A) 1:=by rintro vs H Q E ⟨v,d,rfl,_⟩;rfl
theorem Ey (T : Txt K mg A) : Rd (oh K A) (HA K A) ["thing"] := by
  intro vs H Q E h
  obtain ⟨v, d, rfl, w, q⟩ := h
  cases w with
  | @tup a xs ds ea r =>
    have ty : tyN H (.ref a) = some "tuple" := by unfold tyN; dsimp only; rw [ea]
    refine ⟨by decide, "tuple", ty, Sel.t (.inl (.inr (.inl ⟨_, SqT.of ea, ?_⟩)))⟩
    have hl := r.len
    by_cases h2 : ds.length = 2
    · refine Sel.yes (decide_eq_true (by omega)) ?_
      cases r with
      | nil => cases h2
      | cons r1 r =>
      cases r with
      | nil => cases h2
      | cons r2 r =>
      cases r with
      | cons r3 r => simp at h2
      | nil =>
      refine ixT (j := 0) ea rfl rfl ⟨_, _, rfl, r1, ?_⟩
      refine Sel.mk (fun hc => ?_) (fun hc => ?_)
      · refine ixT (j := 1) ea rfl rfl ⟨_, _, rfl, r2, ?_⟩
        have q : Q (.bl (bv _ && bo _)) H := q
        rw [hc, Bool.true_and] at q; exact q
      · have q : Q (.bl (bv _ && bo _)) H := q
        rw [hc, Bool.false_and] at q; exact q
    · refine Sel.no (decide_eq_false (by omega)) ?_
      have e : cN (.tup ds) = false := by
        match ds, h2 with
        | [], _ => rfl
        | [_], _ => rfl
        | [_, _], h => exact absurd rfl h
        | _ :: _ :: _ :: _, _ => rfl
      rw [e] at q; exact q
  | int i => exact ⟨by decide, _, rfl, Sel.f q⟩
  | non => exact ⟨by decide, _, rfl, Sel.f q⟩
  | bl b => exact ⟨by decide, _, rfl, Sel.f q⟩
  | str z => exact ⟨by decide, _, rfl, Sel.f q⟩
  | lst e r => exact ⟨by decide, _, (aJ.lst e r).ty, Sel.f q⟩
  | dic e => exact ⟨by decide, _, (aJ.dic e).ty, Sel.f q⟩
theorem CJ (K:W.Frag) (A:Adr):Ln (oI K A) 1:=by rintro vs H Q E ⟨v,d,rfl,_⟩;rfl
theorem DX (T:Txt K mg A) (vs:List V) (H:Hp) (Q:VK) (E:XK) (h:oI K A vs H Q E):AX K A E { nx:=fun _ H'=>Q .non H',rt:=Q } (L2.start ["thing"] vs) H:=by
 obtain ⟨v,d,rfl,w,q1,q2⟩:=h
 refine ⟨v,d,rfl,w,?_⟩
 cases e:cN d with
 | true=>exact Sel.f (q1 e)
 | false=>exact Sel.t (q2 e)
theorem CS (K:W.Frag) (A:Adr):Ln (ol K A) 2:=by rintro vs H Q E ⟨n,v,d,rfl,_⟩;rfl
theorem EN (T : Txt K mg A) : Rd (ol K A) (Io K A) ["many", "thing"] := by
  intro vs H Q E h
  obtain ⟨n, v, d, rfl, w, sh, q⟩ := h
  cases w with
  | @tup p xs ds hp r =>
    have ty : tyN H (.ref p) = some "tuple" := by unfold tyN; dsimp only; rw [hp]
    have hl := r.len
    have l5 : ds.length ≤ 500 := sh
    refine ⟨by decide, "tuple", ty, Sel.t (.inl (.inr (.inl ⟨_, SqT.of hp, ?_⟩)))⟩
    have q : ∀ H', ao H H' → Q (.bl (decide ((ds.length : Int) = n) && ds.all bo)) H' := q
    refine Sel.dec (fun hn => ?_) (fun hn => ?_)
    · rw [decide_eq_true (show (ds.length : Int) = n by rw [← hl]; exact hn)] at q
      refine ⟨p, rfl, .inr ⟨⟨_, SqT.of hp⟩, fun D hD => ?_⟩⟩
      have hne : p ≠ D := ay hp hD
      refine eQ (dQ.tuple (xs := xs) .non) (fun i ys H2 => ys = (ds.take i).map (fun x => V.bl (bo x)) ∧ H2 = upd H D (.lst ys)) (fun i ys H2 hi ⟨_, e2⟩ => ?_) ⟨rfl, rfl⟩ (fun i ys H2 hi ⟨e1, e2⟩ => ?_) (fun ys H2 ⟨e1, e2⟩ => ?_)
      · rw [e2]; exact SqT.of (by rw [aq hne]; exact hp)
      · subst e2
        obtain ⟨x, hx⟩ : ∃ x, xs[i]? = some x := ⟨_, List.getElem?_eq_getElem hi⟩
        obtain ⟨dx, hdx, wx⟩ := r.get hx
        have hg : xs.getD i .non = x := by rw [List.getD_eq_getElem?_getD, hx]; rfl
        rw [hg]
        refine iB ⟨_, dx, rfl, wx.mono (ao.upd hD), ?_⟩
        have hyl : ys.length = i := by rw [e1, List.length_map, List.length_take]; omega
        refine ⟨ai, by rw [hyl]; exact bR (by omega), CWd.next hi ⟨?_, eR⟩⟩
        rw [e1, List.take_add_one, List.map_append, hdx]; rfl
      · subst e2
        rw [hl, List.take_length] at e1
        refine ⟨D, ds.map bo, rfl, by rw [ai, e1, List.map_map]; rfl, ?_⟩
        have e : (ds.map bo).all id = ds.all bo := by rw [List.all_map]; rfl
        have := q _ (ao.upd (o := .lst ys) hD)
        rw [Bool.true_and, ← e] at this
        exact this
    · rw [decide_eq_false (show ¬ (ds.length : Int) = n by rw [← hl]; exact hn)] at q
      exact q H (.refl H)
  | int i => exact ⟨by decide, _, rfl, Sel.f (q H (.refl H))⟩
  | non => exact ⟨by decide, _, rfl, Sel.f (q H (.refl H))⟩
  | bl b => exact ⟨by decide, _, rfl, Sel.f (q H (.refl H))⟩
  | str z => exact ⟨by decide, _, rfl, Sel.f (q H (.refl H))⟩
  | lst e r => exact ⟨by decide, _, (aJ.lst e r).ty, Sel.f (q H (.refl H))⟩
  | dic e => exact ⟨by decide, _, (aJ.dic e).ty, Sel.f (q H (.refl H))⟩
theorem Cd (K:W.Frag) (A:Adr):Ln (oi K A) 1:=by rintro vs H Q E ⟨v,d,rfl,_⟩;rfl
theorem GG (T:Txt K mg A):Rd (oi K A) (Hw K A) ["_law_found"]:=by
 intro vs H Q E h
 obtain ⟨v,d,rfl,w,q⟩:=h
 cases w with
 | int i=>exact ⟨by decide,_,rfl,Sel.t ⟨by decide,_,rfl,q⟩⟩
 | non=>exact ⟨by decide,_,rfl,Sel.f q⟩
 | bl b=>exact ⟨by decide,_,rfl,Sel.t ⟨by decide,_,rfl,q⟩⟩
 | str z=>exact ⟨by decide,_,rfl,Sel.f q⟩
 | lst e r=>exact ⟨by decide,_,(aJ.lst e r).ty,Sel.f q⟩
 | tup e r=>exact ⟨by decide,_,(aJ.tup e r).ty,Sel.f q⟩
 | dic e=>exact ⟨by decide,_,(aJ.dic e).ty,Sel.f q⟩
theorem AJ (K:W.Frag) (A:Adr):Ln (je K A) 2:=by rintro vs H Q E ⟨v,d,m,rfl,_⟩;rfl
theorem DF (T : Txt K mg A) : Rd (je K A) (Ij K A) ["_law_thing", "_law_many_here"] := by
  intro vs H Q E h
  obtain ⟨v, d, m, rfl, w, q⟩ := h
  refine ⟨_, d, rfl, w, ?_⟩
  cases w with
  | int i =>
    refine Sel.yes rfl (Sel.dec (fun h0 => ?_) (fun h0 => ?_))
    · show Q (.bl (decide (i < m))) H
      have e : dF m (.int i) = decide (i < m) := by
        show decide (0 ≤ i ∧ i < m) = decide (i < m)
        by_cases h1 : i < m
        · rw [decide_eq_true ⟨h0, h1⟩, decide_eq_true h1]
        · rw [decide_eq_false fun z => h1 z.2, decide_eq_false h1]
      rw [← e]; exact q
    · have e : dF m (.int i) = false := decide_eq_false fun z => h0 z.1
      rw [← e]; exact q
  | non => exact Sel.no rfl q
  | bl b => exact Sel.no rfl q
  | str z => exact Sel.no rfl q
  | lst e r => exact Sel.no rfl q
  | tup e r => exact Sel.no rfl q
  | dic e => exact Sel.no rfl q
theorem uY {a c:Nat} (h1:1≤c) (h2:c≤2^a):aE (2^a+c)=2^a:=by
 unfold aE
 congr 1
 have hp:0<2^a:=Nat.two_pow_pos a
 have e1:2^(a+1)=2^a+2^a:=by rw [Nat.pow_succ];omega
 have n0:2^a+c - 1≠0:=by omega
 have lo:a≤Nat.log2 (2^a+c - 1):=(Nat.le_log2 n0).mpr (by omega)
 have hi:Nat.log2 (2^a+c - 1)<a+1:=(Nat.log2_lt n0).mpr (by omega)
 omega
theorem Bv (K:W.Frag) (A:Adr):Ln (jT K A) 1:=by rintro vs H Q E ⟨m,rfl,_⟩;rfl
theorem FI (T:Txt K mg A):Rd (jT K A) (Iy K A) ["_law_many_here", "_law_cut"]:=by
 intro vs H Q E h
 obtain ⟨m,rfl,h2,h1000,q⟩:=h
 refine ⟨fun k σ H'=>∃ a:Nat,σ=[some (.int (m:Int)),some (.int ((2^a:Nat):Int))]∧H'=H∧k=m - 2^a∧2^a<m,⟨_,0,rfl,rfl,rfl,by show 1<m;omega⟩,?_⟩
 rintro k σ H' ⟨a,rfl,rfl,rfl,ha⟩
 have hp:0<2^a:=Nat.two_pow_pos a
 refine ⟨sZ (by decide) (by decide),?_⟩
 refine dq (Sel.dec (fun h=>?_) (fun h=>?_))
 · have h:(2:Int)*((2^a:Nat):Int)<(m:Int):=h
   have e:(2:Int)*((2^a:Nat):Int)=((2^(a+1):Nat):Int):=by rw [Nat.pow_succ,Int.natCast_mul];omega
   refine ⟨fun σ H''=>∃ b:Nat,σ=[some (.int (m:Int)),some (.int ((2^b:Nat):Int))]∧H''=H'∧m - 2^(a+1)=m - 2^b∧2^b<m,fun σ' H'' hh=>⟨_,?_,hh⟩,sZ (by decide) (by decide),a+1,?_,rfl,rfl,by omega⟩
   · rw [Nat.pow_succ];omega
   · rw [← e];rfl
 · have h:¬ (2:Int)*((2^a:Nat):Int)<(m:Int):=h
   have e:aE m=2^a:=by
     have:=uY (a:=a) (c:=m - 2^a) (by omega) (by omega)
     rw [show 2^a+(m - 2^a)=m by omega] at this
     exact this
   rw [e] at q;exact q
theorem CP (K:W.Frag) (A:Adr):Ln (oF K A) 1:=by rintro vs H Q E ⟨c,rfl,_⟩;rfl
theorem Ef (T:Txt K mg A) (vs:List V) (H:Hp) (Q:VK) (E:XK) (h:oF K A vs H Q E):Il K A { nx:=fun _ H'=>Q .non H',rt:=Q } (start ["_law_cell"] vs) H:=by
 obtain ⟨c,rfl,q⟩:=h
 have q':∀ i:Int,0≤i→i<2^60→Q (.int i) H:=fun i h0 h1=>by
   have:=q i.toNat (by omega)
   rwa [Int.toNat_of_nonneg h0] at this
 refine ⟨by decide,?_⟩
 refine Sel.dec (fun h=>?_) (fun h=>?_)
 · exact ⟨⟨by decide,by decide⟩,by decide,q' _ (by omega) (by omega)⟩
 · refine ⟨by decide,?_⟩
   refine Sel.dec (fun h=>?_) (fun h=>?_)
   · refine ⟨⟨by decide,by decide⟩,by decide,⟨by omega,by omega,by decide⟩,⟨by decide,by decide⟩,by decide,?_⟩
     have b:=yL (k:=(1+c/3%59).toNat) (by omega) (by omega)
     generalize (1+c/3%59).toNat=k at b ⊢
     show Q (.int (1*2^k+c/177%4 - 1)) H
     exact q' _ (by omega) (by omega)
   · refine ⟨⟨by decide,by decide⟩,⟨by decide,by decide,by decide⟩,by decide,?_⟩
     show Q (.int (c/3%(1*2^60))) H
     exact q' _ (by omega) (by omega)
theorem AO {b L:Addr} {H:Hp} (bb:(∃ φ,H b=some (.ext φ))∨∃ kvs,H b=some (.dT kvs)) (h:H L=none):b≠L:=by
 rintro rfl
 rcases bb with ⟨φ,e⟩ | ⟨kvs,e⟩ <;> (rw [h] at e;cases e)
theorem zq {b p2 L:Addr} {H H1 H2 H3:Hp} {o:HO} (S1:ao H H1) (S2:ao H1 H2) (kb:aG b H2 H3) (bb:(∃ φ,H2 b=some (.ext φ))∨∃ kvs,H2 b=some (.dT kvs)) (hp2:H3 p2=none) (hL:upd H3 p2 o L=none) (hb:b≠L):H L=none:=by
 obtain ⟨n,h3⟩:=bJ hL
 cases e:H L with
 | none=>rfl
 | some u=>rw [kb L u (Ne.symm hb) (S2 _ _ (S1 _ _ e))] at h3;cases h3
theorem im {H : Hp} : ∀ {xs : List V} {ks : List Key}, DatWs H xs (ks.map bX) → xs = ks.map kV
  | [], [], _ => rfl
  | _ :: _, [], h => nomatch h
  | [], _ :: _, h => nomatch h
  | x :: xs, k :: ks, h => by
    cases h with
    | cons a r =>
      have e : x = kV k := by
        cases k with
        | inl i => cases a; rfl
        | inr z => cases a; rfl
      rw [e, im r]; rfl
theorem dW {H:Hp}:∀ ks:List Key,DatWs H (ks.map kV) (ks.map bX)
 | []=> .nil
 | k::r=> .cons (cO k) (dW r)
theorem eS.at {H:Hp} {m:V} {k:Dat} {n:Nat} {ks:List Key} (M:eS k n ks) (w:aJ H m k):∃ P,m=.ref P∧H P=some (.tup (ks.map kV)):=by
 rw [M.e] at w
 cases w with
 | tup e r=>exact ⟨_,rfl,by rw [e,im r]⟩
theorem eS.yes {k:Dat} {n:Nat} {ks:List Key} (M:eS k n ks):cx n k=true:=by
 rw [M.e]
 show (decide (((ks.map bX).length:Int)=(n:Int))&&(ks.map bX).all bo)=true
 rw [List.length_map,M.l,decide_eq_true rfl,Bool.true_and,List.all_map,List.all_eq_true]
 exact fun x hx=>jx (M.en x hx).1
end Rs
namespace Rs
open PySem PySem.Spec PyProof.Rows L2
theorem dy {f c el:Nat} (h:el=0∨c≤el):grF f c el=[]:=by
 cases f with
 | zero=>rfl
 | succ f=>rw [grF,if_pos h]
theorem gb {f c el:Nat} (h:¬ (el=0∨c≤el)):grF (f+1) c el=if el≤aE c then 0::grF f (aE c) el else 1::grF f (c - aE c) (el - aE c):=by rw [grF,if_neg h]
theorem pT : ∀ f c el, (grF f c el).length ≤ f
  | 0, _, _ => Nat.le_refl _
  | f + 1, c, el => by
    rw [grF]
    split
    · exact Nat.zero_le _
    · split
      · have := pT f (aE c) el; simp; omega
      · have := pT f (c - aE c) (el - aE c); simp; omega
theorem pB : ∀ (f c el : Nat), ∀ t ∈ grF f c el, t = 0 ∨ t = 1
  | 0, _, _, t, h => nomatch h
  | f + 1, c, el, t, h => by
    rw [grF] at h
    split at h
    · cases h
    · split at h
      · rcases List.mem_cons.mp h with rfl | h
        · exact .inl rfl
        · exact pB f _ _ t h
      · rcases List.mem_cons.mp h with rfl | h
        · exact .inr rfl
        · exact pB f _ _ t h
variable {K:W.Frag} {mg:Str→Option Value} {A:Adr}
theorem CO (K:W.Frag) (A:Adr):Ln (nV K A) 2:=by rintro vs H Q E ⟨c,e,rfl,_⟩;rfl
theorem Fz (T:Txt K mg A):Rd (nV K A) (Im K A) ["count", "elder", "turns", "early", "rest", "ahead"]:=by
 intro vs H Q E h
 obtain ⟨c,el,rfl,ec,c2,q⟩:=h
 refine ⟨Nat.zero_le _,fun L hL=>?_⟩
 have q':=q L hL
 refine ⟨fun e σ H'=>∃ (acc:List Int) (d r:Nat) (x5:Option V),σ=[some (.int (c:Int)),some (.int (el:Int)),some (.ref L),some (.int (d:Int)),some (.int (r:Int)),x5]∧H'=upd H L (.lst (acc.map V.int))∧acc++grF e r d=bf c el∧d≤r∧r≤2^e∧acc.length+e=60,
   ⟨60,[],el,c,none,rfl,rfl,by rw [List.nil_append],ec,c2,rfl⟩,?_⟩
 rintro e σ H' ⟨acc,d,r,x5,rfl,rfl,ht,hd,hr,hl⟩
 have fin:(d=0∨r≤d)→Q (.ref L) (upd H L (.lst (acc.map V.int))):=fun h=>by
   rw [dy h,List.append_nil] at ht
   rw [ht];exact q'
 have lt:(acc.map V.int).length<sizeLine:=by rw [List.length_map];exact bR (by omega)
 have ap:∀ t:Int,upd (upd H L (.lst (acc.map V.int))) L (.lst (acc.map V.int++[.int t]))=upd H L (.lst ((acc++[t]).map V.int)):=fun t=>by rw [eR,List.map_append];rfl
 refine Sel.dec (fun h0=>?_) (fun h0=>?_)
 · refine dq (Sel.dec (fun h1=>?_) (fun h1=>?_))
   · have h2:2≤r:=by omega
     have b1:=gz h2
     have b2:=gt h2
     cases e with
     | zero=>simp at hr;omega
     | succ e=>
     have b3:=fA h2 hr
     have c60:r≤2^60:=Nat.le_trans hr (Nat.pow_le_pow_right (by decide) (by omega))
     rw [gb (by omega)] at ht
     refine ⟨fun σ H'=>∃ (acc:List Int) (d r:Nat) (x5:Option V),σ=[some (.int (c:Int)),some (.int (el:Int)),some (.ref L),some (.int (d:Int)),some (.int (r:Int)),x5]∧H'=upd H L (.lst (acc.map V.int))∧acc++grF e r d=bf c el∧d≤r∧r≤2^e∧acc.length+e=60,fun σ' H' hh=>⟨e,by omega,hh⟩,?_⟩
     refine ⟨r,rfl,h2,c60,Sel.dec (fun h=>?_) (fun h=>?_)⟩
     · rw [if_pos (by omega)] at ht
       refine ⟨.inl ⟨rfl,_,SqL.of ai⟩,L,_,_,rfl,rfl,ai,lt,?_⟩
       exact ⟨acc++[0],d,aE r,_,rfl,ap 0,by rw [List.append_assoc];exact ht,by omega,b3,by rw [List.length_append];show _+1+_=_;omega⟩
     · rw [if_neg (by omega)] at ht
       refine ⟨.inl ⟨rfl,_,SqL.of ai⟩,L,_,_,rfl,rfl,ai,lt,?_⟩
       refine ⟨acc++[1],d - aE r,r - aE r,some (.int ((aE r:Nat):Int)),?_,ap 1,by rw [List.append_assoc];exact ht,by omega,by omega,by rw [List.length_append];show _+1+_=_;omega⟩
       rw [Int.ofNat_sub (by omega),Int.ofNat_sub (by omega)];rfl
   · exact fin (.inr (by omega))
 · exact fin (.inl (by omega))
theorem ge {c:Nat} {y:Key} (hc:c<2^60) (hy:okP y=true):okT [.inr "row",.inl (c:Int),y]=true:=jt okW.2.2.2 (fun z hz=>by
 rcases List.mem_cons.mp hz with rfl | hz
 · exact okC hc
 · rw [List.mem_singleton.mp hz];exact hy) (show 2≤7 by decide)
theorem Dq (K:W.Frag) (A:Adr):Ln (iA K A) 1:=by rintro vs H Q E ⟨f,b,g,n,rfl,_⟩;rfl
theorem FW (T:Txt K mg A):Rd (iA K A) (Ih K A) ["stamper"]:=by
 intro vs H Q E h
 obtain ⟨f,b,g,n,rfl,s,hn,q⟩:=h
 refine ⟨ax (show 1≤1000000 by decide),fun p1 hp1=>?_⟩
 have S1:ao H (upd H p1 (.tup [.str "void"])):=ao.upd hp1
 have s1:=s.same (Nat.le_refl _) S1
 have hp11:upd H p1 (.tup [.str "void"]) p1=some (.tup (([.inr "void"]:List Key).map kV)):=ai
 generalize upd H p1 (.tup [.str "void"])=H1 at S1 s1 hp11
 refine ⟨f,rfl,s1.clo,ax (show 1≤1000000 by decide),fun p0 hp0=>?_⟩
 have S2:ao H1 (upd H1 p0 (.tup [.str "void"])):=ao.upd hp0
 have s2:=s1.same (Nat.le_refl _) S2
 have hk2:upd H1 p0 (.tup [.str "void"]) p0=some (.tup (([.inr "void"]:List Key).map kV)):=ai
 generalize upd H1 p0 (.tup [.str "void"])=H2 at S2 s2 hk2
 dsimp only [af]
 refine dn s2 (by omega) hk2 gx fun w H3 g3 kb s3 sub3 gv st=>⟨ax (show 3≤1000000 by decide),fun p2 hp2=>⟨ax (show 2≤1000000 by decide),fun L hL=>?_⟩⟩
 have S4:ao H3 (upd (upd H3 p2 (.tup [.str "row",.int 0,kV w])) L (.lst [.ref p1,.ref p2])):=(ao.upd hp2).trans (ao.upd hL)
 have okv:=dE st (by rw [sz1,szW.1];decide)
 refine q L [p1,p2] w g3 _ (((aG.same S1).trans (aG.same S2)).trans (kb.trans (aG.same S4))) (s3.same (Nat.le_refl _) S4) sub3 gv okv (Nat.le_trans (fj st) (by rw [sz1,szW.1];decide)) ai (.cons ⟨?_,gx⟩ (.cons ⟨?_,ge (c:=0) (by decide) okv⟩ .nil)) (zq S1 S2 kb s2.bb hp2 hL (AO s3.bb (bJ hL).2))
 · exact S4 _ _ (kb.obj s2.bb (S2 _ _ hp11) (fun _ z=>nomatch z))
 · rw [aq (Ne.symm (bJ hL).1)];exact ai
end Rs
namespace Rs
open PySem PySem.Spec PyProof.Rows L2
theorem iT {ts:List Int} {ds:List Key} (h:ds.length=ts.length+1):(stR ts ds).length=ts.length:=by unfold stR;simp [List.length_zip,h]
theorem vt {ts:List Int} {ds:List Key} (h:ds.length=ts.length+1) {i:Nat} (hi:i<ts.length):∃ t k,ts[ts.length - 1 - i]?=some t∧ds[ts.length - 1 - i]?=some k∧(stR ts ds)[i]?=some (t,k):=by
 refine ⟨ts[ts.length - 1 - i]'(by omega),ds[ts.length - 1 - i]'(by omega),List.getElem?_eq_getElem (by omega),List.getElem?_eq_getElem (by omega),?_⟩
 unfold stR
 rw [List.getElem?_reverse (by rw [List.length_zip];omega)]
 have e:(ts.zip ds).length - 1 - i=ts.length - 1 - i:=by rw [List.length_zip];omega
 rw [e,List.getElem?_eq_getElem (by rw [List.length_zip];omega),List.getElem_zip]
theorem yV {ts:List Int} {ks ds:List Key} (h:dl ts 0 ks.length ks=ds.map some):cR ts ks=ds:=by
 unfold cR;rw [h,List.map_map]
 have:((fun x:Option Key=>x.getD (.inl 0))∘some)=id:=rfl
 rw [this,List.map_id]
structure Dg (ts:List Int) (ks acc:List Key) (i lo hi:Nat):Prop where
 al:acc.length=i
 hl:hi≤ks.length
 w:hi=lo+(ts.length - i)+1
 eq:acc.map some++dl (ts.drop i) lo hi ks=dl ts 0 ks.length ks
theorem Dg.start {ts:List Int} {ks:List Key} (h:ks.length=ts.length+1):Dg ts ks [] 0 0 ks.length:=⟨rfl,Nat.le_refl _,by omega,by rw [List.drop_zero];rfl⟩
theorem Dg.one {ts:List Int} {ks acc:List Key} {i lo hi:Nat} {k:Key} (d:Dg ts ks acc i lo hi) (ht:ts[i]?=some 1) (hk:ks[lo]?=some k):Dg ts ks (acc++[k]) (i+1) (lo+1) hi:=by
 have hi':=(List.getElem?_eq_some_iff.mp ht).1
 have e:ts.drop i=1::ts.drop (i+1):=by rw [List.drop_eq_getElem_cons hi',(List.getElem?_eq_some_iff.mp ht).2]
 refine ⟨by rw [List.length_append,d.al];rfl,d.hl,by have:=d.w;omega,?_⟩
 rw [← d.eq,e,dl,if_pos rfl,hk,List.map_append,List.append_assoc];rfl
theorem Dg.nul {ts:List Int} {ks acc:List Key} {i lo hi:Nat} {k:Key} {t:Int} (d:Dg ts ks acc i lo hi) (ht:ts[i]?=some t) (t1:t≠1) (hk:ks[hi - 1]?=some k):Dg ts ks (acc++[k]) (i+1) lo (hi - 1):=by
 have hi':=(List.getElem?_eq_some_iff.mp ht).1
 have e:ts.drop i=t::ts.drop (i+1):=by rw [List.drop_eq_getElem_cons hi',(List.getElem?_eq_some_iff.mp ht).2]
 refine ⟨by rw [List.length_append,d.al];rfl,by have:=d.hl;omega,by have:=d.w;omega,?_⟩
 rw [← d.eq,e,dl,if_neg t1,hk,List.map_append,List.append_assoc];rfl
theorem Dg.done {ts:List Int} {ks acc:List Key} {i lo hi:Nat} {k:Key} (d:Dg ts ks acc i lo hi) (hi':i=ts.length) (hk:ks[lo]?=some k):cR ts ks=acc++[k]:=by
 subst hi'
 refine yV ?_
 rw [← d.eq,List.drop_length,dl,hk,List.map_append];rfl
theorem Dg.lo {ts:List Int} {ks acc:List Key} {i lo hi:Nat} (d:Dg ts ks acc i lo hi) (h:ks.length=ts.length+1) (hi':i≤ts.length):lo<ks.length∧1≤hi∧hi - 1<ks.length:=by
 have:=d.hl;have:=d.w;omega
variable {K:W.Frag} {mg:Str→Option Value} {A:Adr}
theorem CI (K:W.Frag) (A:Adr):Ln (lJ K A) 2:=by rintro vs H Q E ⟨L,P,ts,ks,rfl,_⟩;rfl
theorem Em (T:Txt K mg A):Rd (lJ K A) (GY K A) ["turns", "marks", "steps", "first", "last", "turn"]:=by
 intro vs H Q E h
 obtain ⟨L,P,ts,ks,rfl,hL,hP,kl,tl,t01,q⟩:=h
 refine ⟨Nat.zero_le _,fun D hD=>?_⟩
 have S1:ao H (upd H D (.lst [])):=ao.upd hD
 have hD1:upd H D (.lst []) D=some (.lst (([]:List Addr).map V.ref)):=ai
 generalize upd H D (.lst [])=H1 at S1 hD1
 refine .inl (.inr (.inl ⟨_,SqT.of (S1 _ _ hP),?_⟩))
 rw [List.length_map]
 refine ⟨L,rfl,.inl ⟨⟨_,SqL.of (S1 _ _ hL)⟩,?_⟩⟩
 refine pv (xs:=ts.map V.int) (fun i σ H'=>∃ (acc:List Key) (ps:List Addr) (lo hi:Nat) (x5:Option V),σ=[some (.ref L),some (.ref P),some (.ref D),some (.int (lo:Int)),some (.int ((hi:Int) - 1)),x5]∧ao H H'∧H' D=some (.lst (ps.map V.ref))∧ps.length=i∧Dg ts ks acc i lo hi∧∀ (j:Nat) (p:Addr) (t:Int) (k:Key),ps[j]?=some p→ts[j]?=some t→acc[j]?=some k→H' p=some (.tup [.int t,kV k]))
   ⟨[],[],0,ks.length,none,rfl,S1,hD1,rfl,Dg.start kl,fun j p t k h=>nomatch h⟩ ?_ ?_ ?_
 · rintro i σ H' _ ⟨_,_,_,_,_,_,S,_⟩;exact SqL.of (S _ _ hL)
 · rintro i x σ H' hx ⟨acc,ps,lo,hi,x5,rfl,S,hD',pl,d,hp⟩
   obtain ⟨t,ht,rfl⟩:=jV hx
   have hi':=(List.getElem?_eq_some_iff.mp ht).1
   obtain ⟨b1,b2,b3⟩:=d.lo kl (by omega)
   have lt:(ps.map V.ref).length<sizeLine:=by rw [List.length_map,pl];exact bR (by omega)
   have al:=d.al
   have nx:∀ (k:Key) (p7:Addr),H' p7=none→∀ (lo' hi':Nat),Dg ts ks (acc++[k]) (i+1) lo' hi'→ao H (upd (upd H' p7 (.tup [.int t,kV k])) D (.lst (ps.map V.ref++[.ref p7])))∧upd (upd H' p7 (.tup [.int t,kV k])) D (.lst (ps.map V.ref++[.ref p7])) D=some (.lst ((ps++[p7]).map V.ref))∧(ps++[p7]).length=i+1∧∀ (j:Nat) (p:Addr) (t':Int) (k':Key),(ps++[p7])[j]?=some p→ts[j]?=some t'→(acc++[k])[j]?=some k'→upd (upd H' p7 (.tup [.int t,kV k])) D (.lst (ps.map V.ref++[.ref p7])) p=some (.tup [.int t',kV k']):=by
     intro k p7 hp7 lo' hi' d'
     have Dn:p7≠D:=Ne.symm (ay hD' hp7)
     refine ⟨fun z u ez=>?_,by rw [ai,List.map_append];rfl,by rw [List.length_append,pl];rfl,fun j p t' k' h1 h2 h3=>?_⟩
     · rw [aq (ay ez hD)];exact ao.upd hp7 _ _ (S _ _ ez)
     · rcases Nat.lt_trichotomy j i with hj | hj | hj
       · rw [List.getElem?_append_left (by omega)] at h1 h3
         have:=hp j p t' k' h1 h2 h3
         rw [aq (bH this hD' (fun z=>nomatch z))]
         rw [aq (ay this hp7)];exact this
       · subst hj
         rw [List.getElem?_append_right (by omega),pl,Nat.sub_self] at h1
         rw [List.getElem?_append_right (by omega),al,Nat.sub_self] at h3
         cases h1;cases h3
         rw [ht] at h2;cases h2
         rw [aq Dn];exact ai
       · rw [List.getElem?_eq_none (by rw [List.length_append,pl];show i+1≤j;omega)] at h1;cases h1
   refine Sel.dec (fun h=>?_) (fun h=>?_)
   · have h:t=0:=h
     obtain ⟨k,hk⟩:∃ k,ks[hi - 1]?=some k:=⟨_,List.getElem?_eq_getElem b3⟩
     refine ⟨.inl ⟨rfl,_,SqL.of hD'⟩,ixT (j:=hi - 1) (S _ _ hP) (by omega) (by rw [List.getElem?_map,hk];rfl) ⟨ax (show 2≤1000000 by decide),fun p7 hp7=>⟨D,_,_,rfl,rfl,ao.upd hp7 _ _ hD',lt,?_⟩⟩⟩
     have d':=d.nul ht (by omega) hk
     obtain ⟨a1,a2,a3,a4⟩:=nx k p7 hp7 lo (hi - 1) d'
     refine ⟨acc++[k],ps++[p7],lo,hi - 1,some (.int t),?_,a1,a2,a3,d',a4⟩
     rw [Int.ofNat_sub (by omega)];rfl
   · have h:¬ t=0:=h
     have t1:t=1:=(t01 t (List.mem_of_getElem? ht)).resolve_left h
     obtain ⟨k,hk⟩:∃ k,ks[lo]?=some k:=⟨_,List.getElem?_eq_getElem b1⟩
     refine ⟨.inl ⟨rfl,_,SqL.of hD'⟩,ixT (j:=lo) (S _ _ hP) rfl (by rw [List.getElem?_map,hk];rfl) ⟨ax (show 2≤1000000 by decide),fun p7 hp7=>⟨D,_,_,rfl,rfl,ao.upd hp7 _ _ hD',lt,?_⟩⟩⟩
     have d':=d.one (t1▸ht) hk
     obtain ⟨a1,a2,a3,a4⟩:=nx k p7 hp7 (lo+1) hi d'
     exact ⟨acc++[k],ps++[p7],lo+1,hi,_,rfl,a1,a2,a3,d',a4⟩
 · rintro σ H' ⟨acc,ps,lo,hi,x5,rfl,S,hD',pl,d,hp⟩
   rw [List.length_map] at d pl
   obtain ⟨b1,b2,b3⟩:=d.lo kl (by omega)
   obtain ⟨k,hk⟩:∃ k,ks[lo]?=some k:=⟨_,List.getElem?_eq_getElem b1⟩
   have ed:=d.done rfl hk
   have al:=d.al
   have em:inM ts ks=k:=by
     unfold inM;rw [ed,List.getElem?_append_right (by omega),al,Nat.sub_self];rfl
   have dlen:(cR ts ks).length=ts.length+1:=by rw [ed,List.length_append,al];rfl
   refine ixT (j:=lo) (S _ _ hP) rfl (by rw [List.getElem?_map,hk];rfl) ⟨D,_,rfl,SqL.of hD',fun Z hZ=>⟨ax (show 2≤1000000 by decide),fun R hR=>?_⟩⟩
   have S2:=(ao.upd (o:=.lst (ps.map V.ref).reverse) hZ).trans (ao.upd (o:=.tup [kV k,.ref Z]) hR)
   refine q R Z ps.reverse _ (S.trans S2) (by rw [ai,em]) (by rw [ao.upd hR _ _ ai,List.map_reverse]) (by rw [List.length_reverse,pl]) fun j p x h1 h2=>?_
   have hj:j<ts.length:=by
     have:=(List.getElem?_eq_some_iff.mp h1).1
     rw [List.length_reverse,pl] at this;exact this
   obtain ⟨tn,m,g1,g2,g3⟩:=vt dlen hj
   have h2:(stR ts (cR ts ks))[j]?=some x:=h2
   rw [g3] at h2
   cases h2
   rw [List.getElem?_reverse (by omega),pl] at h1
   rw [ed,List.getElem?_append_left (by omega)] at g2
   exact S2 _ _ (hp _ _ _ _ h1 g1 g2)
end Rs
namespace Rs
open PySem PySem.Spec PyProof.Rows L2
def mt (h:List Key→Key) (c:Int) (m:Key) (st:List (Int×Key)):Nat→Key
 | 0=>m
 | i+1=>h (fi h c m st i)
theorem fk (h:List Key→Key) (c:Int) (m:Key) (st:List (Int×Key)) (i:Nat):fi h c m st i=cK c st i (mt h c m st i):=by cases i <;> rfl
theorem iW (h:List Key→Key) (c:Int) (m:Key) (st:List (Int×Key)) (k:Nat):kh h c m st (k+1)=kh h c m st k++[fi h c m st k]:=by
 unfold kh;rw [List.range_succ,List.map_append];rfl
variable {K:W.Frag} {mg:Str→Option Value} {A:Adr}
structure Gy (A:Adr) (H H':Hp) (f b Y O:Addr) (c:Nat) (m:Key) (st:List (Int×Key)) (iy io:Nat) (g g':List Key→Option Key) (n:Nat) (py po:List Addr) (ty to:List (List Key)) (v u:Key):Prop where
 kb:aG b H H'
 s:Stp A H' f b g' (n+iy+io)
 sub:Sub g g'
 nY:H Y=none
 nO:H O=none
 yo:Y≠O
 hY:H' Y=some (.lst (py.map V.ref))
 hO:H' O=some (.lst (po.map V.ref))
 ky:PK H' py ty
 ko:PK H' po to
 ly:ty.length=iy
 lo:to.length≤io
 ov:okP v=true
 sv:szK v≤200*iy+100
 ou:okP u=true
 su:szK u≤200*io+100
 sy:∀ k∈ty,szT k≤20000
 so:∀ k∈to,szT k≤20000
 eq:∀ h,Ext g' h→ty=kh h c m st iy∧v=mt h c m st iy∧to=(cU h m st io).1∧u=(cU h m st io).2
section
variable {H H':Hp} {f b Y O:Addr} {c:Nat} {m:Key} {st:List (Int×Key)} {iy io:Nat} {g g':List Key→Option Key} {n:Nat} {py po:List Addr} {ty to:List (List Key)} {v u:Key} {R:VK}
theorem Gy.nb (l:Gy A H H' f b Y O c m st iy io g g' n py po ty to v u):Y≠b∧O≠b:=⟨l.s.nb l.hY (fun _ z=>nomatch z) (fun _ z=>nomatch z),l.s.nb l.hO (fun _ z=>nomatch z) (fun _ z=>nomatch z)⟩
theorem Gy.young (l:Gy A H H' f b Y O c m st iy io g g' n py po ty to v u) (hc:c<2^60) (hm:∀ x∈st,enK x.2) (i60:iy≤60) (o60:io≤60) (hn:n≤40000) {p7:Addr} (hp7:H' p7=none)
   (q:∀ (v':Key) (H8:Hp) (g8:List Key→Option Key),(∀ z o,z≠b→z≠Y→H' z=some o→H8 z=some o)→Gy A H H8 f b Y O c m st (iy+1) io g g8 n (py++[p7]) po (ty++[cK c st iy v]) to v' u→R (kV v') H8):
   iL (cD K A) f [.ref p7] (upd (upd H' p7 (.tup ((cK c st iy v).map kV))) Y (.lst (py.map V.ref++[.ref p7]))) R E0:=by
 obtain ⟨nYb,nOb⟩:=l.nb
 have Y7:p7≠Y:=Ne.symm (ay l.hY hp7)
 have hY7:upd H' p7 (.tup ((cK c st iy v).map kV)) Y=some (.lst (py.map V.ref)):=ao.upd hp7 _ _ l.hY
 have kx:∀ z o,z≠Y→H' z=some o→upd (upd H' p7 (.tup ((cK c st iy v).map kV))) Y (.lst (py.map V.ref++[.ref p7])) z=some o:=fun z o nz ez=>by rw [aq nz];exact ao.upd hp7 _ _ ez
 have s7:Stp A (upd (upd H' p7 (.tup ((cK c st iy v).map kV))) Y (.lst (py.map V.ref++[.ref p7]))) f b g' (n+iy+io):=(l.s.same (Nat.le_refl _) (ao.upd hp7)).setL hY7
 obtain ⟨ok7,sz7⟩:=Bg (i:=iy) (B:=200*iy+38) hc hm l.ov (by have:=l.sv;omega)
 have hp77:upd (upd H' p7 (.tup ((cK c st iy v).map kV))) Y (.lst (py.map V.ref++[.ref p7])) p7=some (.tup ((cK c st iy v).map kV)):=by rw [aq Y7];exact ai
 have hYY:upd (upd H' p7 (.tup ((cK c st iy v).map kV))) Y (.lst (py.map V.ref++[.ref p7])) Y=some (.lst ((py++[p7]).map V.ref)):=by rw [ai,List.map_append];rfl
 have kt:∀ x xs,H' x=some (.tup xs)→upd (upd H' p7 (.tup ((cK c st iy v).map kV))) Y (.lst (py.map V.ref++[.ref p7])) x=some (.tup xs):=fun x xs ex=>kx _ _ (bH ex l.hY (fun z=>nomatch z)) ex
 have hO7:=kx _ _ (Ne.symm l.yo) l.hO
 have kb7:aG b H (upd (upd H' p7 (.tup ((cK c st iy v).map kV))) Y (.lst (py.map V.ref++[.ref p7]))):=fun z o nz ez=>kx _ _ (ay ez l.nY) (l.kb _ _ nz ez)
 generalize upd (upd H' p7 (.tup ((cK c st iy v).map kV))) Y (.lst (py.map V.ref++[.ref p7]))=H7 at kx s7 hp77 hYY kt hO7 kb7
 refine dn s7 (by omega) hp77 ok7 fun v' H8 g8 kb8 s8 sub8 gv st8=>?_
 have sv:=fj st8
 refine q v' H8 g8 (fun z o nz ny ez=>kb8 _ _ nz (kx _ _ ny ez)) ⟨kb7.trans kb8,s8.same (by omega) (.refl _),l.sub.trans sub8,l.nY,l.nO,l.yo,kb8 _ _ nYb hYY,kb8 _ _ nOb hO7,dX ((l.ky.keep kt).keep (aG.tup s7 kb8)) ⟨kb8.obj s7.bb hp77 (fun _ z=>nomatch z),ok7⟩,(l.ko.keep kt).keep (aG.tup s7 kb8),by rw [List.length_append,l.ly];rfl,l.lo,dE st8 (by omega),by omega,l.ou,l.su,fun k hk=>?_,l.so,fun h eh=>?_⟩
 · rcases List.mem_append.mp hk with h | h
   · exact l.sy k h
   · rw [List.mem_singleton.mp h];omega
 · obtain ⟨e1,e2,e3,e4⟩:=l.eq h (Ext.of sub8 eh)
   have e5:cK c st iy v=fi h c m st iy:=by rw [fk,e2]
   refine ⟨by rw [iW,←e1,e5],?_,e3,e4⟩
   show v'=h (fi h c m st iy)
   rw [← e5,eh _ _ gv]
theorem Gy.old (l:Gy A H H' f b Y O c m st iy io g g' n py po ty to v u) (hm:∀ x∈st,enK x.2) (i60:iy≤61) (o60:io≤60) (hn:n≤40000) {x:Int×Key} (hx:st[io]?=some x) (x1:x.1=1) {p7:Addr} (hp7:H' p7=none)
   (q:∀ (u':Key) (H8:Hp) (g8:List Key→Option Key),(∀ z o,z≠b→z≠O→H' z=some o→H8 z=some o)→Gy A H H8 f b Y O c m st iy (io+1) g g8 n py (po++[p7]) ty (to++[jtT x.1 u x.2]) v u'→R (kV u') H8):
   iL (cD K A) f [.ref p7] (upd (upd H' p7 (.tup ((jtT x.1 u x.2).map kV))) O (.lst (po.map V.ref++[.ref p7]))) R E0:=by
 obtain ⟨nYb,nOb⟩:=l.nb
 have O7:p7≠O:=Ne.symm (ay l.hO hp7)
 have hO7:upd H' p7 (.tup ((jtT x.1 u x.2).map kV)) O=some (.lst (po.map V.ref)):=ao.upd hp7 _ _ l.hO
 have kx:∀ z o,z≠O→H' z=some o→upd (upd H' p7 (.tup ((jtT x.1 u x.2).map kV))) O (.lst (po.map V.ref++[.ref p7])) z=some o:=fun z o nz ez=>by rw [aq nz];exact ao.upd hp7 _ _ ez
 have s7:Stp A (upd (upd H' p7 (.tup ((jtT x.1 u x.2).map kV))) O (.lst (po.map V.ref++[.ref p7]))) f b g' (n+iy+io):=(l.s.same (Nat.le_refl _) (ao.upd hp7)).setL hO7
 have hxe:=hm x (List.mem_of_getElem? hx)
 have ok7:okT (jtT x.1 u x.2)=true:=yt l.ou hxe.1
 have sz7:szT (jtT x.1 u x.2)≤200*io+237:=by rw [yg];have:=l.su;have:=hxe.2;omega
 have hp77:upd (upd H' p7 (.tup ((jtT x.1 u x.2).map kV))) O (.lst (po.map V.ref++[.ref p7])) p7=some (.tup ((jtT x.1 u x.2).map kV)):=by rw [aq O7];exact ai
 have hOO:upd (upd H' p7 (.tup ((jtT x.1 u x.2).map kV))) O (.lst (po.map V.ref++[.ref p7])) O=some (.lst ((po++[p7]).map V.ref)):=by rw [ai,List.map_append];rfl
 have kt:∀ z xs,H' z=some (.tup xs)→upd (upd H' p7 (.tup ((jtT x.1 u x.2).map kV))) O (.lst (po.map V.ref++[.ref p7])) z=some (.tup xs):=fun z xs ex=>kx _ _ (bH ex l.hO (fun z=>nomatch z)) ex
 have hY7:=kx _ _ l.yo l.hY
 have kb7:aG b H (upd (upd H' p7 (.tup ((jtT x.1 u x.2).map kV))) O (.lst (po.map V.ref++[.ref p7]))):=fun z o nz ez=>kx _ _ (ay ez l.nO) (l.kb _ _ nz ez)
 generalize upd (upd H' p7 (.tup ((jtT x.1 u x.2).map kV))) O (.lst (po.map V.ref++[.ref p7]))=H7 at kx s7 hp77 hOO kt hY7 kb7
 refine dn s7 (by omega) hp77 ok7 fun u' H8 g8 kb8 s8 sub8 gv st8=>?_
 have sv:=fj st8
 refine q u' H8 g8 (fun z o nz ny ez=>kb8 _ _ nz (kx _ _ ny ez)) ⟨kb7.trans kb8,s8.same (by omega) (.refl _),l.sub.trans sub8,l.nY,l.nO,l.yo,kb8 _ _ nYb hY7,kb8 _ _ nOb hOO,(l.ky.keep kt).keep (aG.tup s7 kb8),dX ((l.ko.keep kt).keep (aG.tup s7 kb8)) ⟨kb8.obj s7.bb hp77 (fun _ z=>nomatch z),ok7⟩,l.ly,by rw [List.length_append];have:=l.lo;show _+1≤_;omega,l.ov,l.sv,dE st8 (by omega),by omega,l.sy,fun k hk=>?_,fun h eh=>?_⟩
 · rcases List.mem_append.mp hk with h | h
   · exact l.so k h
   · rw [List.mem_singleton.mp h];omega
 · obtain ⟨e1,e2,e3,e4⟩:=l.eq h (Ext.of sub8 eh)
   refine ⟨e1,e2,?_,?_⟩
   · rw [cU,hx];dsimp only;rw [if_pos x1,←e3,←e4]
   · rw [cU,hx];dsimp only;rw [if_pos x1,←e4,eh _ _ gv]
theorem Gy.skip (l:Gy A H H' f b Y O c m st iy io g g' n py po ty to v u) {x:Int×Key} (hx:st[io]?=some x) (x1:x.1≠1):Gy A H H' f b Y O c m st iy (io+1) g g' n py po ty to v u:=by
 have e:∀ h,cU h m st (io+1)=cU h m st io:=fun h=>by rw [cU,hx];dsimp only;rw [if_neg x1]
 exact { l with
  s:=l.s.same (by omega) (.refl _)
  lo:=Nat.le_succ_of_le l.lo
  su:=Nat.le_trans l.su (by omega)
  eq:=fun h eh=>⟨(l.eq h eh).1,(l.eq h eh).2.1,by rw [e];exact (l.eq h eh).2.2.1,by rw [e];exact (l.eq h eh).2.2.2⟩ }
end
end Rs
namespace Rs
open PySem PySem.Spec PyProof.Rows L2
variable {K:W.Frag} {mg:Str→Option Value} {A:Adr}
theorem Dz (K:W.Frag) (A:Adr):Ln (lF K A) 4:=by rintro vs H Q E ⟨f,b,R,Z,c,el,m,st,ps,g,n,rfl,_⟩;rfl
theorem oU (ps:List Addr) (p:Addr):(ps++[p]).map V.ref=ps.map V.ref++[.ref p]:=by rw [List.map_append];rfl
theorem DZ (T:Txt K mg A):Rd (lF K A) (HZ K A) ["stamper", "count", "elder", "steps", "younger", "older", "top", "older_top", "step"]:=by
 intro vs H Q E h
 obtain ⟨f,b,R,Z,c,el,m,st,ps,g,n,rfl,s,hn,e1,ec,c2,hR,hZ,pl,hp,s60,em,sx,q⟩:=h
 have hm:∀ x∈st,enK x.2:=fun x hx=>(sx x hx).2
 refine ⟨Nat.zero_le _,fun Y hY=>⟨Nat.zero_le _,fun O hO=>?_⟩⟩
 have S1:ao H (upd (upd H Y (.lst [])) O (.lst [])):=(ao.upd hY).trans (ao.upd hO)
 have hY1:upd (upd H Y (.lst [])) O (.lst []) Y=some (.lst (([]:List Addr).map V.ref)):=ao.upd hO _ _ ai
 have hO1:upd (upd H Y (.lst [])) O (.lst []) O=some (.lst (([]:List Addr).map V.ref)):=ai
 have OY:O≠Y:=(bJ hO).1
 have hOn:H O=none:=(bJ hO).2
 generalize upd (upd H Y (.lst [])) O (.lst [])=H1 at S1 hY1 hO1
 have l0:Gy A H H1 f b Y O c m st 0 0 g g n [] [] [] [] m m:=⟨aG.same S1,s.same (Nat.le_refl _) S1,Sub.rfl',hY,hOn,Ne.symm OY,hY1,hO1,.nil,.nil,rfl,Nat.le_refl _,em.1,by have:=em.2;omega,em.1,by have:=em.2;omega,(fun _ h=>nomatch h),(fun _ h=>nomatch h),fun h _=>⟨rfl,rfl,rfl,rfl⟩⟩
 have hR1:=S1 _ _ hR
 refine ixT (j:=0) hR1 rfl rfl (ixT (j:=0) hR1 rfl rfl (ixT (j:=1) hR1 rfl rfl ⟨Z,rfl,.inl ⟨⟨_,SqL.of (S1 _ _ hZ)⟩,?_⟩⟩))
 have nZ:Z≠b:=s.nb hZ (fun _ z=>nomatch z) (fun _ z=>nomatch z)
 refine pv (xs:=ps.map V.ref) (fun i σ H'=>∃ (x8:Option V) (g':List Key→Option Key) (py po:List Addr) (ty to:List (List Key)) (v u:Key),σ=[some (.ref f),some (.int (c:Int)),some (.int (el:Int)),some (.ref R),some (.ref Y),some (.ref O),some (kV v),some (kV u),x8]∧Gy A H H' f b Y O c m st i i g g' n py po ty to v u)
   ⟨none,g,[],[],[],[],m,m,rfl,l0⟩ ?_ ?_ ?_
 · rintro i σ H' _ ⟨_,_,_,_,_,_,_,_,_,l⟩;exact SqL.of (l.kb _ _ nZ hZ)
 · rintro i x σ H' hx ⟨x8,g',py,po,ty,to,v,u,rfl,l⟩
   obtain ⟨pj,hpj,rfl⟩:=jV hx
   have hi:i<st.length:=by rw [← pl];exact (List.getElem?_eq_some_iff.mp hpj).1
   obtain ⟨x,hxs⟩:∃ x,st[i]?=some x:=⟨_,List.getElem?_eq_getElem hi⟩
   have hpp:=hp i pj x hpj hxs
   have npj:pj≠b:=s.nb hpp (fun _ z=>nomatch z) (fun _ z=>nomatch z)
   have hp':=l.kb _ _ npj hpp
   have en:∀ w,cK c st i w=jtT x.1 w x.2:=fun w=>by unfold cK;rw [hxs]
   have llen:=l.ly
   have lolen:=l.lo
   have plen:=ix l.ky
   have polen:=ix l.ko
   refine ⟨.inl ⟨rfl,_,SqL.of l.hY⟩,ixT (j:=0) hp' rfl rfl (ixT (j:=1) hp' rfl rfl ⟨x.1,v,x.2,rfl,fun p7 hp7=>⟨Y,_,_,rfl,rfl,ao.upd hp7 _ _ l.hY,by rw [List.length_map];exact bR (by omega),?_⟩⟩)⟩
   refine ⟨f,rfl,?_,jK ai ?_⟩
   · have hY7:upd H' p7 (.tup ((jtT x.1 v x.2).map kV)) Y=some (.lst (py.map V.ref)):=ao.upd hp7 _ _ l.hY
     exact ((l.s.same (Nat.le_refl _) (ao.upd hp7)).setL hY7).clo
   dsimp only [af]
   rw [← en v]
   refine l.young c2 hm (by omega) (by omega) (by omega) hp7 fun v' H8 g8 kx l8=>?_
   have pjY:pj≠Y:=ay hpp hY
   have hp8:=kx _ _ npj pjY hp'
   refine ixT (j:=0) hp8 rfl rfl (Sel.dec (fun h1=>?_) (fun h1=>?_))
   · have h1:x.1=1:=h1
     refine ⟨.inl ⟨rfl,_,SqL.of l8.hO⟩,ixT (j:=0) hp8 rfl rfl (ixT (j:=1) hp8 rfl rfl ⟨x.1,u,x.2,rfl,fun p9 hp9=>⟨O,_,_,rfl,rfl,ao.upd hp9 _ _ l8.hO,by rw [List.length_map];exact bR (by omega),?_⟩⟩)⟩
     refine ⟨f,rfl,?_,jK ai ?_⟩
     · have hO9:upd H8 p9 (.tup ((jtT x.1 u x.2).map kV)) O=some (.lst (po.map V.ref)):=ao.upd hp9 _ _ l8.hO
       exact ((l8.s.same (Nat.le_refl _) (ao.upd hp9)).setL hO9).clo
     dsimp only [af]
     exact l8.old hm (by omega) (by omega) (by omega) hxs h1 hp9 fun u' H10 g10 kx10 l10=>⟨_,g10,_,_,_,_,v',u',rfl,l10⟩
   · have h1:¬ x.1=1:=h1
     exact ⟨_,g8,_,_,_,_,v',u,rfl,l8.skip hxs h1⟩
 · rintro σ H' ⟨x8,g',py,po,ty,to,v,u,rfl,l⟩
   rw [List.length_map,pl] at l
   have llen:=l.ly
   have lolen:=l.lo
   have plen:=ix l.ky
   have polen:=ix l.ko
   obtain ⟨nYb,nOb⟩:=l.nb
   refine ⟨.inl ⟨rfl,_,SqL.of l.hY⟩,ax (show 3≤1000000 by decide),fun p7 hp7=>⟨Y,_,_,rfl,rfl,ao.upd hp7 _ _ l.hY,by rw [List.length_map];exact bR (by omega),?_⟩⟩
   have Y7:p7≠Y:=Ne.symm (ay l.hY hp7)
   have kx:∀ z o,z≠Y→H' z=some o→upd (upd H' p7 (.tup [.str "row",.int (c:Int),kV v])) Y (.lst (py.map V.ref++[.ref p7])) z=some o:=fun z o nz ez=>by rw [aq nz];exact ao.upd hp7 _ _ ez
   have s7:Stp A (upd (upd H' p7 (.tup [.str "row",.int (c:Int),kV v])) Y (.lst (py.map V.ref++[.ref p7]))) f b g' (n+st.length+st.length):=(l.s.same (Nat.le_refl _) (ao.upd hp7)).setL (ao.upd hp7 _ _ l.hY)
   have hp77:upd (upd H' p7 (.tup [.str "row",.int (c:Int),kV v])) Y (.lst (py.map V.ref++[.ref p7])) p7=some (.tup (([.inr "row",.inl (c:Int),v]:List Key).map kV)):=by rw [aq Y7];exact ai
   have hYY:upd (upd H' p7 (.tup [.str "row",.int (c:Int),kV v])) Y (.lst (py.map V.ref++[.ref p7])) Y=some (.lst ((py++[p7]).map V.ref)):=by rw [ai,oU]
   generalize upd (upd H' p7 (.tup [.str "row",.int (c:Int),kV v])) Y (.lst (py.map V.ref++[.ref p7]))=H7 at kx s7 hp77 hYY
   have hO7:=kx _ _ (Ne.symm l.yo) l.hO
   have kt7:∀ x xs,H' x=some (.tup xs)→H7 x=some (.tup xs):=fun x xs ex=>kx _ _ (bH ex l.hY (fun z=>nomatch z)) ex
   refine ⟨.inl ⟨rfl,_,SqL.of hO7⟩,ax (show 3≤1000000 by decide),fun p9 hp9=>⟨O,_,_,rfl,rfl,ao.upd hp9 _ _ hO7,by rw [List.length_map];exact bR (by omega),?_⟩⟩
   have O9:p9≠O:=Ne.symm (ay hO7 hp9)
   have kz:∀ z o,z≠O→H7 z=some o→upd (upd H7 p9 (.tup [.str "row",.int (el:Int),kV u])) O (.lst (po.map V.ref++[.ref p9])) z=some o:=fun z o nz ez=>by rw [aq nz];exact ao.upd hp9 _ _ ez
   have s9:Stp A (upd (upd H7 p9 (.tup [.str "row",.int (el:Int),kV u])) O (.lst (po.map V.ref++[.ref p9]))) f b g' (n+st.length+st.length):=(s7.same (Nat.le_refl _) (ao.upd hp9)).setL (ao.upd hp9 _ _ hO7)
   have hp99:upd (upd H7 p9 (.tup [.str "row",.int (el:Int),kV u])) O (.lst (po.map V.ref++[.ref p9])) p9=some (.tup (([.inr "row",.inl (el:Int),u]:List Key).map kV)):=by rw [aq O9];exact ai
   have hOO:upd (upd H7 p9 (.tup [.str "row",.int (el:Int),kV u])) O (.lst (po.map V.ref++[.ref p9])) O=some (.lst ((po++[p9]).map V.ref)):=by rw [ai,oU]
   generalize upd (upd H7 p9 (.tup [.str "row",.int (el:Int),kV u])) O (.lst (po.map V.ref++[.ref p9]))=H9 at kz s9 hp99 hOO
   have kt9:∀ x xs,H7 x=some (.tup xs)→H9 x=some (.tup xs):=fun x xs ex=>kz _ _ (bH ex hO7 (fun z=>nomatch z)) ex
   have okc:=ge c2 l.ov
   have oke:=ge (c:=el) (by omega) l.ou
   have sv:=l.sv
   have su:=l.su
   have szc:szT [.inr "row",.inl (c:Int),v]≤20000:=by rw [sz3,szW.2.2.2];show 65+(62+szK v)≤_;omega
   have sze:szT [.inr "row",.inl (el:Int),u]≤20000:=by rw [sz3,szW.2.2.2];show 65+(62+szK u)≤_;omega
   refine ⟨ax (show 2≤1000000 by decide),q Y O (py++[p7]) (po++[p9]) (ty++[[.inr "row",.inl (c:Int),v]]) (to++[[.inr "row",.inl (el:Int),u]]) g' H9 (fun z o nz ez=>kz _ _ (ay ez l.nO) (kx _ _ (ay ez l.nY) (l.kb _ _ nz ez))) (s9.same (by omega) (.refl _)) l.sub (kz _ _ l.yo hYY) hOO (dX ((l.ky.keep kt7).keep kt9) ⟨kt9 _ _ hp77,okc⟩) (dX ((l.ko.keep kt7).keep kt9) ⟨hp99,oke⟩) (by rw [List.length_append,llen];rfl) (by rw [List.length_append];show 1≤_+1;omega) (by rw [List.length_append];show _+1≤_;omega) (fun k hk=>?_) (fun k hk=>?_) fun h eh=>?_⟩
   · rcases List.mem_append.mp hk with h | h
     · exact l.sy k h
     · rw [List.mem_singleton.mp h];exact szc
   · rcases List.mem_append.mp hk with h | h
     · exact l.so k h
     · rw [List.mem_singleton.mp h];exact sze
   · obtain ⟨a1,a2,a3,a4⟩:=l.eq h eh
     refine ⟨?_,?_⟩
     · rw [iW,←a1,fk,←a2]
       unfold cK;rw [List.getElem?_eq_none (Nat.le_refl _)]
     · unfold rQ jp;rw [if_neg (by omega),if_neg (by omega),←a3,←a4]
end Rs
namespace Rs
open PySem PySem.Spec PyProof.Rows L2
variable {K:W.Frag} {mg:Str→Option Value} {A:Adr}
theorem oM : ∀ (ts : List Int) (lo hi : Nat) (ks : List Key), (dl ts lo hi ks).length = ts.length + 1
  | [], _, _, _ => rfl
  | t :: r, lo, hi, ks => by
    rw [dl]; split
    · rw [List.length_cons, oM r]; rfl
    · rw [List.length_cons, oM r]; rfl
theorem pL : ∀ (ts : List Int) (lo hi : Nat) (ks : List Key), hi = lo + ts.length + 1 → hi ≤ ks.length → ∀ x ∈ dl ts lo hi ks, ∃ k ∈ ks, x = some k
  | [], lo, hi, ks, h1, h2, x, hx => by
    rw [dl] at hx
    rw [List.mem_singleton.mp hx]
    have : lo < ks.length := by simp at h1; omega
    exact ⟨ks[lo], List.getElem_mem _, List.getElem?_eq_getElem this⟩
  | t :: r, lo, hi, ks, h1, h2, x, hx => by
    rw [List.length_cons] at h1
    rw [dl] at hx
    split at hx
    · rcases List.mem_cons.mp hx with rfl | hx
      · have : lo < ks.length := by omega
        exact ⟨ks[lo], List.getElem_mem _, List.getElem?_eq_getElem this⟩
      · exact pL r (lo + 1) hi ks (by omega) h2 x hx
    · rcases List.mem_cons.mp hx with rfl | hx
      · have : hi - 1 < ks.length := by omega
        exact ⟨ks[hi - 1], List.getElem_mem _, List.getElem?_eq_getElem this⟩
      · exact pL r lo (hi - 1) ks (by omega) (by omega) x hx
theorem gB (ts:List Int) (ks:List Key):(cR ts ks).length=ts.length+1:=by unfold cR;rw [List.length_map,oM]
theorem pd {ts:List Int} {ks:List Key} (kl:ks.length=ts.length+1):∀ k∈cR ts ks,k∈ks:=fun k hk=>by
 unfold cR at hk
 obtain ⟨x,hx,rfl⟩:=List.mem_map.mp hk
 obtain ⟨k',hk',rfl⟩:=pL ts 0 ks.length ks (by omega) (Nat.le_refl _) x hx
 exact hk'
theorem yJ {ts:List Int} {ks:List Key} (kl:ks.length=ts.length+1):inM ts ks∈ks:=by
 unfold inM
 have h:=gB ts ks
 have e:(cR ts ks)[ts.length]?=some ((cR ts ks)[ts.length]'(by omega)):=List.getElem?_eq_getElem (by omega)
 rw [e]
 exact pd kl _ (List.getElem_mem _)
theorem Bb {ts:List Int} {ks:List Key} (kl:ks.length=ts.length+1) (t01:∀ t∈ts,t=0∨t=1) (ke:∀ k∈ks,enK k):∀ x∈stG ts ks,(x.1=0∨x.1=1)∧enK x.2:=fun x hx=>⟨t01 _ (rj hx).1,ke _ (pd kl _ (rj hx).2)⟩
theorem tB {h:List Key→Key} {c:Int} {m:Key} {st:List (Int×Key)} {r:List (List Key)} {t:List Key} {k:Nat} (e:r++[t]=kh h c m st (k+1)):t=fi h c m st k:=by
 rw [iW] at e
 exact List.singleton_inj.mp (List.append_inj' e rfl).2
theorem tX {h:List Key→Key} {el:Nat} {m:Key} {st:List (Int×Key)} {r:List (List Key)} {t:List Key} (e:r++[t]=rQ h el m st):t=jp h el m st:=by
 unfold rQ at e
 exact List.singleton_inj.mp (List.append_inj' e rfl).2
theorem iY {tt:List (List Key)} (h:1≤tt.length):∃ r t,tt=r++[t]:=LadQ.last (m:=tt.length - 1) (by omega)
theorem iz (c el:Nat):(bf c el).length≤60:=pT 60 c el
theorem eG {c el:Nat} (h:1≤c):bI c el=(bf c el).length+1:=if_neg (by omega)
theorem pY {h:List Key→Key} {c el:Nat} {ks:List Key} (hc:1≤c):yT h c el ks=fi h c (inM (bf c el) ks) (stG (bf c el) ks) (bf c el).length:=if_neg (by omega)
theorem BG (K:W.Frag) (A:Adr):Ln (fB K A) 4:=by rintro vs H Q E ⟨f,b,g,n,v,w,m,d,e,k,rfl,_⟩;rfl
theorem ml {v:Key} (h:szK v≤200):∀ k∈([[.inr "void"],[.inr "row",.inl 0,v]]:List (List Key)),szT k≤20000:=fun k hk=>by
 rcases List.mem_cons.mp hk with rfl | hk
 · rw [sz1,szW.1];decide
 · rw [List.mem_singleton.mp hk,sz3,szW.2.2.2];show 65+(62+szK v)≤_;omega
theorem Ff (T : Txt K mg A) (vs : List V) (H : Hp) (Q : VK) (E : XK) (h : fB K A vs H Q E) : BB K A E { nx := fun _ H' => Q .non H', rt := Q } (L2.start ["stamper", "count", "elder", "marks", "turns", "younger"] vs) H := by
  obtain ⟨f, b, g, n, v, w, m, d, e, k, rfl, a, hd, q1, q2⟩ := h
  refine ⟨v, d, w, e, rfl, hd, a.he, ?_⟩
  cases hE : aW d e with
  | false => exact Sel.t (q1 hE)
  | true =>
    refine Sel.f ?_
    obtain ⟨c, el, rfl, rfl, ec, c2⟩ := gF hE
    cases hd.int_inv
    cases a.he.int_inv
    have q3 := q2 c el rfl rfl ec c2
    refine ⟨c, el, rfl, ec, by omega, fun W hWn => ?_⟩
    have S1 : ao H (upd H W (.lst ((bf c el).map V.int))) := ao.upd hWn
    have hW : upd H W (.lst ((bf c el).map V.int)) W = some (.lst ((bf c el).map V.int)) := ai
    generalize upd H W (.lst ((bf c el).map V.int)) = H1 at S1 hW
    have hn := a.hn
    have wm1 := a.hm.mono S1
    have go : ∀ H2, ao H1 H2 → ∀ ks, eS k (bI c el) ks → GTQ A f b c el ks g n H Q → ur K A E { nx := fun _ H' => Q .non H', rt := Q } [some (.ref f), some (.int (c : Int)), some (.int (el : Int)), some m, some (.ref W), none] H2 := fun H2 S2 ks M gq => by
      have S12 := S1.trans S2
      obtain ⟨P, rfl, hP⟩ := M.at a.hm
      have hP2 := S12 _ _ hP
      have s2 := a.s.same (Nat.le_refl _) S12
      have tl := iz c el
      have t01 := pB 60 c el
      have W2 := S2 _ _ hW
      refine Sel.dec (fun h => ?_) (fun h => ?_)
      · have e0 : el = 0 := by have h : (el : Int) = 0 := h; omega
        subst e0
        have ets : bf c 0 = [] := dy (.inl rfl)
        refine Sel.dec (fun hc => ?_) (fun hc => ?_)
        · have c0 : c = 0 := by have hc : (c : Int) = 0 := hc; omega
          subst c0
          refine ⟨f, b, g, n, rfl, s2, by omega, fun Y py vy g3 H3 kb3 s3 sub3 gv3 ok3 sz3' hY pk3 fr3 => ?_⟩
          refine ⟨f, b, g3, n + 1, rfl, s3, by omega, fun O po vo g4 H4 kb4 s4 sub4 gv4 ok4 sz4 hO pk4 fr4 => ⟨ax (show 2 ≤ 1000000 by decide), ?_⟩⟩
          have ev : vy = vo := Option.some.inj ((sub4 _ _ gv3).symm.trans gv4)
          subst ev
          refine gq Y O py po _ _ g4 H4 ((aG.same S12).trans (kb3.trans kb4)) (s4.same (by omega) (.refl _)) (sub3.trans sub4) (kb4.obj s3.bb hY (fun _ z => nomatch z)) hO (fun _ => ⟨ay hY fr4, S12.free fr3⟩) (pk3.keep (aG.tup s3 kb4)) pk4 (ml sz3') (ml sz3') fun h eh => ?_
          have eh := eh _ _ gv4
          refine ⟨⟨[[.inr "void"]], ?_⟩, ⟨[[.inr "void"]], ?_⟩, fun _ => ⟨by rw [eh], by rw [eh]⟩⟩
          · unfold yT; rw [if_pos rfl, eh]; rfl
          · unfold oT jp; rw [if_pos rfl, eh]; rfl
        · have c1 : 1 ≤ c := by have hc : ¬ (c : Int) = 0 := hc; omega
          have kl := M.l
          rw [eG c1, ets] at kl
          have k1 : ks.length = 1 := kl
          obtain ⟨x, hm⟩ : ∃ x, ks[0]? = some x := ⟨_, List.getElem?_eq_getElem (by omega)⟩
          have em : inM [] ks = x := by
            unfold inM cR dl
            rw [hm]; rfl
          have enm := M.en x (List.mem_of_getElem? hm)
          refine ixT (j := 0) hP2 rfl (by rw [List.getElem?_map, hm]; rfl) ⟨ax (show 3 ≤ 1000000 by decide), fun p1 hp1 => ⟨ax (show 1 ≤ 1000000 by decide), fun Y hY => ?_⟩⟩
          have S3 : ao H2 (upd (upd H2 p1 (.tup [.str "row", .int (c : Int), kV x])) Y (.lst [.ref p1])) := (ao.upd hp1).trans (ao.upd hY)
          have hY3 : upd (upd H2 p1 (.tup [.str "row", .int (c : Int), kV x])) Y (.lst [.ref p1]) Y = some (.lst (([p1] : List Addr).map V.ref)) := ai
          have hp3 : upd (upd H2 p1 (.tup [.str "row", .int (c : Int), kV x])) Y (.lst [.ref p1]) p1 = some (.tup (([.inr "row", .inl (c : Int), x] : List Key).map kV)) := ao.upd hY _ _ ai
          generalize upd (upd H2 p1 (.tup [.str "row", .int (c : Int), kV x])) Y (.lst [.ref p1]) = H3 at S3 hY3 hp3
          have s3 := s2.same (Nat.le_refl _) S3
          refine ⟨f, b, g, n, rfl, s3, by omega, fun O po v g4 H4 kb4 s4 sub4 gv okv svo hO pk fr => ⟨ax (show 2 ≤ 1000000 by decide), ?_⟩⟩
          refine gq Y O [p1] po [[.inr "row", .inl (c : Int), x]] _ g4 H4 ((aG.same (S12.trans S3)).trans kb4) (s4.same (by omega) (.refl _)) sub4 (kb4.obj s3.bb hY3 (fun _ z => nomatch z)) hO (fun z => by omega) (.cons ⟨kb4.obj s3.bb hp3 (fun _ z => nomatch z), ge c2 enm.1⟩ .nil) pk (fun k hk => ?_) (ml svo) fun h eh => ?_
          · rw [List.mem_singleton.mp hk, sz3, szW.2.2.2]; show 65 + (62 + szK x) ≤ _; have := enm.2; omega
          · refine ⟨⟨[], ?_⟩, ⟨[[.inr "void"]], ?_⟩, fun z => by omega⟩
            · rw [pY c1, ets, em]; rfl
            · unfold oT jp; rw [if_pos rfl, eh _ _ gv]; rfl
      · have e0 : 1 ≤ el := by have h : ¬ (el : Int) = 0 := h; omega
        have c1 : 1 ≤ c := by omega
        have kl : ks.length = (bf c el).length + 1 := by rw [M.l, eG c1]
        refine ⟨W, P, bf c el, ks, rfl, W2, hP2, kl, tl, t01, fun R Z ps H3 S3 hR hZ pl hp => ?_⟩
        have S13 := S12.trans S3
        have slen : (stG (bf c el) ks).length = (bf c el).length := iT (gB _ ks)
        refine ⟨f, b, R, Z, c, el, inM (bf c el) ks, stG (bf c el) ks, ps, g, n, rfl, s2.same (Nat.le_refl _) S3, hn, e0, ec, c2, hR, hZ, by rw [slen]; exact pl, hp, by omega, M.en _ (yJ kl), Bb kl t01 M.en, ?_⟩
        intro Y O py po ty to g' H' kb' s' sub' hY hO ky ko ly l1 l70 sy so eq
        refine gq Y O py po ty to g' H' ((aG.same S13).trans kb') s' sub' hY hO (fun z => by omega) ky ko sy so fun h eh => ?_
        obtain ⟨r1, t1, e1⟩ := iY (tt := ty) (by omega)
        obtain ⟨r2, t2, e2⟩ := iY (tt := to) l1
        obtain ⟨q1, q2⟩ := eq h eh
        refine ⟨⟨r1, ?_⟩, ⟨r2, ?_⟩, fun z => by omega⟩
        · rw [slen, e1] at q1; rw [e1, pY c1, tB q1]
        · rw [e2] at q2; rw [e2, tX q2]; rfl
    have fin : ∀ H2, ao H1 H2 → Sel (!cx (bI c el : Nat) k) (E (.ref A.c_NoPaper) none H2) (ur K A E { nx := fun _ H' => Q .non H', rt := Q } [some (.ref f), some (.int (c : Int)), some (.int (el : Int)), some m, some (.ref W), none] H2) := fun H2 S2 => by
      rcases q3 with ⟨hb, qE⟩ | ⟨ks, M, gq⟩
      · rw [hb]; exact Sel.t (qE H2 (S1.trans S2))
      · rw [M.yes]; exact Sel.f (go H2 S2 ks M gq)
    refine Sel.dec (fun hc => ?_) (fun hc => ?_)
    · have c0 : c = 0 := by have hc : (c : Int) = 0 := hc; omega
      have em : ((bI c el : Nat) : Int) = 0 := by subst c0; rfl
      rw [em] at fin
      exact ⟨0, m, k, rfl, wm1, a.sh, fin⟩
    · have c1 : 1 ≤ c := by have hc : ¬ (c : Int) = 0 := hc; omega
      refine .inl (.inl ⟨_, SqL.of hW, ?_⟩)
      have em : ((bI c el : Nat) : Int) = (((bf c el).map V.int).length : Int) + 1 := by rw [eG c1, List.length_map]; rfl
      rw [em] at fin
      exact ⟨_, m, k, rfl, wm1, a.sh, fin⟩
end Rs
namespace Rs
open PySem PySem.Spec PyProof.Rows L2
variable {K:W.Frag} {mg:Str→Option Value} {A:Adr}
theorem Dv (K:W.Frag) (A:Adr):Ln (jZ K A) 4:=by rintro vs H Q E ⟨f,b,g,n,v,w,m,d,e,k,rfl,_⟩;rfl
theorem yF {H : Hp} {v : V} {c : Nat} {mk : Key} (w : aJ H v (.tup [.int (c : Int), bX mk])) : ∃ hd, v = .ref hd ∧ H hd = some (.tup [.int (c : Int), kV mk]) := by
  cases w with
  | tup e r =>
    have := im (ks := [.inl (c : Int), mk]) r
    subst this
    exact ⟨_, rfl, e⟩
theorem wn {c:Nat} {mk:Key} (h:c<2^60) (ok:okP mk=true):cN (.tup [.int (c:Int),bX mk])=true:=by
 show (bv (.int (c:Int))&&bo (bX mk))=true
 rw [pI (by omega) (by omega),jx ok];rfl
theorem Fp (T:Txt K mg A) (vs:List V) (H:Hp) (Q:VK) (E:XK) (h:jZ K A vs H Q E):Dk K A E { nx:=fun _ H'=>Q .non H',rt:=Q } (L2.start ["stamper", "head", "elder", "marks", "terms", "came"] vs) H:=by
 obtain ⟨f,b,g,n,v,w,m,d,e,k,rfl,a,hd,q⟩:=h
 rcases q with ⟨hF,qE⟩ | ⟨c,mk,rfl,c2,okm,qP,q2⟩
 · exact ⟨v,d,rfl,hd,fun z=>(by rw [hF] at z;cases z),fun _=>qE⟩
 refine ⟨v,_,rfl,hd,fun _=>?_,fun z=>by rw [wn c2 okm] at z;cases z⟩
 obtain ⟨hp,rfl,hh⟩:=yF hd
 have hn:=a.hn
 refine ixT (j:=0) hh rfl rfl ?_
 refine ⟨f,b,g,n,.int (c:Int),w,m,.int (c:Int),e,k,rfl,a,.int _,qP,fun c' el ec ee le _=>?_⟩
 have ecc:c'=c:=by
   have:(c:Int)=(c':Int):=by injection ec
   omega
 subst ecc
 rcases q2 el ee le with ⟨hb,qE⟩ | ⟨ks,M,q⟩
 · exact .inl ⟨hb,qE⟩
 refine .inr ⟨ks,M,fun Y O py po ty to g1 H1 kb1 s1 sub1 hY hO _ ky ko sy so eq p hp'=>?_⟩
 obtain ⟨h0,eh0⟩:∃ h,Ext g1 h:=⟨_,Ext.refl' g1⟩
 obtain ⟨⟨ry0,ey0⟩,⟨ro0,eo0⟩,_⟩:=eq h0 eh0
 obtain ⟨ry,t,rfl⟩:=iY (tt:=ty) (by rw [ey0];simp)
 obtain ⟨ro,t2,rfl⟩:=iY (tt:=to) (by rw [eo0];simp)
 have eqt:∀ h,Ext g1 h→t=yT h c' el ks∧t2=oT h c' el ks:=fun h eh=>by
   obtain ⟨⟨r1,e1⟩,⟨r2,e2⟩,_⟩:=eq h eh
   exact ⟨List.singleton_inj.mp (List.append_inj' e1 rfl).2,List.singleton_inj.mp (List.append_inj' e2 rfl).2⟩
 obtain ⟨qy,py1,rfl,ky'⟩:=oS ky
 obtain ⟨qo,po1,rfl,ko'⟩:=oS ko
 obtain ⟨hpy,oky⟩:=mC (qL ky') ky'
 obtain ⟨hpo,oko⟩:=mC (qL ko') ko'
 have S2:=ao.upd (o:=.tup [.ref Y,.ref O]) hp'
 have s2:=s1.same (Nat.le_refl _) S2
 have hT2:upd H1 p (.tup [.ref Y,.ref O]) p=some (.tup [.ref Y,.ref O]):=ai
 have hY2:=S2 _ _ hY
 have hO2:=S2 _ _ hO
 have hpy2:=S2 _ _ hpy
 have hpo2:=S2 _ _ hpo
 have hh2:=S2 _ _ (kb1.obj a.s.bb hh (fun _ z=>nomatch z))
 generalize upd H1 p (.tup [.ref Y,.ref O])=H2 at S2 s2 hT2 hY2 hO2 hpy2 hpo2 hh2
 rw [List.map_append] at hY2 hO2
 refine ⟨f,rfl,s2.clo,ixT (j:=0) hT2 rfl rfl (jK hY2 ?_)⟩
 dsimp only [af]
 refine dn s2 (by omega) hpy2 oky fun w H3 g3 kb3 s3 sub3 gv st3=>?_
 have szt:=sy t (by simp)
 obtain ⟨q1,q2⟩:=q w g3 H3 ((kb1.trans (aG.same S2)).trans kb3) s3 (sub1.trans sub3) (dE st3 (by omega)) (fun h eh=>by
   rw [← (eqt h (Ext.of sub3 eh)).1,eh _ _ gv])
 have hh3:=kb3.obj s2.bb hh2 (fun _ z=>nomatch z)
 refine ixT (j:=1) hh3 rfl rfl (jE ?_)
 by_cases ewm:w=mk
 · refine Sel.no (by rw [decide_eq_true ewm];rfl) ?_
   refine ⟨f,rfl,s3.clo,ixT (j:=1) (kb3.obj s2.bb hT2 (fun _ z=>nomatch z)) rfl rfl (jK (kb3.obj s2.bb hO2 (fun _ z=>nomatch z)) ?_)⟩
   dsimp only [af]
   refine dn s3 (by omega) (kb3.obj s2.bb hpo2 (fun _ z=>nomatch z)) oko fun u H4 g4 kb4 s4 sub4 gu st4=>?_
   exact q1 ewm u g4 H4 kb4 s4 sub4 fun h eh=>by
     rw [← (eqt h (Ext.of sub3 (Ext.of sub4 eh))).2,eh _ _ gu]
 · refine Sel.yes (by rw [decide_eq_false ewm];rfl) ?_
   refine ixT (j:=1) hh3 rfl rfl fun a ha=>⟨a,kV mk,kV w,rfl,ai,fun dx hdx=>⟨rfl,some dx,?_,?_⟩⟩
   · obtain ⟨nd,_⟩:=bJ hdx
     rw [aq (Ne.symm nd),aq (Ne.symm nd)];exact ai
   · obtain ⟨nd,hd0⟩:=bJ hdx
     refine q2 ewm dx _ (fun z o ez=>?_)
     have na:=ay ez ha
     have nz:=ay ez hd0
     rw [eI na,aq nz,aq nz,aq na,aq na];exact ez
end Rs
namespace Rs
open PySem PySem.Spec PyProof.Rows L2
variable {K:W.Frag} {mg:Str→Option Value} {A:Adr}
theorem eoE (T:Txt K mg A):∀ i:Nat,i<4→bV K (cE A i)
 | 0,_=>T.eo_NoHead
 | 1,_=>T.eo_NoPlace
 | 2,_=>T.eo_NoPaper
 | 3,_=>T.eo_Broken
 | i+4,h=>absurd h (by omega)
theorem egE (T:Txt K mg A):∀ i:Nat,i<4→cZ K (cE A i)
 | 0,_=>T.eg_NoHead
 | 1,_=>T.eg_NoPlace
 | 2,_=>T.eg_NoPaper
 | 3,_=>T.eg_Broken
 | i+4,h=>absurd h (by omega)
theorem sbE (T:Txt K mg A):∀ i:Nat,i<4→eZ K (cE A i) A.c_StampError=some true
 | 0,_=>T.sb_NoHead_StampError
 | 1,_=>T.sb_NoPlace_StampError
 | 2,_=>T.sb_NoPaper_StampError
 | 3,_=>T.sb_Broken_StampError
 | i+4,h=>absurd h (by omega)
theorem dA {a b:Nat} (h:Dat.int (a:Int)=Dat.int (b:Int)):b=a:=by
 have:(a:Int)=(b:Int):=by injection h
 omega
theorem BV (K:W.Frag) (A:Adr):Ln (iI K A) 5:=by rintro vs H Q E ⟨what,f,b,g,n,v,w,m,d,e,k,o,rfl,_⟩;rfl
theorem Ee (T : Txt K mg A) : Rd (iI K A) (Hm K A) ["_law_what", "_law_stamper_here", "_law_top", "_law_elder", "_law_marks", "_law_caught_here", "e"] := by
  intro vs H Q E h
  obtain ⟨what, f, b, g, n, v, w, m, d, e, k, o, rfl, a, hd, due, q⟩ := h
  have cau : ∀ i, i < 4 → o = some i → ∀ (dd : Option Addr) (H1 : Hp), aG b H H1 → (∃ g1, Stp A H1 f b g1 (n + 132) ∧ Sub g g1) →
      hAs K A.c_StampError 6 (aA (ad 6) (aw 5)) lL { nx := aD (ad 5) { nx := fun _ H' => Q .non H', rt := Q }, rt := Q } [some (.int what), some (.ref f), some v, some w, some m, some .non, none] (cE A i) dd H1 := fun i hi eo dd H1 kb ⟨g1, s1, sub1⟩ => by
    refine ⟨true, sbE T i hi, Sel.t fun ah hah => ?_⟩
    refine q (.ref ah) g1 _ (kb.trans (aG.same (ao.upd hah))) (s1.same (Nat.le_refl _) (ao.upd hah)) sub1 ?_
    rw [eo]
    exact ⟨hi, ah, dd, rfl, ai⟩
  have s0 := a.s.same (m := n + 132) (by omega) (.refl H)
  have at0 : ∃ g1, Stp A H f b g1 (n + 132) ∧ Sub g g1 := ⟨g, s0, Sub.rfl'⟩
  have atS : ∀ H', ao H H' → ∃ g1, Stp A H' f b g1 (n + 132) ∧ Sub g g1 := fun H' S => ⟨g, s0.same (Nat.le_refl _) S, Sub.rfl'⟩
  rcases due with ⟨rfl, due⟩ | ⟨rfl, due⟩
  · refine Sel.yes rfl ⟨f, b, g, n, v, w, m, d, e, k, rfl, a, hd, ?_⟩
    cases due with
    | place h =>
      refine ⟨fun _ => ⟨_, rfl, eoE T 1 (by decide), cau 1 (by decide) rfl none H aG.rfl' at0⟩, fun c el h1 h2 h3 h4 => ?_⟩
      rw [h1, h2, cT h3 h4] at h; cases h
    | paper c el h1 h2 h3 h4 h =>
      subst h1 h2
      refine ⟨fun z => (by rw [cT h3 h4] at z; cases z), fun c' el' e1 e2 _ _ => .inl ?_⟩
      cases dA e1
      cases dA e2
      exact ⟨h, fun H' S => ⟨_, rfl, eoE T 2 (by decide), cau 2 (by decide) rfl none H' (aG.same S) (atS H' S)⟩⟩
    | good c el ks h1 h2 h3 h4 h =>
      subst h1 h2
      refine ⟨fun z => (by rw [cT h3 h4] at z; cases z), fun c' el' e1 e2 _ _ => .inr ?_⟩
      cases dA e1
      cases dA e2
      refine ⟨ks, h, fun Y O py po ty to g1 H1 kb1 s1 sub1 hY hO _ ky ko sy so eq p hp => ?_⟩
      exact q .non g1 _ (kb1.trans (aG.same (ao.upd hp))) (s1.same (by omega) (ao.upd hp)) sub1 rfl
  · refine Sel.no rfl ⟨f, b, g, n, v, w, m, d, e, k, rfl, a, hd, ?_⟩
    cases due with
    | head h => exact .inl ⟨h, _, rfl, eoE T 0 (by decide), cau 0 (by decide) rfl none H aG.rfl' at0⟩
    | place c mk h1 h2 ok h =>
      refine .inr ⟨c, mk, h1, h2, ok, fun _ => ⟨_, rfl, eoE T 1 (by decide), cau 1 (by decide) rfl none H aG.rfl' at0⟩, fun el e2 h3 => ?_⟩
      rw [e2, cT h3 h2] at h; cases h
    | paper c el mk h1 h2 ok he h3 h =>
      subst he
      refine .inr ⟨c, mk, h1, h2, ok, fun z => (by rw [cT h3 h2] at z; cases z), fun el' e2 _ => .inl ?_⟩
      cases dA e2
      exact ⟨h, fun H' S => ⟨_, rfl, eoE T 2 (by decide), cau 2 (by decide) rfl none H' (aG.same S) (atS H' S)⟩⟩
    | good c el mk tm ks h1 h2 ok he h3 h ht =>
      subst he
      refine .inr ⟨c, mk, h1, h2, ok, fun z => (by rw [cT h3 h2] at z; cases z), fun el' e2 _ => .inr ?_⟩
      cases dA e2
      refine ⟨ks, h, fun w1 g1 H1 kb1 s1 sub1 okw ew => ?_⟩
      have etm : w1 = tm := by rw [ew _ (Ext.refl' g1), ← ht _ (Ext.of sub1 (Ext.refl' g1))]
      subst etm
      refine ⟨fun ee u g2 H2 kb2 s2 sub2 _ => ?_, fun ne dx H2 S2 => ⟨_, rfl, eoE T 3 (by decide), ?_⟩⟩
      · refine q .non g2 _ (kb1.trans kb2) s2 (sub1.trans sub2) ?_
        rw [if_pos ee]; rfl
      · exact cau 3 (by decide) (if_neg ne) (some dx) H2 (kb1.trans (aG.same S2)) ⟨g1, s1.same (by omega) S2, sub1⟩
theorem qr {bs : List Bool} {i : Nat} (h : ∀ b ∈ bs.take i, b = false) (hb : bs[i]? = some true) : eX bs = some i := by
  induction bs generalizing i with
  | nil => cases hb
  | cons b r ih =>
    cases i with
    | zero => cases hb; rfl
    | succ i =>
      have e : b = false := h b (by simp)
      subst e
      have := ih (i := i) (fun b hb => h b (by rw [List.take_succ_cons]; exact List.mem_cons_of_mem _ hb)) hb
      show (eX r).map (· + 1) = _
      rw [this]; rfl
theorem qj {bs : List Bool} (h : ∀ b ∈ bs, b = false) : eX bs = none := by
  induction bs with
  | nil => rfl
  | cons b r ih =>
    have e : b = false := h b List.mem_cons_self
    subst e
    show (eX r).map (· + 1) = _
    rw [ih fun b hb => h b (List.mem_cons_of_mem _ hb)]; rfl
theorem AU (K:W.Frag) (A:Adr):Ln (gK K A) 1:=by rintro vs H Q E ⟨L,bs,rfl,_⟩;rfl
theorem Ge (T : Txt K mg A) : Rd (gK K A) (HQ K A) ["_law_flags", "_law_k"] := by
  intro vs H Q E h
  obtain ⟨L, bs, rfl, hL, hl, q⟩ := h
  refine .inl (.inl ⟨_, SqL.of hL, ?_⟩)
  rw [List.length_map]
  refine ⟨(bs.length : Int), rfl, by omega, by omega, ?_⟩
  rw [Int.toNat_natCast]
  refine ju (lo := 0) (n := bs.length) (fun i σ H' => H' = H ∧ (∃ x1, σ = [some (.ref L), x1]) ∧ ∀ b ∈ bs.take i, b = false) ⟨rfl, ⟨none, rfl⟩, fun b hb => by cases hb⟩ ?_ ?_
  · rintro i σ _ hi ⟨rfl, ⟨x1, rfl⟩, hf⟩
    obtain ⟨b, hb⟩ : ∃ b, bs[i]? = some b := ⟨_, List.getElem?_eq_getElem hi⟩
    refine ixL (j := i) hL (by omega) (by rw [List.getElem?_map, hb]; rfl) ?_
    cases b with
    | true =>
      refine Sel.t ?_
      have e := qr hf hb
      rw [e] at q
      show Q (.int (0 + (i : Int))) _
      rw [Int.zero_add]; exact q
    | false =>
      refine Sel.f ⟨rfl, ⟨_, rfl⟩, fun b hb' => ?_⟩
      rw [List.take_add_one, hb] at hb'
      rcases List.mem_append.mp hb' with z | z
      · exact hf b z
      · exact List.mem_singleton.mp z
  · rintro σ _ ⟨rfl, ⟨x1, rfl⟩, hf⟩
    rw [List.take_length] at hf
    rw [qj hf] at q
    exact q
theorem jl {K:W.Frag} {H:Hp}:∀ bs:List Bool,DatVs K H (bs.map V.bl) (bs.map PyData.bool)
 | []=> .nil
 | b::r=> .cons (.bl b) (jl r)
theorem ls : ∀ bs : List Bool, PyData.eqvAll (bs.map PyData.bool) (bs.map PyData.bool) = true
  | [] => rfl
  | b :: r => by
    show (PyData.eqv (.bool b) (.bool b) && PyData.eqvAll (r.map PyData.bool) (r.map PyData.bool)) = true
    rw [ls r]
    cases b <;> rfl
theorem iG:∀ bs:List Bool,(PyData.list (bs.map PyData.bool)).canLay0=true
 | []=>rfl
 | b::r=>iG r
theorem jA:∀ bs:List Bool,PyData.depthAll (bs.map PyData.bool)=0
 | []=>rfl
 | b::r=>by show max 0 (PyData.depthAll (r.map PyData.bool))=0;rw [jA r];rfl
theorem yP {H:Hp} {Q:VK} {p r:Addr} {bs:List Bool} (hp:H p=some (.lst (bs.map V.bl))) (hr:H r=some (.lst (bs.map V.bl))) (q:Q (.bl true) H):bu K (.ref p) (.ref r) H Q:=by
 refine .inr (.inl ⟨_,_,.lst (SqL.of hp) (jl bs),.lst (SqL.of hr) (jl bs),iG bs,iG bs,?_,?_⟩)
 · show PyData.depthAll (bs.map PyData.bool)+1≤150
   rw [jA];decide
 · have e:(PyData.list (bs.map PyData.bool)).eqv (PyData.list (bs.map PyData.bool))=true:=ls bs
   rw [e];exact q
theorem GZ (T:Txt K mg A):∀ i:Nat,i<4→W.kitOne K (.ref (cE A i)) (.ref A.c_NoHead)=some (decide (i=0))
 | 0,_=>T.ki_NoHead_NoHead
 | 1,_=>T.ki_NoPlace_NoHead
 | 2,_=>T.ki_NoPaper_NoHead
 | 3,_=>T.ki_Broken_NoHead
 | i+4,h=>absurd h (by omega)
theorem HI (T:Txt K mg A):∀ i:Nat,i<4→W.kitOne K (.ref (cE A i)) (.ref A.c_NoPlace)=some (decide (i=1))
 | 0,_=>T.ki_NoHead_NoPlace
 | 1,_=>T.ki_NoPlace_NoPlace
 | 2,_=>T.ki_NoPaper_NoPlace
 | 3,_=>T.ki_Broken_NoPlace
 | i+4,h=>absurd h (by omega)
theorem HE (T:Txt K mg A):∀ i:Nat,i<4→W.kitOne K (.ref (cE A i)) (.ref A.c_NoPaper)=some (decide (i=2))
 | 0,_=>T.ki_NoHead_NoPaper
 | 1,_=>T.ki_NoPlace_NoPaper
 | 2,_=>T.ki_NoPaper_NoPaper
 | 3,_=>T.ki_Broken_NoPaper
 | i+4,h=>absurd h (by omega)
theorem HK (T:Txt K mg A):∀ i:Nat,i<4→W.kitOne K (.ref (cE A i)) (.ref A.c_Broken)=some (decide (i=3))
 | 0,_=>T.ki_NoHead_Broken
 | 1,_=>T.ki_NoPlace_Broken
 | 2,_=>T.ki_NoPaper_Broken
 | 3,_=>T.ki_Broken_Broken
 | i+4,h=>absurd h (by omega)
theorem Hd (T:Txt K mg A):∀ i:Nat,i<4→W.kitOne K (.ref (cE A i)) (.ref A.c_NoStamp)=some false
 | 0,_=>T.ki_NoHead_NoStamp
 | 1,_=>T.ki_NoPlace_NoStamp
 | 2,_=>T.ki_NoPaper_NoStamp
 | 3,_=>T.ki_Broken_NoStamp
 | i+4,h=>absurd h (by omega)
theorem IM (T:Txt K mg A):∀ i:Nat,i<4→W.kitOne K (.ref (cE A i)) (.type "ValueError")=some true
 | 0,_=>T.ki_NoHead_ValueError
 | 1,_=>T.ki_NoPlace_ValueError
 | 2,_=>T.ki_NoPaper_ValueError
 | 3,_=>T.ki_Broken_ValueError
 | i+4,h=>absurd h (by omega)
def kdL (i n:Nat):List Bool:=(List.range n).map fun j=>decide (j=i)||decide (j=5)
theorem Ag (K:W.Frag) (A:Adr):Ln (fG K A) 2:=by rintro vs H Q E ⟨v,o,rfl,_⟩;rfl
theorem DB (T : Txt K mg A) : Rd (fG K A) (GX K A) ["_law_caught_here", "_law_number", "_law_kinds"] := by
  intro vs H Q E h
  obtain ⟨v, o, rfl, c, q⟩ := h
  cases o with
  | none =>
    cases (show v = .non from c)
    exact Sel.yes rfl (q H (.refl H))
  | some i =>
    obtain ⟨lt, a, d, rfl, ha⟩ := c
    have hC := eoE T i lt
    have hG := egE T i lt
    refine Sel.no (decide_eq_false (by show ¬ (i : Int) < 0; omega)) ?_
    refine ⟨a, _, _, _, _, _, rfl, ha, hC, hG, rfl, fun _ e => e, GZ T i lt, a, _, _, _, _, _, rfl, ha, hC, hG, rfl, fun _ e => e, HI T i lt, a, _, _, _, _, _, rfl, ha, hC, hG, rfl, fun _ e => e, HE T i lt, ax (show 3 ≤ 1000000 by decide), fun p1 h1 => ?_⟩
    have ha1 : ∀ xs, upd H p1 (.lst xs) a = some (kP (cE A i) d a) := fun xs => ao.upd h1 _ _ ha
    refine ⟨a, _, _, _, _, _, rfl, ha1 _, hC, hG, rfl, fun _ e => e, HK T i lt, a, _, _, _, _, _, rfl, ha1 _, hC, hG, rfl, fun _ e => e, Hd T i lt, a, _, _, _, _, _, rfl, ha1 _, hC, hG, rfl, fun _ e => e, IM T i lt, ax (show 3 ≤ 1000000 by decide), fun p2 h2 => ?_⟩
    have n12 : p1 ≠ p2 := ay ai h2
    refine .inl ⟨p1, p2, _, _, rfl, rfl, by rw [aq n12]; exact ai, ai, ax (by exact (show 6 ≤ 1000000 by decide)), fun p3 h3 => ?_⟩
    have S3 := (ao.upd (o := .lst [V.bl (decide (i = 0)), .bl (decide (i = 1)), .bl (decide (i = 2))]) h1).trans ((ao.upd (o := .lst [V.bl (decide (i = 3)), .bl false, .bl true]) h2).trans (ao.upd (o := .lst ((kdL i 6).map V.bl)) h3))
    have e6 : ([V.bl (decide (i = 0)), .bl (decide (i = 1)), .bl (decide (i = 2))] ++ [V.bl (decide (i = 3)), .bl false, .bl true]) = (kdL i 6).map V.bl := by
      have : i = 0 ∨ i = 1 ∨ i = 2 ∨ i = 3 := by omega
      rcases this with rfl | rfl | rfl | rfl <;> rfl
    rw [e6]
    have hp3 : upd (upd (upd H p1 (.lst [V.bl (decide (i = 0)), .bl (decide (i = 1)), .bl (decide (i = 2))])) p2 (.lst [V.bl (decide (i = 3)), .bl false, .bl true])) p3 (.lst ((kdL i 6).map V.bl)) p3 = some (.lst ((kdL i 6).map V.bl)) := ai
    generalize upd (upd (upd H p1 (.lst [V.bl (decide (i = 0)), .bl (decide (i = 1)), .bl (decide (i = 2))])) p2 (.lst [V.bl (decide (i = 3)), .bl false, .bl true])) p3 (.lst ((kdL i 6).map V.bl)) = H3 at S3 hp3
    refine ⟨6, rfl, by decide, by decide, fun D hD => eQ (dQ.range (lo := 0) (n := 6)) (fun j ys H' => H' = upd H3 D (.lst ys) ∧ ys = (kdL i j).map V.bl) (fun _ _ _ _ _ => trivial) ⟨rfl, rfl⟩ ?_ ?_⟩
    · rintro j ys H' hj ⟨rfl, rfl⟩
      have hyl : ((kdL i j).map V.bl).length = j := by unfold kdL; simp
      have fin : ∀ bb : Bool, bb = (decide (j = i) || decide (j = 5)) → upd H3 D (.lst ((kdL i j).map V.bl)) D = some (.lst ((kdL i j).map V.bl)) ∧ ((kdL i j).map V.bl).length < sizeLine ∧ ∃ m', m' < 6 - j ∧ CWd 6 (fun j ys H' => H' = upd H3 D (.lst ys) ∧ ys = (kdL i j).map V.bl) (j + 1) m' ((kdL i j).map V.bl ++ [.bl bb]) (upd (upd H3 D (.lst ((kdL i j).map V.bl))) D (.lst ((kdL i j).map V.bl ++ [.bl bb]))) := fun bb e => by
        refine ⟨ai, by rw [hyl]; exact bR (by omega), CWd.next hj ⟨by rw [eR], ?_⟩⟩
        unfold kdL
        rw [List.range_succ, List.map_append, List.map_append, e]; rfl
      by_cases e1 : j = i
      · exact iB (Sel.yes (decide_eq_true (by show (0 : Int) + (j : Int) = (i : Int); omega)) (fin true (by rw [decide_eq_true e1]; rfl)))
      · refine iB (Sel.no (decide_eq_false (by show ¬ (0 : Int) + (j : Int) = (i : Int); omega)) (fin (decide ((0 : Int) + (j : Int) = 5)) ?_))
        rw [decide_eq_false e1, Bool.false_or]
        by_cases e5 : j = 5
        · rw [decide_eq_true e5, decide_eq_true (by omega)]
        · rw [decide_eq_false e5, decide_eq_false (by omega)]
    · rintro ys H' ⟨rfl, rfl⟩
      refine yP (ao.upd hD _ _ hp3) ai (q _ (S3.trans (ao.upd hD)))
end Rs
namespace Rs
open PySem PySem.Spec PyProof.Rows L2
variable {K:W.Frag} {mg:Str→Option Value} {A:Adr}
theorem gc {i:Int} (h:i<0∨2^60≤i):bv (.int i)=false:=decide_eq_false (by omega)
theorem iq {c i:Int} (h:i<0∨c<i):aW (.int c) (.int i)=false:=by
 unfold aW
 have:decide (0≤i∧i≤c)=false:=decide_eq_false (by omega)
 show (_&&decide (0≤i∧i≤c))=false
 rw [this,Bool.and_false]
theorem cr {c:Dat} {e:Dat} (h:gy e=false):aW c e=false:=by unfold aW;rw [h,Bool.and_false,Bool.false_and]
theorem qN {i:Int} (h:i<0∨10^60≤i):bo (.int i)=false:=decide_eq_false (by omega)
theorem mB {i:Int} (h0:0≤i) (h1:i<2^60):i.natAbs.log2<1920:=by
 have e:i.natAbs<2^60:=by omega
 by_cases z:i.natAbs=0
 · rw [z];decide
 · have:=(Nat.log2_lt z).mpr e;omega
theorem AI (K:W.Frag) (A:Adr):Ln (oG K A) 2:=by rintro vs H Q E ⟨z,c,rfl,_⟩;rfl
theorem Er (T:Txt K mg A):Rd (oG K A) (HV K A) ["_law_cell", "_law_count", "_law_some"]:=by
 intro vs H Q E h
 obtain ⟨z,c,rfl,c2,q⟩:=h
 refine ⟨mB (by omega) (by omega),⟨by decide,by decide,by decide⟩,⟨by decide,by decide,by decide⟩,ax (show 1≤1000000 by decide),fun p1 h1=>⟨ax (show 1≤1000000 by decide),fun p2 h2=>⟨ax (show 9≤1000000 by decide),fun L hL=>⟨by decide,?_⟩⟩⟩⟩
 refine .inl (qa ai (by omega) (by show z%9<9;omega) fun v hv=>?_)
 have S:=(ao.upd (o:=.tup [V.int (c:Int)]) h1).trans ((ao.upd (o:=.lst [V.int (c:Int)]) h2).trans (ao.upd (o:=.lst [V.non,.bl true,.bl false,.str (toString (c:Int)),.int (-1 - (c:Int)),.int (1*2^(60:Int).toNat),.int (1*2^(60:Int).toNat+(c:Int)),.ref p1,.ref p2]) hL))
 have e1:=ao.upd (o:=.lst [V.non,.bl true,.bl false,.str (toString (c:Int)),.int (-1 - (c:Int)),.int (1*2^(60:Int).toNat),.int (1*2^(60:Int).toNat+(c:Int)),.ref p1,.ref p2]) hL _ _ (ao.upd (o:=.lst [V.int (c:Int)]) h2 _ _ (ai (H:=H) (a:=p1) (o:=.tup [V.int (c:Int)])))
 have e2:=ao.upd (o:=.lst [V.non,.bl true,.bl false,.str (toString (c:Int)),.int (-1 - (c:Int)),.int (1*2^(60:Int).toNat),.int (1*2^(60:Int).toNat+(c:Int)),.ref p1,.ref p2]) hL _ _ (ai (H:=upd H p1 (.tup [V.int (c:Int)])) (a:=p2) (o:=.lst [V.int (c:Int)]))
 have n60:(2:Int)^(60:Int).toNat=2^60:=rfl
 simp only [List.mem_cons,List.not_mem_nil,or_false] at hv
 rcases hv with rfl | rfl | rfl | rfl | rfl | rfl | rfl | rfl | rfl
 · exact q _ _ _ S .non rfl
 · exact q _ _ _ S (.bl _) rfl
 · exact q _ _ _ S (.bl _) rfl
 · exact q _ _ _ S (.str _) rfl
 · exact q _ _ _ S (.int _) (gc (.inl (by omega)))
 · exact q _ _ _ S (.int _) (gc (.inr (by rw [n60];omega)))
 · exact q _ _ _ S (.int _) (gc (.inr (by rw [n60];omega)))
 · exact q _ _ _ S (.tup e1 (.cons (.int _) .nil)) rfl
 · exact q _ _ _ S (.lst e2 (.cons (.int _) .nil)) rfl
theorem Ch (K:W.Frag) (A:Adr):Ln (lb K A) 2:=by rintro vs H Q E ⟨z,c,rfl,_⟩;rfl
theorem p30:(0:Int)<10^(30:Int).toNat:=by decide +kernel
theorem DI (T:Txt K mg A):Rd (lb K A) (IE K A) ["_law_cell", "_law_count", "_law_number", "_law_some"]:=by
 intro vs H Q E h
 obtain ⟨z,c,rfl,c2,q⟩:=h
 refine ⟨⟨by decide,by decide⟩,⟨by decide,by decide,by decide⟩,p30,?_⟩
 have r0:=Int.emod_nonneg (z/9) (Int.ne_of_gt p30)
 show av _ _ _ [some (.int z),some (.int (c:Int)),some (.int (z/9%10^(30:Int).toNat)),none] H
 generalize z/9%10^(30:Int).toNat=k at r0
 have m0:=Int.emod_nonneg k (b:=(c:Int)+1) (by omega)
 have m1:=Int.emod_lt_of_pos k (b:=(c:Int)+1) (by omega)
 refine ⟨by omega,mB m0 (by omega),ax (show 1≤1000000 by decide),fun p1 h1=>⟨ax (show 1≤1000000 by decide),fun p2 h2=>⟨ax (show 9≤1000000 by decide),fun L hL=>⟨by decide,?_⟩⟩⟩⟩
 refine .inl (qa ai (by omega) (by show z%9<9;omega) fun v hv=>?_)
 have S:=(ao.upd (o:=.tup [V.int (c:Int)]) h1).trans ((ao.upd (o:=.lst [V.int 0]) h2).trans (ao.upd (o:=.lst [V.non,.bl true,.bl false,.str (toString (k%((c:Int)+1))),.int (-1 - k),.int ((c:Int)+1),.int ((c:Int)+2+k),.ref p1,.ref p2]) hL))
 have e1:=ao.upd (o:=.lst [V.non,.bl true,.bl false,.str (toString (k%((c:Int)+1))),.int (-1 - k),.int ((c:Int)+1),.int ((c:Int)+2+k),.ref p1,.ref p2]) hL _ _ (ao.upd (o:=.lst [V.int 0]) h2 _ _ (ai (H:=H) (a:=p1) (o:=.tup [V.int (c:Int)])))
 have e2:=ao.upd (o:=.lst [V.non,.bl true,.bl false,.str (toString (k%((c:Int)+1))),.int (-1 - k),.int ((c:Int)+1),.int ((c:Int)+2+k),.ref p1,.ref p2]) hL _ _ (ai (H:=upd H p1 (.tup [V.int (c:Int)])) (a:=p2) (o:=.lst [V.int 0]))
 simp only [List.mem_cons,List.not_mem_nil,or_false] at hv
 rcases hv with rfl | rfl | rfl | rfl | rfl | rfl | rfl | rfl | rfl
 · exact q _ _ _ S .non (cr rfl)
 · exact q _ _ _ S (.bl _) (cr rfl)
 · exact q _ _ _ S (.bl _) (cr rfl)
 · exact q _ _ _ S (.str _) (cr rfl)
 · exact q _ _ _ S (.int _) (iq (.inl (by omega)))
 · exact q _ _ _ S (.int _) (iq (.inr (by omega)))
 · exact q _ _ _ S (.int _) (iq (.inr (by omega)))
 · exact q _ _ _ S (.tup e1 (.cons (.int _) .nil)) (cr rfl)
 · exact q _ _ _ S (.lst e2 (.cons (.int _) .nil)) (cr rfl)
theorem Ap (K:W.Frag) (A:Adr):Ln (jY K A) 1:=by rintro vs H Q E ⟨z,rfl,_⟩;rfl
theorem Et (T:Txt K mg A):Rd (jY K A) (IG K A) ["_law_cell", "_law_number", "_law_some"]:=by
 intro vs H Q E h
 obtain ⟨z,rfl,q⟩:=h
 refine ⟨⟨by decide,by decide⟩,⟨by decide,by decide,by decide⟩,p30,?_⟩
 have r0:=Int.emod_nonneg (z/9) (Int.ne_of_gt p30)
 show av _ _ _ [some (.int z),some (.int (z/9%10^(30:Int).toNat)),none] H
 generalize z/9%10^(30:Int).toNat=k at r0
 refine ⟨⟨by decide,by decide,by decide⟩,ax (show 1≤1000000 by decide),fun p1 h1=>⟨ax (show 1≤1000000 by decide),fun p2 h2=> .inl fun p3 h3=>⟨ax (show 1≤1000000 by decide),fun p4 h4=>⟨ax (show 9≤1000000 by decide),fun L hL=>⟨by decide,?_⟩⟩⟩⟩⟩
 refine .inl (qa ai (by omega) (by show z%9<9;omega) fun v hv=>?_)
 generalize hLL:(HO.lst [V.non,V.bl true,V.bl false,V.int (-1 - k),V.int (10^(60:Int).toNat+k),V.ref p1,V.ref p2,V.ref p3,V.ref p4])=o at*
 have S:=(ao.upd (o:=.tup [V.int k]) h1).trans ((ao.upd (o:=.lst [V.int k]) h2).trans ((ao.upd (o:=.dK []) h3).trans ((ao.upd (o:=.tup [V.str "a"]) h4).trans (ao.upd (o:=o) hL))))
 have e1:=ao.upd (o:=o) hL _ _ (ao.upd (o:=.tup [V.str "a"]) h4 _ _ (ao.upd (o:=.dK []) h3 _ _ (ao.upd (o:=.lst [V.int k]) h2 _ _ (ai (H:=H) (a:=p1) (o:=.tup [V.int k])))))
 have e2:=ao.upd (o:=o) hL _ _ (ao.upd (o:=.tup [V.str "a"]) h4 _ _ (ao.upd (o:=.dK []) h3 _ _ (ai (H:=upd H p1 (.tup [V.int k])) (a:=p2) (o:=.lst [V.int k]))))
 have e3:=ao.upd (o:=o) hL _ _ (ao.upd (o:=.tup [V.str "a"]) h4 _ _ (ai (H:=upd (upd H p1 (.tup [V.int k])) p2 (.lst [V.int k])) (a:=p3) (o:=.dK [])))
 have e4:=ao.upd (o:=o) hL _ _ (ai (H:=upd (upd (upd H p1 (.tup [V.int k])) p2 (.lst [V.int k])) p3 (.dK [])) (a:=p4) (o:=.tup [V.str "a"]))
 have n60:(10:Int)^(60:Int).toNat=10^60:=rfl
 simp only [List.mem_cons,List.not_mem_nil,or_false] at hv
 rcases hv with rfl | rfl | rfl | rfl | rfl | rfl | rfl | rfl | rfl
 · exact q _ _ _ S .non rfl
 · exact q _ _ _ S (.bl _) rfl
 · exact q _ _ _ S (.bl _) rfl
 · exact q _ _ _ S (.int _) (qN (.inl (by omega)))
 · exact q _ _ _ S (.int _) (qN (.inr (by rw [n60];omega)))
 · exact q _ _ _ S (.tup e1 (.cons (.int _) .nil)) rfl
 · exact q _ _ _ S (.lst e2 (.cons (.int _) .nil)) rfl
 · exact q _ _ _ S (.dic ⟨_,e3⟩) rfl
 · exact q _ _ _ S (.tup e4 (.cons (.str _) .nil)) rfl
theorem Ay (K:W.Frag) (A:Adr):Ln (iF K A) 2:=by rintro vs H Q E ⟨z,s,rfl,_⟩;rfl
theorem Gg (T:Txt K mg A):Rd (iF K A) (GT K A) ["_law_cell", "_law_size"]:=by
 intro vs H Q E h
 obtain ⟨z,s,rfl,hs,q⟩:=h
 refine ⟨by decide,Sel.dec (fun h=>?_) (fun h=>?_)⟩
 · exact ⟨⟨by decide,by decide⟩,by omega,q _ _ H (.refl H) (.int _)⟩
 · exact ⟨⟨by decide,by decide⟩,_,rfl,fun v d H' S w _=>q v d H' S w⟩
theorem Al (K:W.Frag) (A:Adr):Ln (lT K A) 2:=by rintro vs H Q E ⟨z,m,rfl,_⟩;rfl
theorem GC (T : Txt K mg A) : Rd (lT K A) (HG K A) ["_law_cell", "_law_mark"] := by
  intro vs H Q E h
  obtain ⟨z, m, rfl, ok, sz, q⟩ := h
  refine ⟨by decide, Sel.dec (fun h => ?_) (fun h => ?_)⟩
  · exact ⟨⟨by decide, by decide⟩, _, rfl, fun e H' S en => q e H' S en.1⟩
  · cases m with
    | inr y =>
      refine ⟨by decide, _, rfl, Sel.t ?_⟩
      have ok : (cg y && decide (y.length ≤ 100000)) = true := ok
      obtain ⟨a1, a2⟩ := Bool.and_eq_true_iff.mp ok
      have sz : y.length + 62 ≤ 50000 := sz
      refine ⟨?_, q (.inr (y ++ "0")) H (.refl H) ?_⟩
      · have e : ("0" : Str).length = 1 := by decide
        rw [e]; exact Nat.le_of_lt (ax (by omega))
      · show (cg (y ++ "0") && decide ((y ++ "0").length ≤ 100000)) = true
        rw [gU a1 (by decide +kernel), decide_eq_true (by rw [strLen_append, gi "0"]; omega)]; rfl
    | inl i =>
      refine ⟨by decide, _, rfl, Sel.f ?_⟩
      have ok : decide (0 ≤ i ∧ i < 10 ^ 60) = true := ok
      obtain ⟨h0, h1⟩ := of_decide_eq_true ok
      refine ⟨jz h0 h1, q (.inr (toString i)) H (.refl H) ?_⟩
      show (cg ((toString i : String) : Str) && decide (((toString i : String) : Str).length ≤ 100000)) = true
      rw [mr h0, decide_eq_true (by have := fc h0 h1; omega)]; rfl
end Rs
namespace Rs
open PySem PySem.Spec PyProof.Rows L2
variable {K:W.Frag} {mg:Str→Option Value} {A:Adr}
theorem AZ (K:W.Frag) (A:Adr):Ln (lw K A) 3:=by rintro vs H Q E ⟨z,c,mk,rfl,_⟩;rfl
theorem kj {c s:Dat} (h:bv c=false):cN (.tup [c,s])=false:=by show (bv c&&bo s)=false;rw [h];rfl
theorem zj {c s:Dat} (h:bo s=false):cN (.tup [c,s])=false:=by show (bv c&&bo s)=false;rw [h,Bool.and_false]
theorem yI (k:Key):cN (bX k)=false:=by cases k <;> rfl
theorem En (T:Txt K mg A):Rd (lw K A) (Ix K A) ["_law_cell", "_law_count", "_law_mark", "_law_some"]:=by
 intro vs H Q E h
 obtain ⟨z,c,mk,rfl,c2,q⟩:=h
 refine ⟨ax (show 1≤1000000 by decide),fun p1 h1=>⟨ax (show 3≤1000000 by decide),fun p2 h2=>⟨ax (show 2≤1000000 by decide),fun p3 h3=>⟨ax (show 2≤1000000 by decide),fun p4 h4=>⟨ax (show 2≤1000000 by decide),fun p5 h5=>⟨⟨by decide,by decide,by decide⟩,ax (show 2≤1000000 by decide),fun p6 h6=>⟨ax (show 7≤1000000 by decide),fun L1 hL1=>?_⟩⟩⟩⟩⟩⟩⟩
 have n60:(2:Int)^(60:Int).toNat=2^60:=rfl
 have k1:∀ {HH:Hp} {p:Addr} {o:HO},HH p=none→ao HH (upd HH p o):=fun h=>ao.upd h
 have S1:=(k1 (o:=.tup [V.int (c:Int)]) h1).trans ((k1 (o:=.tup [V.int (c:Int),kV mk,kV mk]) h2).trans ((k1 (o:=.lst [V.int (c:Int),kV mk]) h3).trans ((k1 (o:=.tup [V.bl true,kV mk]) h4).trans ((k1 (o:=.tup [V.int (-1 - (c:Int)),kV mk]) h5).trans ((k1 (o:=.tup [V.int (1*2^(60:Int).toNat),kV mk]) h6).trans (k1 (o:=.lst [V.non,.ref p1,.ref p2,.ref p3,.ref p4,.ref p5,.ref p6]) hL1))))))
 have g6:=k1 (o:=.lst [V.non,.ref p1,.ref p2,.ref p3,.ref p4,.ref p5,.ref p6]) hL1
 have g5:=(k1 (o:=.tup [V.int (1*2^(60:Int).toNat),kV mk]) h6).trans g6
 have g4:=(k1 (o:=.tup [V.int (-1 - (c:Int)),kV mk]) h5).trans g5
 have g3:=(k1 (o:=.tup [V.bl true,kV mk]) h4).trans g4
 have g2:=(k1 (o:=.lst [V.int (c:Int),kV mk]) h3).trans g3
 have g1:=(k1 (o:=.tup [V.int (c:Int),kV mk,kV mk]) h2).trans g2
 have e1:=g1 _ _ (ai (H:=H) (a:=p1) (o:=.tup [V.int (c:Int)]))
 have e2:=g2 _ _ (ai (H:=upd H p1 (.tup [V.int (c:Int)])) (a:=p2) (o:=.tup [V.int (c:Int),kV mk,kV mk]))
 have e3:=g3 p3 (.lst [V.int (c:Int),kV mk]) ai
 have e4:=g4 p4 (.tup [V.bl true,kV mk]) ai
 have e5:=g5 p5 (.tup [V.int (-1 - (c:Int)),kV mk]) ai
 have e6:=g6 p6 (.tup [V.int (1*2^(60:Int).toNat),kV mk]) ai
 have eL:=ai (H:=upd (upd (upd (upd (upd (upd H p1 (.tup [V.int (c:Int)])) p2 (.tup [V.int (c:Int),kV mk,kV mk])) p3 (.lst [V.int (c:Int),kV mk])) p4 (.tup [V.bl true,kV mk])) p5 (.tup [V.int (-1 - (c:Int)),kV mk])) p6 (.tup [V.int (1*2^(60:Int).toNat),kV mk])) (a:=L1) (o:=.lst [V.non,.ref p1,.ref p2,.ref p3,.ref p4,.ref p5,.ref p6])
 clear g1 g2 g3 g4 g5 g6
 generalize upd (upd (upd (upd (upd (upd (upd H p1 (.tup [V.int (c:Int)])) p2 (.tup [V.int (c:Int),kV mk,kV mk])) p3 (.lst [V.int (c:Int),kV mk])) p4 (.tup [V.bl true,kV mk])) p5 (.tup [V.int (-1 - (c:Int)),kV mk])) p6 (.tup [V.int (1*2^(60:Int).toNat),kV mk])) L1 (.lst [V.non,.ref p1,.ref p2,.ref p3,.ref p4,.ref p5,.ref p6])=H1 at*
 refine ⟨mB (by omega) (by omega),ax (show 2≤1000000 by decide),fun p7 h7=>⟨⟨by decide,by decide⟩,_,rfl,fun jv jd H2 S2 jw jn=>⟨ax (show 2≤1000000 by decide),fun p8 h8=> .inl fun p9 h9=>⟨ax (show 4≤1000000 by decide),fun L2 hL2=>?_⟩⟩⟩⟩
 have S7:=k1 (o:=.tup [.str (toString (c:Int)),kV mk]) h7
 have S8:=k1 (o:=.tup [.int (c:Int),jv]) h8
 have S9:=k1 (o:=.dK []) h9
 have SL:=k1 (o:=.lst [.ref p7,.ref p8,kV mk,.ref p9]) hL2
 have SA:=S7.trans (S2.trans (S8.trans (S9.trans SL)))
 have e7:=(S2.trans (S8.trans (S9.trans SL))) p7 (.tup [.str (toString (c:Int)),kV mk]) ai
 have e8:=(S9.trans SL) p8 (.tup [.int (c:Int),jv]) ai
 have e9:=SL p9 (.dK []) ai
 have jw2:=jw.mono (S8.trans (S9.trans SL))
 have eL2:upd (upd (upd H2 p8 (.tup [.int (c:Int),jv])) p9 (.dK [])) L2 (.lst [.ref p7,.ref p8,kV mk,.ref p9]) L2=some (.lst [.ref p7,.ref p8,kV mk,.ref p9]):=ai
 generalize upd (upd (upd H2 p8 (.tup [.int (c:Int),jv])) p9 (.dK [])) L2 (.lst [.ref p7,.ref p8,kV mk,.ref p9])=H3 at*
 refine .inl ⟨L1,L2,_,_,rfl,rfl,SA _ _ eL,eL2,ax (by exact (show 11≤1000000 by decide)),fun L3 hL3=>⟨by decide,?_⟩⟩
 refine .inl (qa ai (by omega) (by show z%11<11;omega) fun v hv=>?_)
 have S3:=k1 (o:=.lst ([V.non,.ref p1,.ref p2,.ref p3,.ref p4,.ref p5,.ref p6]++[.ref p7,.ref p8,kV mk,.ref p9])) hL3
 have S:=S1.trans (SA.trans S3)
 have T:=SA.trans S3
 simp only [List.cons_append,List.nil_append,List.mem_cons,List.not_mem_nil,or_false] at hv
 rcases hv with rfl | rfl | rfl | rfl | rfl | rfl | rfl | rfl | rfl | rfl | rfl
 · exact q _ _ _ S .non rfl
 · exact q _ _ _ S (.tup (T _ _ e1) (.cons (.int _) .nil)) rfl
 · exact q _ _ _ S (.tup (T _ _ e2) (.cons (.int _) (.cons (cO mk) (.cons (cO mk) .nil)))) rfl
 · exact q _ _ _ S (.lst (T _ _ e3) (.cons (.int _) (.cons (cO mk) .nil))) rfl
 · exact q _ _ _ S (.tup (T _ _ e4) (.cons (.bl _) (.cons (cO mk) .nil))) (kj rfl)
 · exact q _ _ _ S (.tup (T _ _ e5) (.cons (.int _) (.cons (cO mk) .nil))) (kj (gc (.inl (by omega))))
 · exact q _ _ _ S (.tup (T _ _ e6) (.cons (.int _) (.cons (cO mk) .nil))) (kj (gc (.inr (by rw [n60];omega))))
 · exact q _ _ _ S (.tup (S3 _ _ e7) (.cons (.str _) (.cons (cO mk) .nil))) (kj rfl)
 · exact q _ _ _ S (.tup (S3 _ _ e8) (.cons (.int _) (.cons (jw2.mono S3) .nil))) (zj jn)
 · exact q _ _ _ S (cO mk) (yI mk)
 · exact q _ _ _ S (.dic ⟨_,S3 _ _ e9⟩) rfl
theorem DatWs.app {H:Hp}:∀ {xs ys:List V} {ds es:List Dat},DatWs H xs ds→DatWs H ys es→DatWs H (xs++ys) (ds++es)
 | _,_,_,_,.nil,h=>h
 | _,_,_,_,.cons a r,h=> .cons a (r.app h)
theorem kS {n:Nat} {ds:List Dat} (h:ds.length≠n):cx n (.tup ds)=false:=by
 show (decide ((ds.length:Int)=(n:Int))&&_)=false
 rw [decide_eq_false (by omega)];rfl
theorem vK {n:Nat} {ds:List Dat} {d:Dat} (hm:d∈ds) (h:bo d=false):cx n (.tup ds)=false:=by
 show (_&&ds.all bo)=false
 have:ds.all bo=false:=List.all_eq_false.mpr ⟨d,hm,by rw [h];simp⟩
 rw [this,Bool.and_false]
theorem Av (K:W.Frag) (A:Adr):Ln (lM K A) 2:=by rintro vs H Q E ⟨z,P,ks,rfl,_⟩;rfl
theorem El (T : Txt K mg A) : Rd (lM K A) (IJ K A) ["_law_cell", "_law_marks", "_law_spot", "_law_thing", "_law_some"] := by
  intro vs H Q E h
  obtain ⟨z, P, ks, rfl, hP, l61, q⟩ := h
  have lz : ∀ m : Nat, m ≤ 200 → m ≤ sizeLine := fun m hm => Nat.le_of_lt (ax (by omega))
  have ll : (ks.map kV).length = ks.length := List.length_map ..
  refine ⟨⟨by decide, by decide⟩, .inl (.inr (.inl ⟨_, SqT.of hP, ?_⟩))⟩
  rw [List.length_map]
  have mx : (if (ks.length : Int) > 1 then (ks.length : Int) else 1) = ((max 1 ks.length : Nat) : Int) := by
    split <;> omega
  show 0 < (if (ks.length : Int) > 1 then (ks.length : Int) else 1) ∧ _
  rw [mx]
  refine ⟨by omega, ⟨by decide, by decide⟩, _, rfl, fun jv jd H1 S1 jw jn => ?_⟩
  have r0 := Int.emod_nonneg (z / 5) (b := ((max 1 ks.length : Nat) : Int)) (by omega)
  have r1 := Int.emod_lt_of_pos (z / 5) (b := ((max 1 ks.length : Nat) : Int)) (by omega)
  show Co K A _ [some (.int z), some (.ref P), some (.int (z / 5 % ((max 1 ks.length : Nat) : Int))), some jv, none] H1
  obtain ⟨sp, hsp⟩ := Int.eq_ofNat_of_zero_le r0
  rw [hsp] at r1 ⊢
  have hP1 := S1 _ _ hP
  refine ⟨P, _, rfl, .inr (SqT.of hP1), fun l1 hl1 => ⟨ax (show 1 ≤ 1000000 by decide), fun p2 h2 => ?_⟩⟩
  have S2 := (ao.upd (o := .lst (ks.map kV)) hl1).trans (ao.upd (o := .tup [V.str "a"]) h2)
  have el1 := ao.upd (o := .tup [V.str "a"]) h2 _ _ (ai (H := H1) (a := l1) (o := .lst (ks.map kV)))
  have ep2 : upd (upd H1 l1 (.lst (ks.map kV))) p2 (.tup [V.str "a"]) p2 = some (.tup [V.str "a"]) := ai
  generalize upd (upd H1 l1 (.lst (ks.map kV))) p2 (.tup [V.str "a"]) = H2 at *
  refine .inr ⟨P, p2, _, _, rfl, rfl, S2 _ _ hP1, ep2, lz _ (by simp; omega), fun p3 H3 S3 hp3 => ⟨ax (show 1 ≤ 1000000 by decide), fun p4 h4 => ?_⟩⟩
  have S4 := ao.upd (o := .tup [jv]) h4
  have ep4 : upd H3 p4 (.tup [jv]) p4 = some (.tup [jv]) := ai
  generalize upd H3 p4 (.tup [jv]) = H4 at *
  refine .inr ⟨P, p4, _, _, rfl, rfl, S4 _ _ (S3 _ _ (S2 _ _ hP1)), ep4, lz _ (by simp; omega), fun p5 H5 S5 hp5 => ⟨ax (show 4 ≤ 1000000 by decide), fun L hL => ?_⟩⟩
  have S6 := ao.upd (o := .lst [V.non, .ref l1, .ref p3, .ref p5]) hL
  have eL : upd H5 L (.lst [V.non, .ref l1, .ref p3, .ref p5]) L = some (.lst [V.non, .ref l1, .ref p3, .ref p5]) := ai
  generalize upd H5 L (.lst [V.non, .ref l1, .ref p3, .ref p5]) = H6 at *
  have S56 := S5.trans S6
  have S46 := S4.trans S56
  have S36 := S3.trans S46
  have S26 := S2.trans S36
  have SS := S1.trans S26
  have hP6 := S26 _ _ hP1
  have jw6 := jw.mono S26
  have some4 : ∀ v ∈ [V.non, .ref l1, .ref p3, .ref p5], Q v H6 := fun v hv => by
    simp only [List.mem_cons, List.not_mem_nil, or_false] at hv
    rcases hv with rfl | rfl | rfl | rfl
    · exact q _ _ _ SS .non rfl trivial
    · exact q _ _ _ SS (.lst (S36 _ _ el1) (dW ks)) rfl trivial
    · exact q _ _ _ SS (.tup (S46 _ _ hp3) ((dW ks).app (.cons (.str _) .nil))) (kS (by simp)) (by show _ ≤ 500; simp; omega)
    · exact q _ _ _ SS (.tup (S6 _ _ hp5) ((dW ks).app (.cons jw6 .nil))) (kS (by simp)) (by show _ ≤ 500; simp; omega)
  have first : aI K (.ref L) (.int (z % 5 % 4)) H6 Q := .inl (qa eL (by omega) (by show z % 5 % 4 < 4; omega) some4)
  refine ⟨by decide, Sel.dec (fun h => Sel.t ⟨by decide, by decide, first⟩) (fun h => .inl (.inr (.inl ⟨_, SqT.of hP6, ?_⟩)))⟩
  rw [List.length_map]
  refine Sel.dec (fun h0 => ⟨by decide, by decide, first⟩) (fun h0 => ?_)
  have l1' : 1 ≤ ks.length := by have h0 : ¬ (ks.length : Int) = 0 := h0; omega
  have spl : sp < ks.length := by have : max 1 ks.length = ks.length := by omega
                                  omega
  refine ⟨⟨by decide, by decide⟩, ⟨by decide, by decide⟩, by decide, Sel.dec (fun h2 => ?_) (fun h2 => ?_)⟩
  · refine ⟨(sp : Int), rfl, .inl (.inr ⟨P, _, rfl, hP6, fun q1 H7 S7 hq1 => ?_⟩)⟩
    refine ⟨(sp : Int) + 1, rfl, .inl (.inr ⟨P, _, rfl, S7 _ _ hP6, fun q2 H8 S8 hq2 => ?_⟩)⟩
    rw [mQ _ sp (by omega), ← List.map_take] at hq1
    rw [show ((sp : Int) + 1) = ((sp + 1 : Nat) : Int) by omega, kC _ (sp + 1) (by omega), ← List.map_drop] at hq2
    refine .inr ⟨q1, q2, _, _, rfl, rfl, S8 _ _ hq1, hq2, lz _ (by simp; omega), fun q3 H9 S9 hq3 => ?_⟩
    refine q _ _ _ (SS.trans (S7.trans (S8.trans S9))) (.tup hq3 ((dW _).app (dW _))) (kS (by simp; omega)) (by show _ ≤ 500; simp; omega)
  · refine ⟨(sp : Int), rfl, .inl (.inr ⟨P, _, rfl, hP6, fun q1 H7 S7 hq1 => ?_⟩)⟩
    rw [mQ _ sp (by omega), ← List.map_take] at hq1
    refine ⟨ax (show 1 ≤ 1000000 by decide), fun q4 h4' => ?_⟩
    have S74 := ao.upd (o := .tup [jv]) h4'
    have e74 : upd H7 q4 (.tup [jv]) q4 = some (.tup [jv]) := ai
    generalize upd H7 q4 (.tup [jv]) = H7' at *
    refine .inr ⟨q1, q4, _, _, rfl, rfl, S74 _ _ hq1, e74, lz _ (by simp; omega), fun q5 H8 S8 hq5 => ?_⟩
    refine ⟨(sp : Int) + 1, rfl, .inl (.inr ⟨P, _, rfl, S8 _ _ (S74 _ _ (S7 _ _ hP6)), fun q2 H9 S9 hq2 => ?_⟩)⟩
    rw [show ((sp : Int) + 1) = ((sp + 1 : Nat) : Int) by omega, kC _ (sp + 1) (by omega), ← List.map_drop] at hq2
    refine .inr ⟨q5, q2, _, _, rfl, rfl, S9 _ _ hq5, hq2, lz _ (by simp; omega), fun q3 H10 S10 hq3 => ?_⟩
    have SX := S7.trans (S74.trans (S8.trans (S9.trans S10)))
    refine q _ _ _ (SS.trans SX) (.tup hq3 (((dW _).app (.cons (jw6.mono SX) .nil)).app (dW _))) (vK (d := jd) (by simp) jn) (by show _ ≤ 500; simp; omega)
end Rs
namespace Rs
open PySem PySem.Spec PyProof.Rows L2
theorem kg : ∀ (e f c el : Nat), c ≤ 2 ^ e → c ≤ 2 ^ f → el ≤ c → grF e c el = grF f c el
  | 0, f, c, el, h1, _, h3 => by rw [dy (by simp at h1; omega), dy (by simp at h1; omega)]
  | e + 1, 0, c, el, _, h2, h3 => by rw [dy (by simp at h2; omega), dy (by simp at h2; omega)]
  | e + 1, f + 1, c, el, h1, h2, h3 => by
    by_cases h : el = 0 ∨ c ≤ el
    · rw [dy h, dy h]
    · have h2' : 2 ≤ c := by omega
      have b1 := gz h2'
      have b2 := gt h2'
      have b3 := fA h2' h1
      have b4 := fA h2' h2
      rw [gb h, gb h]
      by_cases hl : el ≤ aE c
      · rw [if_pos hl, if_pos hl, kg e f (aE c) el b3 b4 hl]
      · rw [if_neg hl, if_neg hl, kg e f (c - aE c) (el - aE c) (by omega) (by omega) (by omega)]
theorem Cu {c el:Nat} (h0:1≤el) (h1:el<c) (c2:c≤2^60) (hl:el≤aE c):bf c el=0::bf (aE c) el:=by
 have h2:2≤c:=by omega
 have b3:=fA (e:=59) h2 c2
 unfold bf
 rw [gb (by omega),if_pos hl,kg 59 60 (aE c) el b3 (by omega) hl]
theorem Be {c el:Nat} (h0:1≤el) (h1:el<c) (c2:c≤2^60) (hl:¬ el≤aE c):bf c el=1::bf (c - aE c) (el - aE c):=by
 have h2:2≤c:=by omega
 have b1:=gz h2
 have b2:=gt h2
 have b3:=fA (e:=59) h2 c2
 unfold bf
 rw [gb (by omega),if_neg hl,kg 59 60 (c - aE c) (el - aE c) (by omega) (by omega) (by omega)]
theorem mI : ∀ (r : List Int) (lo hi : Nat) (k : Key) (ks : List Key), lo + r.length + 1 = hi → dl r (lo + 1) (hi + 1) (k :: ks) = dl r lo hi ks
  | [], lo, hi, k, ks, _ => rfl
  | t :: r, lo, hi, k, ks, h => by
    rw [List.length_cons] at h
    obtain ⟨j, rfl⟩ : ∃ j, hi = j + 1 := ⟨hi - 1, by omega⟩
    rw [dl, dl]
    by_cases ht : t = 1
    · rw [if_pos ht, if_pos ht, mI r (lo + 1) (j + 1) k ks (by omega)]; rfl
    · rw [if_neg ht, if_neg ht]
      show (k :: ks)[j + 1]? :: dl r (lo + 1) (j + 1) (k :: ks) = ks[j]? :: dl r lo j ks
      rw [mI r lo j k ks (by omega)]; rfl
theorem mj : ∀ (r : List Int) (lo hi m : Nat) (ks : List Key), lo + r.length + 1 = hi → hi ≤ m → dl r lo hi (ks.take m) = dl r lo hi ks
  | [], lo, hi, m, ks, h, hm => by
    show [(ks.take m)[lo]?] = [ks[lo]?]
    rw [List.getElem?_take_of_lt (by simp at h; omega)]
  | t :: r, lo, hi, m, ks, h, hm => by
    rw [List.length_cons] at h
    rw [dl, dl, mj r (lo + 1) hi m ks (by omega) hm, mj r lo (hi - 1) m ks (by omega) (by omega), List.getElem?_take_of_lt (by omega), List.getElem?_take_of_lt (by omega)]
theorem zv {r:List Int} {k:Key} {ks:List Key} (h:ks.length=r.length+1):cR (1::r) (k::ks)=k::cR r ks:=by
 unfold cR
 rw [dl,if_pos rfl,List.length_cons,mI r 0 ks.length k ks (by omega)];rfl
theorem yG {r:List Int} {ks:List Key} (h:ks.length=r.length+2):cR (0::r) ks=ks.getD (ks.length - 1) (.inl 0)::cR r ks.dropLast:=by
 unfold cR
 rw [dl,if_neg (by decide),List.map_cons,List.length_dropLast,List.dropLast_eq_take,mj r 0 (ks.length - 1) (ks.length - 1) ks (by omega) (Nat.le_refl _),List.getD_eq_getElem?_getD]
theorem oW {h : List Key → Key} {c : Int} {m : Key} {st l : List (Int × Key)} : ∀ {i : Nat}, i ≤ st.length → mt h c m (st ++ l) i = mt h c m st i
  | 0, _ => rfl
  | i + 1, hi => by
    show h (fi h c m (st ++ l) i) = h (fi h c m st i)
    rw [fk, fk, oW (by omega)]
    unfold cK
    rw [List.getElem?_append_left (by omega)]
theorem oN {h : List Key → Key} {m : Key} {st l : List (Int × Key)} : ∀ {i : Nat}, i ≤ st.length → cU h m (st ++ l) i = cU h m st i
  | 0, _ => rfl
  | i + 1, hi => by
    rw [cU, cU, oN (by omega), List.getElem?_append_left (by omega)]
theorem sf {h : List Key → Key} {c : Int} : ∀ (ts : List Int) (ks : List Key), ks.length = ts.length + 1 → (∀ t ∈ ts, t = 0 ∨ t = 1) → tpF h ts ks = (mt h c (inM ts ks) (stG ts ks) ts.length, (cU h (inM ts ks) (stG ts ks) ts.length).2)
  | [], ks, hl, _ => by
    have e : inM [] ks = ks.getD 0 (.inl 0) := by
      unfold inM cR dl
      rw [List.getD_eq_getElem?_getD]; rfl
    show (ks.getD 0 (.inl 0), ks.getD 0 (.inl 0)) = (inM [] ks, inM [] ks)
    rw [e]
  | t :: r, ks, hl, h01 => by
    rw [List.length_cons] at hl
    have hr : ∀ t ∈ r, t = 0 ∨ t = 1 := fun t ht => h01 t (List.mem_cons_of_mem _ ht)
    have step : ∀ (x : Key) (ks' : List Key), ks'.length = r.length + 1 → cR (t :: r) ks = x :: cR r ks' → (mt h c (inM (t :: r) ks) (stG (t :: r) ks) (r.length + 1), (cU h (inM (t :: r) ks) (stG (t :: r) ks) (r.length + 1)).2) = (h (jtT t (tpF h r ks').1 x), if t = 1 then h (jtT t (tpF h r ks').2 x) else (tpF h r ks').2) := fun x ks' l' e => by
      have em : inM (t :: r) ks = inM r ks' := by unfold inM; rw [e]; rfl
      have sl : (stG r ks').length = r.length := iT (gB r ks')
      have es : stG (t :: r) ks = stG r ks' ++ [(t, x)] := by
        unfold stG stR
        rw [e, List.zip_cons_cons, List.reverse_cons]
      have g : (stG r ks' ++ [(t, x)])[r.length]? = some (t, x) := by rw [List.getElem?_append_right (by omega), sl, Nat.sub_self]; rfl
      rw [sf (c := c) r ks' l' hr, em, es]
      refine Prod.ext ?_ ?_
      · show h (fi h c _ (stG r ks' ++ [(t, x)]) r.length) = _
        rw [fk, oW (by omega)]
        unfold cK
        rw [g]
      · show (cU h _ (stG r ks' ++ [(t, x)]) (r.length + 1)).2 = _
        rw [cU, g, oN (by omega)]
        dsimp only
        split
        · rfl
        · rfl
    rcases h01 t List.mem_cons_self with rfl | rfl
    · rw [List.length_cons, step (ks.getD (ks.length - 1) (.inl 0)) ks.dropLast (by rw [List.length_dropLast]; omega) (yG hl)]; rfl
    · match ks, hl with
      | k :: ks, hl =>
        rw [List.length_cons] at hl
        rw [List.length_cons, step k ks (by omega) (zv (by omega))]; rfl
theorem yh {h:List Key→Key} {c el:Nat} {ks:List Key} (h1:1≤c) (hl:ks.length=(bf c el).length+1):yT h c el ks=[.inr "row",.inl (c:Int),(tpF h (bf c el) ks).1]:=by
 rw [pY h1,sf (c:=(c:Int)) (bf c el) ks hl (pB 60 c el),fk]
 have sl:(stG (bf c el) ks).length=(bf c el).length:=iT (gB _ ks)
 unfold cK
 rw [List.getElem?_eq_none_iff.mpr (by omega)]
theorem Fc {h:List Key→Key} {c el:Nat} {ks:List Key} (h1:1≤el) (hl:ks.length=(bf c el).length+1):oT h c el ks=[.inr "row",.inl (el:Int),(tpF h (bf c el) ks).2]:=by
 rw [sf (c:=(c:Int)) (bf c el) ks hl (pB 60 c el)]
 have sl:(stG (bf c el) ks).length=(bf c el).length:=iT (gB _ ks)
 unfold oT jp
 rw [if_neg (by omega),sl]
variable {K:W.Frag} {mg:Str→Option Value} {A:Adr}
theorem Bw (K:W.Frag) (A:Adr):Ln (lf K A) 2:=by rintro vs H Q E ⟨c,e,rfl,_⟩;rfl
theorem EB (T:Txt K mg A):Rd (lf K A) (Ik K A) ["_law_count", "_law_elder", "_law_found", "_law_cut"]:=by
 intro vs H Q E h
 obtain ⟨c,el,rfl,ec,c2,q⟩:=h
 have mn:(if (1:Int)<(c:Int) then (1:Int) else (c:Int))=((min c 1:Nat):Int):=by split <;> omega
 show Cs K A { nx:=fun _ H'=>Q .non H',rt:=Q } [some (.int (c:Int)),some (.int (el:Int)),some (.int (if (1:Int)<(c:Int) then (1:Int) else (c:Int))),none] H
 rw [mn]
 refine ⟨fun e σ H'=>∃ (fo d r:Nat) (x3:Option V),σ=[some (.int (r:Int)),some (.int (d:Int)),some (.int (fo:Int)),x3]∧H'=H∧fo+(grF e r d).length=bI c el∧d≤r∧r≤2^e∧e≤60,
   ⟨60,min c 1,el,c,none,rfl,rfl,?_,ec,by omega,by omega⟩,?_⟩
 · unfold bI
   by_cases h:c=0
   · subst h;rw [dy (by omega)];rfl
   · rw [if_neg h];show min c 1+(bf c el).length=_;omega
 rintro e σ H' ⟨fo,d,r,x3,rfl,rfl,ht,hd,hr,he⟩
 have fin:(d=0∨r≤d)→Q (.int (fo:Int)) H':=fun h=>by
   rw [dy h] at ht
   have:fo=bI c el:=by simpa using ht
   rw [this];exact q
 refine Sel.dec (fun h0=>?_) (fun h0=>?_)
 · refine dq (Sel.dec (fun h1=>?_) (fun h1=>?_))
   · have h2:2≤r:=by omega
     have b1:=gz h2
     have b2:=gt h2
     cases e with
     | zero=>simp at hr;omega
     | succ e=>
     have b3:=fA h2 hr
     have c60:r≤2^60:=Nat.le_trans hr (Nat.pow_le_pow_right (by decide) he)
     rw [gb (by omega)] at ht
     refine ⟨fun σ H''=>∃ (fo d r:Nat) (x3:Option V),σ=[some (.int (r:Int)),some (.int (d:Int)),some (.int (fo:Int)),x3]∧H''=H'∧fo+(grF e r d).length=bI c el∧d≤r∧r≤2^e∧e≤60,fun σ' H'' hh=>⟨e,by omega,hh⟩,?_⟩
     refine ⟨r,rfl,h2,c60,Sel.dec (fun h=>?_) (fun h=>?_)⟩
     · rw [if_neg (by omega),List.length_cons] at ht
       refine ⟨fo+1,d - aE r,r - aE r,some (.int ((aE r:Nat):Int)),?_,rfl,by omega,by omega,by omega,by omega⟩
       rw [Int.ofNat_sub (by omega),Int.ofNat_sub (by omega)];rfl
     · rw [if_pos (by omega),List.length_cons] at ht
       exact ⟨fo+1,d,aE r,some (.int ((aE r:Nat):Int)),rfl,rfl,by omega,by omega,b3,by omega⟩
   · exact fin (.inr (by omega))
 · exact fin (.inl (by omega))
end Rs
namespace Rs
open PySem PySem.Spec PyProof.Rows L2
variable {K:W.Frag} {mg:Str→Option Value} {A:Adr}
theorem xf (xs:List V):eF xs none (some (-1))=xs.dropLast:=by
 unfold eF
 rw [HT.kB,List.drop_zero,Nat.sub_zero,List.dropLast_eq_take]
 congr 1
 have e:HT.sIx xs.length xs.length (some (-1))=((-1:Int)+(xs.length:Int)).toNat:=by
  show (if (-1:Int)<0 then ((-1:Int)+(xs.length:Int)).toNat else min (-1:Int).toNat xs.length)=_
  rw [if_pos (by decide)]
 rw [e];omega
theorem zG {H:Hp} {Q:VK} {P:Addr} {ks:List Key} (hP:H P=some (.tup (ks.map kV))) (h:1≤ks.length) (q:Q (kV (ks.getD (ks.length - 1) (.inl 0))) H):aI K (.ref P) (.int (-1)) H Q:=by
 obtain ⟨r,x,rfl⟩:∃ r x,ks=r++[x]:=⟨_,_,(List.dropLast_concat_getLast (by intro z;rw [z] at h;simp at h)).symm⟩
 have e:(r++[x]).getD ((r++[x]).length - 1) (.inl 0)=x:=by
  rw [List.getD_eq_getElem?_getD,List.length_append,List.getElem?_append_right (by simp)];simp
 rw [e] at q
 rw [List.map_append] at hP
 exact .inl (.inr (.inl ⟨P,_,-1,kV x,rfl,rfl,SqT.of hP,pe _ _,q⟩))
theorem gP {H:Hp} {f b:Addr} {g:List Key→Option Key} {n L:Nat} {x y:Key} {Q:VK} (s:Stp A H f b g n) (hn:n≤40000) (hx:okP x=true) (hy:okP y=true) (sz:szK x+szK y≤140+200*L) (hL:L≤60)
  (q:∀ (v:Key) (g':List Key→Option Key) (H':Hp),aG b H H'→Stp A H' f b g' (n+1)→Sub g g'→g' [.inr "joint",x,y]=some v→okP v=true→szK v≤70+200*(L+1)→Q (kV v) H'):
  ∀ p1,H p1=none→iL (cD K A) f [.ref p1] (upd H p1 (.tup [.str "joint",kV x,kV y])) Q E0:=fun p1 h1=>by
 have hk:upd H p1 (.tup [.str "joint",kV x,kV y]) p1=some (.tup (([.inr "joint",x,y]:List Key).map kV)):=ai
 refine dn (s.same (Nat.le_refl _) (ao.upd h1)) (by omega) hk (gI hx hy) fun v H' g' kb s' sub gv st=>?_
 have szt:szT [.inr "joint",x,y]=67+(szK x+szK y):=by rw [sz3,szW.2.2.1]
 exact q v g' H' ((aG.same (ao.upd h1)).trans kb) s' sub gv (dE st (by omega)) (by have:=fj st;omega)
theorem Bp (K:W.Frag) (A:Adr) (n:Nat):Ln (iM K A n) 4:=by rintro vs H Q E ⟨f,b,P,c,el,ks,g,m,rfl,_⟩;rfl
theorem yi (K:W.Frag) (A:Adr):∀ vs H Q E,iM K A 0 vs H Q E→False:=by rintro vs H Q E ⟨f,b,P,c,el,ks,g,m,rfl,_,_,_,_,_,_,_,h,_⟩;omega
theorem FL (T:Txt K mg A) (n:Nat):Rd (iM K A (n+1)) (IF K A n) ["_law_stamper_here", "_law_count", "_law_elder", "_law_marks", "_law_cut", "_law_young", "_law_old"]:=by
 intro vs H Q E h
 obtain ⟨f,b,P,c,el,ks,g,m,rfl,s,hn,e1,ec,c2,hP,kl,lj,l60,en,q⟩:=h
 refine Sel.dec (fun h=>?_) (fun h=>?_)
 · have eq:el=c:=by have h:(el:Int)=(c:Int):=h;omega
   subst eq
   have ew:bf el el=[]:=dy (.inr (Nat.le_refl _))
   rw [ew] at q kl
   obtain ⟨x,hx⟩:∃ x,ks[0]?=some x:=⟨_,List.getElem?_eq_getElem (by rw [kl];simp)⟩
   have ex:=en x (List.mem_of_getElem? hx)
   have hx':(ks.map kV)[0]?=some (kV x):=by rw [List.getElem?_map,hx];rfl
   refine ixT (j:=0) hP rfl hx' (ixT (j:=0) hP rfl hx' ⟨ax (show 2≤1000000 by decide),fun p hp=>?_⟩)
   refine q p x x g _ (aG.same (ao.upd hp)) (s.same (Nat.le_refl _) (ao.upd hp)) Sub.rfl' ai ex.1 ex.1 ex.2 ex.2 fun h _=>?_
   show (x,x)=(ks.getD 0 (.inl 0),ks.getD 0 (.inl 0))
   rw [List.getD_eq_getElem?_getD,hx];rfl
 · have lt:el<c:=by have h:¬ (el:Int)=(c:Int):=h;omega
   have c2':2≤c:=by omega
   have b1:=gz c2'
   have b2:=gt c2'
   refine ⟨c,rfl,c2',by omega,Sel.dec (fun hg=>?_) (fun hg=>?_)⟩
   · have hg:¬ el≤aE c:=by have hg:(el:Int)>((aE c:Nat):Int):=hg;omega
     have ew:=Be e1 lt (by omega) hg
     rw [ew] at q kl lj l60
     rw [List.length_cons] at kl lj l60
     match ks,kl,hP,en,q with
     | x::ks,kl,hP,en,q=>
     rw [List.length_cons] at kl
     have ex:=en x List.mem_cons_self
     refine ⟨1,rfl,.inl (.inr ⟨P,_,rfl,hP,fun P1 H1 S1 hP1=>?_⟩)⟩
     have hP1:H1 P1=some (.tup (ks.map kV)):=by rw [hP1];exact congrArg (fun z=>some (HO.tup z)) (kC _ 1 (by simp))
     refine ⟨f,b,P1,c - aE c,el - aE c,ks,g,m,by rw [Int.ofNat_sub (by omega),Int.ofNat_sub (by omega)],s.same (Nat.le_refl _) S1,hn,by omega,by omega,by omega,hP1,by omega,by omega,by omega,fun k hk=>en k (List.mem_cons_of_mem _ hk),fun p y o g1 H2 kb1 s1 sub1 hp oky oko szy szo eq=>?_⟩
     refine ⟨p,_,rfl,SqT.of hp,rfl,_,_,rfl,_,_,rfl,rfl,?_⟩
     have kb0:=(aG.same S1).trans kb1
     have hP2:H2 P=some (.tup ((x::ks).map kV)):=kb1.obj (s.same (Nat.le_refl m) S1).bb (S1 _ _ hP) (fun _ z=>nomatch z)
     refine ⟨f,rfl,s1.clo,ixT (j:=0) hP2 rfl rfl ⟨ax (show 3≤1000000 by decide),fun p1 h1=>?_⟩⟩
     dsimp only [af]
     refine gP s1 (by omega) ex.1 oky (L:=(bf (c - aE c) (el - aE c)).length) (by have:=ex.2;omega) (by omega) (fun v g2 H3 kb2 s2 sub2 gv okv szv=>?_) p1 h1
     have hP3:H3 P=some (.tup ((x::ks).map kV)):=kb2.obj s1.bb hP2 (fun _ z=>nomatch z)
     refine ⟨f,rfl,s2.clo,ixT (j:=0) hP3 rfl rfl ⟨ax (show 3≤1000000 by decide),fun p2 h2=>?_⟩⟩
     dsimp only [af]
     refine gP s2 (by omega) ex.1 oko (L:=(bf (c - aE c) (el - aE c)).length) (by have:=ex.2;omega) (by omega) (fun u g3 H4 kb3 s3 sub3 gu oku szu=>?_) p2 h2
     refine ⟨ax (show 2≤1000000 by decide),fun r hr=>?_⟩
     refine q r v u g3 _ (kb0.trans (kb2.trans (kb3.trans (aG.same (ao.upd hr))))) (s3.same (by rw [List.length_cons];omega) (ao.upd hr)) (sub1.trans (sub2.trans sub3)) ai okv oku (by rw [List.length_cons];exact szv) (by rw [List.length_cons];exact szu) fun h eh=>?_
     have e0:=eq h (Ext.of (sub2.trans sub3) eh)
     show (v,u)=(h [.inr "joint",x,(tpF h (bf (c - aE c) (el - aE c)) ks).1],h [.inr "joint",x,(tpF h (bf (c - aE c) (el - aE c)) ks).2])
     rw [← e0,eh _ _ (sub3 _ _ gv),eh _ _ gu]
   · have hg:el≤aE c:=by have hg:¬ (el:Int)>((aE c:Nat):Int):=hg;omega
     have ew:=Cu e1 lt (by omega) hg
     rw [ew] at q kl lj l60
     rw [List.length_cons] at kl lj l60
     have k1:1≤ks.length:=by omega
     have ex:enK (ks.getD (ks.length - 1) (.inl 0)):=en _ (by
      rw [List.getD_eq_getElem?_getD,List.getElem?_eq_getElem (by omega)];exact List.getElem_mem _)
     refine ⟨-1,rfl,.inl (.inr ⟨P,_,rfl,hP,fun P1 H1 S1 hP1=>?_⟩)⟩
     have hP1:H1 P1=some (.tup (ks.dropLast.map kV)):=by rw [hP1,xf,List.map_dropLast]
     refine ⟨f,b,P1,aE c,el,ks.dropLast,g,m,rfl,s.same (Nat.le_refl _) S1,hn,e1,hg,by omega,hP1,by rw [List.length_dropLast];omega,by omega,by omega,fun k hk=>en k (by rw [List.dropLast_eq_take] at hk;exact List.mem_of_mem_take hk),fun p y o g1 H2 kb1 s1 sub1 hp oky oko szy szo eq=>?_⟩
     refine ⟨p,_,rfl,SqT.of hp,rfl,_,_,rfl,_,_,rfl,rfl,?_⟩
     have kb0:=(aG.same S1).trans kb1
     have hP2:H2 P=some (.tup (ks.map kV)):=kb1.obj (s.same (Nat.le_refl m) S1).bb (S1 _ _ hP) (fun _ z=>nomatch z)
     refine ⟨f,rfl,s1.clo,zG hP2 k1 ⟨ax (show 3≤1000000 by decide),fun p1 h1=>?_⟩⟩
     dsimp only [af]
     refine gP s1 (by omega) oky ex.1 (L:=(bf (aE c) el).length) (by have:=ex.2;omega) (by omega) (fun v g2 H3 kb2 s2 sub2 gv okv szv=>?_) p1 h1
     refine ⟨ax (show 2≤1000000 by decide),fun r hr=>?_⟩
     refine q r v o g2 _ (kb0.trans (kb2.trans (aG.same (ao.upd hr)))) (s2.same (by rw [List.length_cons];omega) (ao.upd hr)) (sub1.trans sub2) ai okv oko (by rw [List.length_cons];exact szv) (by rw [List.length_cons];omega) fun h eh=>?_
     have e0:=eq h (Ext.of sub2 eh)
     show (v,o)=(h [.inr "joint",(tpF h (bf (aE c) el) ks.dropLast).1,ks.getD (ks.length - 1) (.inl 0)],(tpF h (bf (aE c) el) ks.dropLast).2)
     rw [← e0,eh _ _ gv]
theorem Cw (K:W.Frag) (A:Adr):Ln (lD K A) 4:=by rintro vs H Q E ⟨f,b,P,c,el,ks,g,m,rfl,_⟩;rfl
theorem mZ {H:Hp} {f b:Addr} {g:List Key→Option Key} {n c:Nat} {y:Key} {Q:VK} (s:Stp A H f b g n) (hn:n≤40000) (hc:c<2^60) (hy:okP y=true) (sz:szK y≤20000)
  (q:∀ (v:Key) (g':List Key→Option Key) (H':Hp),aG b H H'→Stp A H' f b g' (n+1)→Sub g g'→g' [.inr "row",.inl (c:Int),y]=some v→okP v=true→szK v≤50000→Q (kV v) H'):
  ∀ p1,H p1=none→iL (cD K A) f [.ref p1] (upd H p1 (.tup [.str "row",.int (c:Int),kV y])) Q E0:=fun p1 h1=>by
 have hk:upd H p1 (.tup [.str "row",.int (c:Int),kV y]) p1=some (.tup (([.inr "row",.inl (c:Int),y]:List Key).map kV)):=ai
 refine dn (s.same (Nat.le_refl _) (ao.upd h1)) (by omega) hk (ge hc hy) fun v H' g' kb s' sub gv st=>?_
 have szt:szT [.inr "row",.inl (c:Int),y]=65+(62+szK y):=by rw [sz3,szW.2.2.2];rfl
 exact q v g' H' ((aG.same (ao.upd h1)).trans kb) s' sub gv (dE st (by omega)) (by have:=fj st;omega)
theorem Fr (T:Txt K mg A):Rd (lD K A) (Iz K A) ["_law_stamper_here", "_law_count", "_law_elder", "_law_marks", "_law_void", "_law_tops_here"]:=by
 intro vs H Q E h
 obtain ⟨f,b,P,c,el,ks,g,m,rfl,s,hn,ec,c2,hP,kl,en,q⟩:=h
 refine ⟨f,rfl,s.clo,ax (show 1≤1000000 by decide),fun p0 hp0=>?_⟩
 have hk0:upd H p0 (.tup [.str "void"]) p0=some (.tup (([.inr "void"]:List Key).map kV)):=ai
 dsimp only [af]
 refine dn (s.same (Nat.le_refl _) (ao.upd hp0)) (by omega) hk0 gx fun vo H1 g1 kb1 s1 sub1 gv1 st1=>⟨ax (show 2≤1000000 by decide),fun t0 ht0=>?_⟩
 have kb1:=(aG.same (ao.upd hp0)).trans kb1
 have okv:=dE st1 (by rw [sz1,szW.1];decide)
 have szv:szK vo≤200:=Nat.le_trans (fj st1) (by rw [sz1,szW.1];decide)
 have hP1:H1 P=some (.tup (ks.map kV)):=kb1.obj s.bb hP (fun _ z=>nomatch z)
 have S2:=ao.upd (o:=.tup [kV vo,kV vo]) ht0
 have s2:=s1.same (Nat.le_refl _) S2
 have hP2:=S2 _ _ hP1
 have ht2:upd H1 t0 (.tup [kV vo,kV vo]) t0=some (.tup [kV vo,kV vo]):=ai
 generalize upd H1 t0 (.tup [kV vo,kV vo])=H2 at*
 have kb2:=kb1.trans (aG.same S2)
 have fin:∀ (R:Addr) (y o:Key) (g3:List Key→Option Key) (H3:Hp) (k:Nat),aG b H H3→Stp A H3 f b g3 (m+k)→k≤125→Sub g g3→H3 R=some (.tup [kV y,kV o])→okP y=true→okP o=true→szK y≤20000→szK o≤20000→(∀ h,Ext g3 h→yT h c el ks=[.inr "row",.inl (c:Int),y]∧oT h c el ks=[.inr "row",.inl (el:Int),o])→
     Cc K A { nx:=fun _ H'=>Q .non H',rt:=Q } [some (.ref f),some (.int (c:Int)),some (.int (el:Int)),some (.ref P),some (kV vo),some (.ref R)] H3:=fun R y o g3 H3 k kb3 s3 hk sub3 hR oky oko szy szo eq=>by
   refine ⟨f,rfl,s3.clo,ixT (j:=0) hR rfl rfl ⟨ax (show 3≤1000000 by decide),fun p1 h1=>?_⟩⟩
   dsimp only [af]
   refine mZ s3 (by omega) c2 oky szy (fun v g4 H4 kb4 s4 sub4 gv4 okv4 szv4=>?_) p1 h1
   have hR4:H4 R=some (.tup [kV y,kV o]):=kb4.obj s3.bb hR (fun _ z=>nomatch z)
   refine ⟨f,rfl,s4.clo,ixT (j:=1) hR4 rfl rfl ⟨ax (show 3≤1000000 by decide),fun p2 h2=>?_⟩⟩
   dsimp only [af]
   refine mZ s4 (by omega) (by omega) oko szo (fun u g5 H5 kb5 s5 sub5 gu5 oku5 szu5=>⟨ax (show 2≤1000000 by decide),fun p hp=>?_⟩) p2 h2
   refine q p v u g5 _ (kb3.trans (kb4.trans (kb5.trans (aG.same (ao.upd hp))))) (s5.same (by omega) (ao.upd hp)) (sub3.trans (sub4.trans sub5)) ai okv4 szv4 fun h eh=>?_
   obtain ⟨e1,e2⟩:=eq h (Ext.of (sub4.trans sub5) eh)
   rw [e1,e2,eh _ _ (sub5 _ _ gv4),eh _ _ gu5]
   exact ⟨rfl,rfl⟩
 refine Sel.dec (fun he=>?_) (fun he=>?_)
 · have e1:1≤el:=by have he:(el:Int)>0:=he;omega
   have c1:1≤c:=by omega
   rw [eG c1] at kl
   have l60:=iz c el
   refine ⟨f,b,P,c,el,ks,g1,m+1,rfl,s2,by omega,e1,ec,c2,hP2,kl,by omega,l60,en,fun p y o g3 H3 kb3 s3 sub3 hp oky oko szy szo eq=>?_⟩
   refine fin p y o g3 H3 (1+2*(bf c el).length) (kb2.trans kb3) (s3.same (by omega) (.refl _)) (by omega) (sub1.trans sub3) hp oky oko (by omega) (by omega) fun h eh=>?_
   rw [yh c1 kl,Fc e1 kl,←eq h eh]
   exact ⟨rfl,rfl⟩
 · have e0:el=0:=by have he:¬ (el:Int)>0:=he;omega
   subst e0
   have ot:∀ h,Ext g1 h→oT h c 0 ks=[.inr "row",.inl ((0:Nat):Int),vo]:=fun h eh=>by
     unfold oT jp;rw [if_pos rfl,eh _ _ gv1]
   refine Sel.dec (fun hc=>?_) (fun hc=>?_)
   · have c1:1≤c:=by have hc:(c:Int)>0:=hc;omega
     have ew:bf c 0=[]:=dy (.inl rfl)
     have kl':ks.length=(bf c 0).length+1:=by rw [kl,eG c1]
     rw [ew] at kl'
     obtain ⟨x,hx⟩:∃ x,ks[0]?=some x:=⟨_,List.getElem?_eq_getElem (by rw [kl'];simp)⟩
     have ex:=en x (List.mem_of_getElem? hx)
     refine ixT (j:=0) hP2 rfl (by rw [List.getElem?_map,hx];rfl) ⟨ax (show 2≤1000000 by decide),fun R hR=>?_⟩
     refine fin R x vo g1 _ 1 (kb2.trans (aG.same (ao.upd hR))) (s2.same (Nat.le_refl _) (ao.upd hR)) (by omega) sub1 ai ex.1 okv (by have:=ex.2;omega) (by omega) fun h eh=>⟨?_,ot h eh⟩
     rw [yh c1 (by rw [kl,eG c1]),ew]
     show [_,_,ks.getD 0 (.inl 0)]=_
     rw [List.getD_eq_getElem?_getD,hx];rfl
   · have c0:c=0:=by have hc:¬ (c:Int)>0:=hc;omega
     subst c0
     refine fin t0 vo vo g1 H2 1 kb2 s2 (by omega) sub1 ht2 okv okv (by omega) (by omega) fun h eh=>⟨?_,ot h eh⟩
     unfold yT
     rw [if_pos rfl,eh _ _ gv1];rfl
end Rs
namespace Rs
open PySem PySem.Spec PyProof.Rows L2
variable {K:W.Frag} {mg:Str→Option Value} {A:Adr}
theorem Ft (K:W.Frag) (A:Adr):Ln (oP K A) 3:=by rintro vs H Q E ⟨x,f,L,D,es,kvs,v,w,d,e,rfl,_⟩;rfl
theorem HY (T : Txt K mg A) : Rd (oP K A) (T_7 K A) ["self", "count", "elder"] := by
  intro vs H Q E h
  obtain ⟨x, f, L, D, es, kvs, v, w, d, e, rfl, r, hd, he, q⟩ := h
  obtain ⟨dx, hx⟩ := r.ob
  refine ⟨v, d, w, e, rfl, hd, he, ?_⟩
  cases hE : aW d e with
  | false => rw [hE] at q; exact Sel.f q
  | true =>
    rw [hE] at q
    obtain ⟨c, el, rfl, rfl, _, _⟩ := gF hE
    cases hd.int_inv
    exact Sel.t ⟨x, dx, _, rfl, hx, rfl, x, f, L, D, es, kvs, rfl, r, q⟩
theorem Go (K:W.Frag) (A:Adr):Ln (jG K A) 2:=by rintro vs H Q E ⟨x,f,L,D,b,es,kvs,g,n,v,d,rfl,_⟩;rfl
theorem Aw {es:List Key} {d:Dat}:(aW (.int (es.length:Int)) d&&leD (es.length:Int) (.int (es.length:Int)))=aW (.int (es.length:Int)) d:=by
 have e:leD (es.length:Int) (.int (es.length:Int))=true:=decide_eq_true (Int.le_refl _)
 rw [e,Bool.and_true]
theorem HP (T : Txt K mg A) (vs : List V) (H : Hp) (Q : VK) (E : XK) (h : jG K A vs H Q E) : T_8 K A E { nx := fun _ H' => Q .non H', rt := Q } (L2.start ["self", "count"] vs) H := by
  obtain ⟨x, f, L, D, b, es, kvs, g, n, v, d, rfl, r, hn, hd, qE, q⟩ := h
  obtain ⟨dx, hx⟩ := r.r.ob
  have l60 := r.r.le
  refine ⟨x, dx, _, rfl, hx, rfl, x, dx, _, rfl, hx, rfl, x, f, L, D, es, kvs, rfl, r.r, x, f, L, D, es, kvs, _, _, _, _, rfl, r.r, .int _, hd, ?_⟩
  rw [Aw]
  cases hE : aW (.int (es.length : Int)) d with
  | false => exact Sel.t (qE hE)
  | true =>
    refine Sel.f ?_
    obtain ⟨c', c, e1, rfl, hc, _⟩ := gF hE
    cases dA e1
    cases hd.int_inv
    have q := q c rfl hc
    refine ⟨x, dx, _, f, rfl, hx, rfl, r.s.clo, x, dx, _, rfl, hx, rfl, x, f, L, D, b, es, kvs, g, n, 0, c, rfl, r, by omega, by omega, by omega, fun v kvs1 g1 H1 k1 r1 s1 ok1 sz1' e1 => ⟨ax (show 3 ≤ 1000000 by decide), fun p hp => ?_⟩⟩
    have S2 : ao H1 (upd H1 p (.tup [.str "row", .int (c : Int), kV v])) := ao.upd hp
    have hp2 : upd H1 p (.tup [.str "row", .int (c : Int), kV v]) p = some (.tup (([.inr "row", .inl (c : Int), v] : List Key).map kV)) := ai
    have r2 := r1.same S2 (Nat.le_refl _)
    dsimp only [af]
    refine dn r2.s (by omega) hp2 (ge (by omega) ok1) fun w H3 g3 kb s3 sub3 gv st => ?_
    have e2 : (es.drop 0).take c = es.take c := rfl
    rw [e2] at e1
    have hl : (es.take c).length = c := by rw [List.length_take]; omega
    refine q w kvs1 g3 H3 ((k1.trans (bC.same S2)).trans (bC.kb kb)) ((r2.call kb s3 sub3 (Nat.le_succ _)).same ao.rfl' (by omega)) (s1.trans sub3) (dE st ?_) fun h eh => ?_
    · rw [sz3, szW.2.2.2]
      unfold szB at sz1'
      show 65 + (62 + _) ≤ _
      omega
    · rw [← eh _ _ gv]
      unfold Bj
      rw [hl, ← e1 h (Ext.of sub3 eh)]
theorem DM (K:W.Frag) (A:Adr) (n:Nat):Ln (kJ K A n) 4:=by rintro vs H Q E ⟨x,f,L,D,b,es,kvs,g,N,a,m,e,rfl,_⟩;rfl
theorem AC (K:W.Frag) (A:Adr):∀ vs H Q E,kJ K A 0 vs H Q E→False:=by rintro vs H Q E ⟨x,f,L,D,b,es,kvs,g,N,a,m,e,rfl,_,_,_,_,h,_⟩;omega
theorem II (T:Txt K mg A) (n:Nat):Rd (kJ K A (n+1)) (T_5 K A n) ["self", "first", "many", "elder", "ahead"]:=by
 intro vs H Q E h
 obtain ⟨x,f,L,D,b,es,kvs,g,N,a,m,e,rfl,r,ham,m1,em,hm,hN,q⟩:=h
 have l60:=r.r.le
 obtain ⟨dx,hx⟩:=r.r.ob
 have fin:aD (aO (aa (bx A.c_Row "top_of" (dO K A 70) (fun _=>E0) (ad 0) (aa (ad 1) (aa (ad 2) (af)))) (af))) { nx:=fun _ H'=>Q .non H',rt:=Q } [some (.ref x),some (.int (a:Int)),some (.int (m:Int)),some (.int (e:Int)),none] H:=by
   refine ⟨x,dx,_,rfl,hx,rfl,x,f,L,D,b,es,kvs,g,N,a,m,rfl,r,ham,by omega,by omega,fun v kvs' g' H' k1 r1 s1 ok1 sz1' e1=>⟨ax (show 1≤1000000 by decide),fun p hp=>?_⟩⟩
   exact q p [kV v] kvs' g' _ (k1.trans (bC.same (ao.upd hp))) (r1.same (ao.upd hp) (by omega)) s1 ai m1
 refine Sel.dec (fun h=>Sel.t fin) (fun h0=>Sel.dec (fun h=>fin) (fun h1=>?_))
 have m2:2≤m:=by omega
 obtain ⟨g1,g2⟩:=jN m2
 refine ⟨m,rfl,m2,by omega,Sel.dec (fun h=>?_) (fun h=>?_)⟩
 · have hle:e≤aE m:=by have:(e:Int)≤((aE m:Nat):Int):=h;omega
   refine ⟨x,dx,_,rfl,hx,rfl,x,f,L,D,b,es,kvs,g,N,a,aE m,e,rfl,r,by omega,g1,hle,by omega,by omega,fun p xs kvs1 g1' H1 k1 r1 s1 hp xl=>?_⟩
   obtain ⟨dx1,hx1⟩:=r1.r.ob
   refine ⟨x,dx1,_,rfl,hx1,rfl,x,f,L,D,b,es,kvs1,g1',_,a+aE m,m - aE m,?_,r1,by omega,by omega,by omega,fun v kvs2 g2' H2 k2 r2 s2 ok2 sz2' e2=>⟨ax (show 1≤1000000 by decide),fun p2 hp2=>?_⟩⟩
   · rw [Int.natCast_add,Int.ofNat_sub (by omega)]
   · obtain ⟨n1,n2⟩:=r1.n2 hp (fun _ z=>nomatch z) (fun _ z=>nomatch z)
     have hp':=k2 _ _ n1 n2 hp
     refine .inr ⟨p,p2,xs,[kV v],rfl,rfl,by rw [aq (ay hp' hp2)];exact hp',ai,ax (by show xs.length+1≤_;omega),fun p3 H3 S3 hp3=>?_⟩
     exact q p3 (xs++[kV v]) kvs2 g2' H3 ((k1.trans k2).trans ((bC.same (ao.upd hp2)).trans (bC.same S3))) ((r2.same (ao.upd hp2) (Nat.le_refl _)).same S3 (by omega)) (s1.trans s2) hp3 (by rw [List.length_append];show _+1≤_;omega)
 · have hgt:aE m<e:=by have:¬ (e:Int)≤((aE m:Nat):Int):=h;omega
   refine ⟨x,dx,_,rfl,hx,rfl,x,f,L,D,b,es,kvs,g,N,a,aE m,rfl,r,by omega,by omega,by omega,fun v kvs1 g1' H1 k1 r1 s1 ok1 sz1' e1=>⟨ax (show 1≤1000000 by decide),fun p hp=>?_⟩⟩
   have r1':=r1.same (ao.upd (o:=.tup [kV v]) hp) (Nat.le_refl _)
   obtain ⟨dx1,hx1⟩:=r1'.r.ob
   refine ⟨x,dx1,_,rfl,hx1,rfl,x,f,L,D,b,es,kvs1,g1',_,a+aE m,m - aE m,e - aE m,?_,r1',by omega,by omega,by omega,by omega,by omega,fun p2 xs kvs2 g2' H2 k2 r2 s2 hp2 xl=>?_⟩
   · rw [Int.natCast_add,Int.ofNat_sub (by omega),Int.ofNat_sub (by omega)]
   · obtain ⟨n1,n2⟩:=r1'.n2 (o:=.tup [kV v]) ai (fun _ z=>nomatch z) (fun _ z=>nomatch z)
     refine .inr ⟨p,p2,[kV v],xs,rfl,rfl,k2 _ _ n1 n2 ai,hp2,ax (by show 1+xs.length≤_;omega),fun p3 H3 S3 hp3=>?_⟩
     exact q p3 ([kV v]++xs) kvs2 g2' H3 (((k1.trans (bC.same (ao.upd hp))).trans k2).trans (bC.same S3)) (r2.same S3 (by omega)) (s1.trans s2) hp3 (by rw [List.length_append];show 1+_≤_;omega)
theorem Ew (K:W.Frag) (A:Adr):Ln (sK K A) 3:=by rintro vs H Q E ⟨x,f,L,D,b,es,kvs,g,n,v,w,d,e,rfl,_⟩;rfl
theorem Ib (T : Txt K mg A) (vs : List V) (H : Hp) (Q : VK) (E : XK) (h : sK K A vs H Q E) : T_6 K A E { nx := fun _ H' => Q .non H', rt := Q } (L2.start ["self", "count", "elder"] vs) H := by
  obtain ⟨x, f, L, D, b, es, kvs, g, n, v, w, d, e, rfl, r, hn, hd, he, qE, q⟩ := h
  obtain ⟨dx, hx⟩ := r.r.ob
  have l60 := r.r.le
  refine ⟨x, dx, _, rfl, hx, rfl, x, f, L, D, es, kvs, v, w, d, e, rfl, r.r, hd, he, ?_⟩
  cases hE : (aW d e && leD (es.length : Int) d) with
  | false => exact Sel.t (qE hE)
  | true =>
    refine Sel.f ?_
    have q2 := q hE
    clear q qE
    obtain ⟨h1, h2⟩ := Bool.and_eq_true_iff.mp hE
    obtain ⟨c, el, rfl, rfl, ec, _⟩ := gF h1
    cases hd.int_inv
    cases he.int_inv
    have hc : (c : Int) ≤ (es.length : Int) := of_decide_eq_true h2
    refine Sel.dec (fun h => ?_) (fun h => ?_)
    · have c1 : 1 ≤ c := by have h : (c : Int) > 0 := h; omega
      exact ⟨x, dx, _, rfl, hx, rfl, x, f, L, D, b, es, kvs, g, n, 0, c, el, rfl, r, by omega, c1, ec, by omega, by omega, fun p xs kvs' g' H' k1 r1 s1 _ _ => q2 _ kvs' g' H' k1 (r1.same ao.rfl' (by omega)) s1⟩
    · exact ⟨ax (show 0 ≤ 1000000 by decide), fun p hp => q2 _ kvs g _ (bC.same (ao.upd hp)) (r.same (ao.upd hp) (by omega)) Sub.rfl'⟩
theorem BA (K:W.Frag) (A:Adr):Ln (jJ K A) 4:=by rintro vs H Q E ⟨what,x,f,L,D,b,es,kvs,g,n,v,w,d,e,rfl,_⟩;rfl
theorem ED (T:Txt K mg A):Rd (jJ K A) (HL K A) ["_law_what", "_law_row", "_law_one", "_law_other_here", "_law_caught_here", "e"]:=by
 intro vs H Q E h
 obtain ⟨what,x,f,L,D,b,es,kvs,g,n,v,w,d,e,rfl,r,hn,hd,he,q⟩:=h
 obtain ⟨dx,hx⟩:=r.r.ob
 have cau:gw es what d e=some 1→hAs K A.c_StampError 5 (aA (ad 5) (aw 4)) lL { nx:=aD (ad 4) { nx:=fun _ H'=>Q .non H',rt:=Q },rt:=Q } [some (.int what),some (.ref x),some v,some w,some .non,none] (cE A 1) none H:=fun eo=>by
   refine ⟨true,sbE T 1 (by decide),Sel.t fun ah hah=>?_⟩
   refine q (.ref ah) kvs g _ (bC.same (ao.upd hah)) (r.same (ao.upd hah) (by omega)) Sub.rfl' ?_
   rw [eo]
   exact ⟨by decide,ah,none,rfl,ai⟩
 refine Sel.dec (fun hw=>?_) (fun hw=>?_)
 · have hw:what=0:=hw
   refine ⟨x,dx,_,rfl,hx,rfl,x,f,L,D,b,es,kvs,g,n,v,d,rfl,r,by omega,hd,fun hF=>⟨_,rfl,eoE T 1 (by decide),cau ?_⟩,fun c ed hc u kvs' g' H' k1 r1 s1 _ _=>?_⟩
   · unfold gw;rw [if_pos hw,hF];rfl
   · refine q .non kvs' g' H' k1 r1 s1 ?_
     unfold gw
     have l60:=r.r.le
     rw [if_pos hw,ed,cT hc (by omega)];rfl
 · have hw:¬ what=0:=hw
   refine ⟨x,dx,_,rfl,hx,rfl,x,f,L,D,b,es,kvs,g,n,v,w,d,e,rfl,r,hn,hd,he,fun hF=>⟨_,rfl,eoE T 1 (by decide),cau ?_⟩,fun hT u kvs' g' H' k1 r1 s1=>?_⟩
   · unfold gw;rw [if_neg hw,hF];rfl
   · refine q .non kvs' g' H' k1 r1 s1 ?_
     unfold gw
     rw [if_neg hw,hT];rfl
end Rs
namespace Rs
open PySem PySem.Spec PyProof.Rows L2
variable {K:W.Frag} {mg:Str→Option Value} {A:Adr}
structure Flg (c el:Nat) (ks:List Key) (b1 b2:Bool) (e k:Dat):Prop where
 he:b1=false→e=.int (el:Int)
 he':b1=true→aW (.int (c:Int)) e=false
 hk:b2=false→eS k (bI c el) ks
 hk':b2=true→cx (bI c el) k=false
theorem Ask.same {H H':Hp} {f b:Addr} {g:List Key→Option Key} {n:Nat} {w m:V} {e k:Dat} (a:Ask A H f b g n w m e k) (S:ao H H'):Ask A H' f b g n w m e k:=⟨a.s.same (Nat.le_refl _) S,a.hn,a.he.mono S,a.hm.mono S,a.sh⟩
mutual
theorem aJ.keepB {b:Addr} {H H':Hp} (kb:aG b H H') (bb:(∃ φ,H b=some (.ext φ))∨∃ kvs,H b=some (.dT kvs)):∀ {v:V} {d:Dat},aJ H v d→aJ H' v d
 | _,_,.non=> .non
 | _,_,.bl b=> .bl b
 | _,_,.int i=> .int i
 | _,_,.str z=> .str z
 | _,_,.lst e r=> .lst (kb.obj bb e (fun _ z=>nomatch z)) (DatWs.keepB kb bb r)
 | _,_,.tup e r=> .tup (kb.obj bb e (fun _ z=>nomatch z)) (DatWs.keepB kb bb r)
 | _,_,.dic ⟨k,e⟩=> .dic ⟨k,kb.obj bb e (fun _ z=>nomatch z)⟩
theorem DatWs.keepB {b:Addr} {H H':Hp} (kb:aG b H H') (bb:(∃ φ,H b=some (.ext φ))∨∃ kvs,H b=some (.dT kvs)):∀ {xs:List V} {ds:List Dat},DatWs H xs ds→DatWs H' xs ds
 | _,_,.nil=> .nil
 | _,_,.cons a r=> .cons (aJ.keepB kb bb a) (DatWs.keepB kb bb r)
end
theorem kK {d e:Dat} (h:bv d=false):aW d e=false:=by unfold aW;rw [h];rfl
theorem yY {c el : Nat} {ks : List Key} {b0 b1 b2 : Bool} {d e k : Dat} (ec : el ≤ c) (c2 : c < 2 ^ 60) (F : Flg c el ks b1 b2 e k) (h0 : b0 = true → bv d = false) (h0' : b0 = false → d = .int (c : Int)) : ph d e k (eX [false, b0 || b1, b2]) := by
  cases b0 with
  | true => exact .place (kK (h0 rfl))
  | false =>
    have ed := h0' rfl
    subst ed
    cases b1 with
    | true => exact .place (F.he' rfl)
    | false =>
      cases b2 with
      | true => exact .paper c el rfl (F.he rfl) ec c2 (F.hk' rfl)
      | false => exact .good c el ks rfl (F.he rfl) ec c2 (F.hk rfl)
theorem qM {g : List Key → Option Key} {c el : Nat} {ks : List Key} {b0 b1 b2 : Bool} {d e k : Dat} {mk mo : Key} (ec : el ≤ c) (c2 : c < 2 ^ 60) (F : Flg c el ks b1 b2 e k) (ok : okP mo = true) (h0 : b0 = true → cN d = false) (h0' : b0 = false → d = .tup [.int (c : Int), bX mo]) (ht : ∀ h, Ext g h → mk = h (yT h c el ks)) :
    jy g d e k (eX [b0, b1, b2, !decide (mo = mk)]) := by
  cases b0 with
  | true => exact .head (h0 rfl)
  | false =>
    have ed := h0' rfl
    subst ed
    cases b1 with
    | true => exact .place c mo rfl c2 ok (F.he' rfl)
    | false =>
      cases b2 with
      | true => exact .paper c el mo rfl c2 ok (F.he rfl) ec (F.hk' rfl)
      | false =>
        have h := jy.good (g := g) c el mo mk ks rfl c2 ok (F.he rfl) ec (F.hk rfl) ht
        by_cases e : mo = mk
        · rw [if_pos e.symm] at h; rw [decide_eq_true e]; exact h
        · rw [if_neg (Ne.symm e)] at h; rw [decide_eq_false e]; exact h
theorem CN (K:W.Frag) (A:Adr):Ln (lI K A) 6:=by rintro vs H Q E ⟨f,b,a,P,ns,c,el,ks,mk,g,n,rfl,_⟩;rfl
theorem FF (T : Txt K mg A) : Rd (lI K A) (Hu K A) ["_law_stamper_here", "_law_script", "_law_count", "_law_elder", "_law_marks", "_law_mark", "_law_wrong", "_law_more", "_law_top", "_law_due", "_law_head", "_law_other_here"] := by
  intro vs H Q E h
  obtain ⟨f, b, a, P, ns, c, el, ks, mk, g, n, rfl, s, hn, hs, ec, c2, hP, kl, en, okm, szm, ht, q⟩ := h
  have last : ∀ (W M : Addr) (b0 b1 b2 b3 oth : Bool) (zs : List Int) (w m hv x8 x9 : V) (e k d : Dat) (g' : List Key → Option Key) (H' : Hp) (n' : Nat), n' + 132 ≤ n + 300 → aG b H H' → Sub g g' → Ask A H' f b g' n' w m e k → aJ H' hv d → H' W = some (.lst [.bl b0, .bl b1, .bl b2, .bl b3]) → jy g' d e k (eX [b0, b1, b2, oth]) →
      qY K A { nx := fun _ H' => Q .non H', rt := Q } [some (.ref f), some (.ref a), some (.int (c : Int)), some w, some m, some (kV mk), some (.ref W), some (.ref M), some x8, some x9, some hv, some (.bl oth)] H' := fun W M b0 b1 b2 b3 oth zs w m hv x8 x9 e k d g' H' n' hn' kb sub ask hd hW due => by
    refine ixL (j := 0) hW rfl rfl (ixL (j := 1) hW rfl rfl (ixL (j := 2) hW rfl rfl ⟨ax (show 4 ≤ 1000000 by decide), fun L hL => ?_⟩))
    refine ⟨L, [b0, b1, b2, oth], rfl, ai, (show 4 ≤ 100 by decide), ?_⟩
    have S := ao.upd (o := .lst [V.bl b0, .bl b1, .bl b2, .bl oth]) hL
    refine ⟨1, f, b, g', n', hv, w, m, d, e, k, _, rfl, ask.same S, hd.mono S, .inr ⟨rfl, due⟩, fun u g2 H2 kb2 s2 sub2 cau => ⟨u, _, rfl, cau, fun H3 S3 => ?_⟩⟩
    exact q g2 H3 (kb.trans ((aG.same S).trans (kb2.trans (aG.same S3)))) (s2.same (by omega) S3) (sub.trans sub2)
  have from8 : ∀ (W M : Addr) (b0 b1 b2 b3 : Bool) (z0 z1 z2 z3 : Int) (w m x8 x9 : V) (e k : Dat) (g' : List Key → Option Key) (H' : Hp) (n' : Nat), n' + 132 ≤ n + 300 → aG b H H' → Sub g g' → Ask A H' f b g' n' w m e k → Flg c el ks b1 b2 e k → H' W = some (.lst [.bl b0, .bl b1, .bl b2, .bl b3]) → H' M = some (.lst [.int z0, .int z1, .int z2, .int z3]) →
      tG K A { nx := fun _ H' => Q .non H', rt := Q } [some (.ref f), some (.ref a), some (.int (c : Int)), some w, some m, some (kV mk), some (.ref W), some (.ref M), some x8, some x9, none, none] H' := fun W M b0 b1 b2 b3 z0 z1 z2 z3 w m x8 x9 e k g' H' n' hn' kb sub ask F hW hM => by
    refine ⟨ax (show 2 ≤ 1000000 by decide), fun hd0 hh0 => ?_⟩
    have S1 := ao.upd (o := .tup [V.int (c : Int), kV mk]) hh0
    have eh0 : upd H' hd0 (.tup [V.int (c : Int), kV mk]) hd0 = some (.tup [V.int (c : Int), kV mk]) := ai
    generalize upd H' hd0 (.tup [V.int (c : Int), kV mk]) = H1 at *
    have from10 : ∀ (hd : Addr) (mo : Key) (H2 : Hp), ao H1 H2 → okP mo = true → H2 hd = some (.tup [.int (c : Int), kV mo]) →
        qR K A { nx := fun _ H' => Q .non H', rt := Q } [some (.ref f), some (.ref a), some (.int (c : Int)), some w, some m, some (kV mk), some (.ref W), some (.ref M), some x8, some x9, some (.ref hd), none] H2 := fun hd mo H2 S2 okmo ehd => by
      have S := S1.trans S2
      refine ixT (j := 1) ehd rfl rfl (jE ?_)
      have htg : ∀ h, Ext g' h → mk = h (yT h c el ks) := fun h eh => ht h (Ext.of sub eh)
      have wd : aJ H2 (.ref hd) (.tup [.int (c : Int), bX mo]) := .tup ehd (.cons (.int _) (.cons (cO mo) .nil))
      refine ixL (j := 0) (S _ _ hW) rfl rfl ?_
      cases b0 with
      | false => exact Sel.f (last W M false b1 b2 b3 _ [] w m (.ref hd) x8 x9 e k _ g' H2 n' hn' (kb.trans (aG.same S)) sub (ask.same S) wd (S _ _ hW) (qM ec c2 F okmo (fun z => nomatch z) (fun _ => rfl) htg))
      | true =>
        refine Sel.t (ixL (j := 0) (S _ _ hM) rfl rfl ⟨z0, c, mk, rfl, c2, fun v d H3 S3 wv nv => ?_⟩)
        have S4 := S.trans S3
        exact last W M true b1 b2 b3 _ [] w m v x8 x9 e k d g' H3 n' hn' (kb.trans (aG.same S4)) sub (ask.same S4) wv (S4 _ _ hW) (qM (mo := mo) ec c2 F okmo (fun _ => nv) (fun z => nomatch z) htg)
    refine ixL (j := 3) (S1 _ _ hW) rfl rfl ?_
    cases b3 with
    | false => exact Sel.f (from10 hd0 mk H1 (.refl _) okm eh0)
    | true =>
      refine Sel.t (ixL (j := 3) (S1 _ _ hM) rfl rfl ⟨z3, mk, rfl, okm, szm, fun mo H2 S2 okmo => ⟨ax (show 2 ≤ 1000000 by decide), fun hd1 hh1 => ?_⟩⟩)
      exact from10 hd1 mo _ (S2.trans (ao.upd hh1)) okmo ai
  have from6 : ∀ (W M : Addr) (b0 b1 b2 b3 : Bool) (z0 z1 z2 z3 : Int) (w m x8 : V) (e k d : Dat) (H' : Hp), ao H H' → aJ H' w e → aJ H' m k → gT k → aJ H' x8 d → Flg c el ks b1 b2 e k → (b0 = true → bv d = false) → (b0 = false → d = .int (c : Int)) → H' W = some (.lst [.bl b0, .bl b1, .bl b2, .bl b3]) → H' M = some (.lst [.int z0, .int z1, .int z2, .int z3]) →
      tQ K A { nx := fun _ H' => Q .non H', rt := Q } [some (.ref f), some (.ref a), some (.int (c : Int)), some w, some m, some (kV mk), some (.ref W), some (.ref M), some x8, none, none, none] H' := fun W M b0 b1 b2 b3 z0 z1 z2 z3 w m x8 e k d H' S we wm sh wd F h0 h0' hW hM => by
    have go : (bQ (aa (tC (.bl false)) (aa (tC (.bl (b0 || b1))) (aa (tC (.bl b2)) (af))))) [] H' fun v H1 => ∃ L, v = .ref L ∧ H1 L = some (.lst [.bl false, .bl (b0 || b1), .bl b2]) ∧ ao H' H1 := ⟨ax (show 3 ≤ 1000000 by decide), fun L hL => ⟨L, rfl, ai, ao.upd hL⟩⟩
    have key : ∀ L, H' L = none → gK K A [.ref L] (upd H' L (.lst [.bl false, .bl (b0 || b1), .bl b2])) (fun v H1 => tP K A { nx := fun _ H' => Q .non H', rt := Q } [some (.ref f), some (.ref a), some (.int (c : Int)), some w, some m, some (kV mk), some (.ref W), some (.ref M), some x8, some v, none, none] H1) E0 := fun L hL => by
      refine ⟨L, [false, b0 || b1, b2], rfl, ai, (show 3 ≤ 100 by decide), ?_⟩
      have S1 := ao.upd (o := .lst [V.bl false, .bl (b0 || b1), .bl b2]) hL
      generalize upd H' L (.lst [.bl false, .bl (b0 || b1), .bl b2]) = H1 at *
      have SS := S.trans S1
      refine ⟨0, f, b, g, n, x8, w, m, d, e, k, _, rfl, ⟨s.same (Nat.le_refl _) SS, by omega, we.mono S1, wm.mono S1, sh⟩, wd.mono S1, .inl ⟨rfl, yY ec c2 F h0 h0'⟩, fun u g2 H2 kb2 s2 sub2 cau => ⟨u, _, rfl, cau, fun H3 S3 => Sel.f ?_⟩⟩
      have kb3 := kb2.trans (aG.same S3)
      have s1 := s.same (Nat.le_refl n) SS
      refine from8 W M b0 b1 b2 b3 z0 z1 z2 z3 w m x8 _ e k g2 H3 (n + 132) (by omega) ((aG.same SS).trans kb3) sub2 ⟨s2.same (Nat.le_refl _) S3, by omega, ?_, ?_, sh⟩ F (kb3.obj s1.bb (S1 _ _ hW) (fun _ z => nomatch z)) (kb3.obj s1.bb (S1 _ _ hM) (fun _ z => nomatch z))
      · exact aJ.keepB kb3 s1.bb (we.mono S1)
      · exact aJ.keepB kb3 s1.bb (wm.mono S1)
    refine ixL (j := 0) hW rfl rfl (Sel.mk (fun hb => ?_) (fun hb => ixL (j := 1) hW rfl rfl ?_))
    · refine ixL (j := 2) hW rfl rfl ⟨ax (show 3 ≤ 1000000 by decide), fun L hL => ?_⟩
      have e1 : (b0 || b1) = true := by rw [hb]; rfl
      rw [e1] at key
      exact key L hL
    · refine ixL (j := 2) hW rfl rfl ⟨ax (show 3 ≤ 1000000 by decide), fun L hL => ?_⟩
      have e1 : (b0 || b1) = b1 := by rw [hb]; rfl
      rw [e1] at key
      exact key L hL
  refine ⟨4, 8, rfl, ⟨by decide, by decide, by decide, by decide⟩, fun W hW => eQ (dQ.range (lo := 4) (n := 4)) (fun i ys H' => H' = upd H W (.lst ys) ∧ ∃ bs : List Bool, ys = bs.map V.bl ∧ bs.length = i) (fun _ _ _ _ _ => trivial) ⟨rfl, [], rfl, rfl⟩ ?_ ?_⟩
  · rintro i ys H' hi ⟨rfl, bs, rfl, bl⟩
    refine iB ⟨a, ns, _, rfl, (ao.upd hW).seq hs, by omega, fun z => ⟨by decide, ?_⟩⟩
    exact ⟨ai, by rw [List.length_map, bl]; exact bR (by omega), CWd.next hi ⟨by rw [eR], bs ++ [decide (z % 3 = 0)], by rw [List.map_append]; rfl, by rw [List.length_append, bl]; rfl⟩⟩
  rintro ys H' ⟨rfl, bs, rfl, bl⟩
  have S1 := ao.upd (o := .lst (bs.map V.bl)) hW
  have eW : upd H W (.lst (bs.map V.bl)) W = some (.lst (bs.map V.bl)) := ai
  generalize upd H W (.lst (bs.map V.bl)) = H1 at *
  refine ⟨4, 8, rfl, ⟨by decide, by decide, by decide, by decide⟩, fun M hM => eQ (dQ.range (lo := 4) (n := 4)) (fun i ys H' => H' = upd H1 M (.lst ys) ∧ ∃ zs : List Int, ys = zs.map V.int ∧ zs.length = i) (fun _ _ _ _ _ => trivial) ⟨rfl, [], rfl, rfl⟩ ?_ ?_⟩
  · rintro i ys H' hi ⟨rfl, zs, rfl, zl⟩
    refine iB ⟨a, ns, _, rfl, (S1.trans (ao.upd hM)).seq hs, by omega, fun z => ⟨⟨by decide, by decide⟩, ?_⟩⟩
    exact ⟨ai, by rw [List.length_map, zl]; exact bR (by omega), CWd.next hi ⟨by rw [eR], zs ++ [z / 3], by rw [List.map_append]; rfl, by rw [List.length_append, zl]; rfl⟩⟩
  rintro ys H' ⟨rfl, zs, rfl, zl⟩
  have S2 := ao.upd (o := .lst (zs.map V.int)) hM
  have eM : upd H1 M (.lst (zs.map V.int)) M = some (.lst (zs.map V.int)) := ai
  generalize upd H1 M (.lst (zs.map V.int)) = H2 at *
  have eW := S2 _ _ eW
  have S := S1.trans S2
  obtain ⟨b0, b1, b2, b3, rfl⟩ : ∃ b0 b1 b2 b3, bs = [b0, b1, b2, b3] := by
    match bs, bl with
    | [b0, b1, b2, b3], _ => exact ⟨_, _, _, _, rfl⟩
  obtain ⟨z0, z1, z2, z3, rfl⟩ : ∃ z0 z1 z2 z3, zs = [z0, z1, z2, z3] := by
    match zs, zl with
    | [z0, z1, z2, z3], _ => exact ⟨_, _, _, _, rfl⟩
  have l61 : ks.length ≤ 61 := by
    rw [kl]; unfold bI
    have := iz c el
    split <;> omega
  have shk : gT (.tup (ks.map bX)) := by show (ks.map bX).length ≤ 500; rw [List.length_map]; omega
  have M0 : eS (.tup (ks.map bX)) (bI c el) ks := ⟨rfl, kl, en⟩
  have W0 : ∀ {HH : Hp}, HH P = some (.tup (ks.map kV)) → aJ HH (.ref P) (.tup (ks.map bX)) := fun e => .tup e (dW ks)
  have from5 : ∀ (w x8 : V) (e d : Dat) (H' : Hp), ao H2 H' → aJ H' w e → aJ H' x8 d → (b1 = false → e = .int (el : Int)) → (b1 = true → aW (.int (c : Int)) e = false) → (b0 = true → bv d = false) → (b0 = false → d = .int (c : Int)) →
      uM K A { nx := fun _ H' => Q .non H', rt := Q } [some (.ref f), some (.ref a), some (.int (c : Int)), some w, some (.ref P), some (kV mk), some (.ref W), some (.ref M), some x8, none, none, none] H' := fun w x8 e d H' S' we wd he he' h0 h0' => by
    refine ixL (j := 2) (S' _ _ eW) rfl rfl ?_
    have hP' := (S.trans S') _ _ hP
    cases b2 with
    | false => exact Sel.f (from6 W M b0 b1 false b3 z0 z1 z2 z3 w (.ref P) x8 e _ d H' (S.trans S') we (W0 hP') shk wd ⟨he, he', fun _ => M0, fun z => (nomatch z)⟩ h0 h0' (S' _ _ eW) (S' _ _ eM))
    | true =>
      refine Sel.t (ixL (j := 2) (S' _ _ eM) rfl rfl ⟨z2, P, ks, rfl, hP', l61, fun v k H3 S3 wv nk shv => ?_⟩)
      exact from6 W M b0 b1 true b3 z0 z1 z2 z3 w v x8 e k d H3 ((S.trans S').trans S3) (we.mono S3) wv shv (wd.mono S3) ⟨he, he', fun z => (nomatch z), fun _ => by rw [← kl]; exact nk⟩ h0 h0' (S3 _ _ (S' _ _ eW)) (S3 _ _ (S' _ _ eM))
  have from4 : ∀ (x8 : V) (d : Dat) (H' : Hp), ao H2 H' → aJ H' x8 d → (b0 = true → bv d = false) → (b0 = false → d = .int (c : Int)) →
      AG K A { nx := fun _ H' => Q .non H', rt := Q } [some (.ref f), some (.ref a), some (.int (c : Int)), some (.int (el : Int)), some (.ref P), some (kV mk), some (.ref W), some (.ref M), some x8, none, none, none] H' := fun x8 d H' S' wd h0 h0' => by
    refine ixL (j := 1) (S' _ _ eW) rfl rfl ?_
    by_cases h : b1 = true
    · refine Sel.yes h (ixL (j := 1) (S' _ _ eM) rfl rfl ⟨z1, c, rfl, c2, fun v e H3 S3 wv ne => ?_⟩)
      exact from5 v x8 e d H3 (S'.trans S3) wv (wd.mono S3) (fun z => by rw [h] at z; cases z) (fun _ => ne) h0 h0'
    · exact Sel.no (by simpa using h) (from5 _ x8 _ d H' S' (.int _) wd (fun _ => rfl) (fun z => absurd z h) h0 h0')
  refine ixL (j := 0) eW rfl rfl ?_
  by_cases h : b0 = true
  · refine Sel.yes h (ixL (j := 0) eM rfl rfl ⟨z0, c, rfl, c2, fun v d H3 S3 wv nd => ?_⟩)
    exact from4 v d H3 S3 wv (fun _ => nd) (fun z => by rw [h] at z; cases z)
  · exact Sel.no (by simpa using h) (from4 _ _ H2 (.refl _) (.int _) (fun z => absurd z h) (fun _ => rfl))
end Rs
namespace Rs
open PySem PySem.Spec PyProof.Rows L2
variable {K:W.Frag} {mg:Str→Option Value} {A:Adr}
def Scr (K:W.Frag) (a:Addr) (xs:List V) (bad:List Addr) (H:Hp):Prop:=(∀ H',SqL K H' a xs)∨∃ o,a∉bad∧H a=some o∧∀ H',H' a=some o→SqL K H' a xs
theorem Scr.sq {a:Addr} {xs:List V} {bad:List Addr} {H:Hp} (s:Scr K a xs bad H):SqL K H a xs:=s.elim (fun h=>h H) fun ⟨o,_,h,k⟩=>k H h
theorem Scr.step {a:Addr} {xs:List V} {bad:List Addr} {H H':Hp} (s:Scr K a xs bad H) (k:∀ z o,z∉bad→H z=some o→H' z=some o):Scr K a xs bad H':=s.elim .inl fun ⟨o,n,h,q⟩=> .inr ⟨o,n,k _ _ n h,q⟩
theorem Scr.of {a:Addr} {xs:List V} {bad:List Addr} {H:Hp} (h:SqL K H a xs) (hb:∀ z∈bad,∀ o,H z=some o→(∃ φ,o=.ext φ)∨∃ kvs,o=.dT kvs):Scr K a xs bad H:=by
 rcases h with (h | ⟨o,h⟩) | h
 · refine .inr ⟨_,fun m=>?_,h,fun H' h'=> .inl (.inl h')⟩
   rcases hb a m _ h with ⟨_,z⟩ | ⟨_,z⟩ <;> cases z
 · refine .inr ⟨_,fun m=>?_,h,fun H' h'=> .inl (.inr ⟨o,h'⟩)⟩
   rcases hb a m _ h with ⟨_,z⟩ | ⟨_,z⟩ <;> cases z
 · exact .inl fun H'=> .inr h
def fV (what:Int) (n:Int) (d e:Dat):Bool:=dF (n+1) d&&(decide (what≤0)||match d with | .int i=>dF (i+1) e | _=>false)
theorem eJ {es:List Key} {what:Int} {d e:Dat} (h1:gy d=false) (h2:bv d=false) (h3:∀ m,dF m d=false):gw es what d e=if fV what es.length d e then none else some 1:=by
 unfold gw fV
 rw [cr h1,kK h2,h3,Bool.false_and,Bool.false_and,if_neg Bool.false_ne_true]
 split <;> rfl
theorem yZ {es : List Key} (l60 : es.length ≤ 60) {what : Int} (h0 : 0 ≤ what) {d e : Dat} : gw es what d e = if fV what es.length d e then none else some 1 := by
  cases d with
  | int i =>
    unfold gw fV
    by_cases hw : what = 0
    · rw [if_pos hw, decide_eq_true (show what ≤ 0 by omega), Bool.true_or, Bool.and_true]
      have e1 : aW (.int (es.length : Int)) (.int i) = dF ((es.length : Int) + 1) (.int i) := by
        show _ = decide (0 ≤ i ∧ i < (es.length : Int) + 1)
        by_cases h : 0 ≤ i ∧ i < (es.length : Int) + 1
        · rw [decide_eq_true h, jH h.1 (by omega) (by omega)]
        · rw [decide_eq_false h, iq (by omega)]
      rw [e1]
    · rw [if_neg hw, decide_eq_false (show ¬ what ≤ 0 by omega), Bool.false_or]
      show (if (aW (.int i) e && decide (i ≤ (es.length : Int))) = true then none else some 1) = if (decide (0 ≤ i ∧ i < (es.length : Int) + 1) && dF (i + 1) e) = true then none else some 1
      have e1 : (aW (.int i) e && decide (i ≤ (es.length : Int))) = (decide (0 ≤ i ∧ i < (es.length : Int) + 1) && dF (i + 1) e) := by
        by_cases h : 0 ≤ i ∧ i ≤ (es.length : Int)
        · rw [decide_eq_true h.2, decide_eq_true (show 0 ≤ i ∧ i < (es.length : Int) + 1 by omega), Bool.and_true, Bool.true_and]
          cases e with
          | int j =>
            show _ = decide (0 ≤ j ∧ j < i + 1)
            by_cases hj : 0 ≤ j ∧ j < i + 1
            · rw [decide_eq_true hj, jH hj.1 (by omega) (by omega)]
            · rw [decide_eq_false hj, iq (by omega)]
          | non => exact cr rfl
          | bl b => exact cr rfl
          | str z => exact cr rfl
          | lst e => exact cr rfl
          | tup e => exact cr rfl
          | dic => exact cr rfl
        · rw [decide_eq_false (show ¬ (0 ≤ i ∧ i < (es.length : Int) + 1) by omega), Bool.false_and]
          by_cases h2 : i ≤ (es.length : Int)
          · rw [kK (gc (.inl (by omega)))]; rfl
          · rw [decide_eq_false h2, Bool.and_false]
      rw [e1]
  | non => exact eJ rfl rfl fun _ => rfl
  | bl b => exact eJ rfl rfl fun _ => rfl
  | str z => exact eJ rfl rfl fun _ => rfl
  | lst ds => exact eJ rfl rfl fun _ => rfl
  | tup ds => exact eJ rfl rfl fun _ => rfl
  | dic => exact eJ rfl rfl fun _ => rfl
theorem vU {H:Hp} {x f L D b:Addr} {es:List Key} {g:List Key→Option Key} {n:Nat} {e:Key} (r:cw A H x f L D b es [] g n) (en:enK e) (lt:es.length<60):cw A (upd H L (.lst ((es++[e]).map kV))) x f L D b (es++[e]) [] g n:=by
 obtain ⟨dx,hx⟩:=r.r.ob
 refine ⟨⟨⟨dx,by rw [aq (bH hx r.r.hl (fun z=>nomatch z))];exact hx⟩,ai,by rw [aq (bH r.r.hd r.r.hl (fun z=>nomatch z))];exact r.r.hd,fun y hy=>?_,by rw [List.length_append];show _+1≤_;omega⟩,r.s.setL r.r.hl,fun k v h=>(nomatch h),r.db,Nat.zero_le _⟩
 rcases List.mem_append.mp hy with h | h
 · exact r.r.en y h
 · rw [List.mem_singleton.mp h];exact en
theorem Aq (K:W.Frag) (A:Adr):Ln (lA K A) 2:=by rintro vs H Q E ⟨f,b,a,ns,g,n,rfl,_⟩;rfl
theorem Fq (T : Txt K mg A) : Rd (lA K A) (Iu K A) ["_law_stamper_here", "_law_script", "_law_row", "_law_size", "_law_k", "_law_mark", "_law_cell", "_law_one", "_law_other_here", "_law_good"] := by
  intro vs H Q E h
  obtain ⟨f, b, a, ns, g, n, rfl, s, hn, hs, l63, q⟩ := h
  intro x dx hx hdx ne
  refine ⟨x, dx, f, rfl, ai, fun L D H1 k1 hL hD nLD e1 e2 e3 => ⟨rfl, ?_⟩⟩
  have S1 : ao H H1 := fun z o e => by
    have n1 : z ≠ x := ay e hx
    have n2 : z ≠ dx := ay e hdx
    exact k1 z o n1 (by rw [aq n1, aq n2]; exact e)
  obtain ⟨_, hL0⟩ := bJ hL
  obtain ⟨_, hL0⟩ := bJ hL0
  obtain ⟨_, hD0⟩ := bJ hD
  obtain ⟨_, hD0⟩ := bJ hD0
  have r1 : cw A H1 x f L D b [] [] g n := ⟨⟨⟨dx, e1⟩, e2, e3, fun _ h => (nomatch h), Nat.zero_le _⟩, s.same (Nat.le_refl _) S1, fun k v h => (nomatch h), Ne.symm (AO s.bb hD0), Nat.zero_le _⟩
  have sc0 : Scr K a (ns.map V.int) [L, D, b] H := Scr.of hs fun z hz o e => by
    rcases List.mem_cons.mp hz with rfl | hz
    · rw [hL0] at e; cases e
    rcases List.mem_cons.mp hz with rfl | hz
    · rw [hD0] at e; cases e
    rw [List.mem_singleton.mp hz] at e
    rcases s.bb with ⟨φ, h⟩ | ⟨kvs, h⟩
    · rw [h] at e; cases e; exact .inl ⟨_, rfl⟩
    · rw [h] at e; cases e; exact .inr ⟨_, rfl⟩
  have scS : ∀ {H' H'' : Hp}, Scr K a (ns.map V.int) [L, D, b] H' → ao H' H'' → Scr K a (ns.map V.int) [L, D, b] H'' := fun c S => c.step fun z o _ e => S z o e
  have sc2 : ∀ {H' H'' : Hp}, Scr K a (ns.map V.int) [L, D, b] H' → bC b D H' H'' → Scr K a (ns.map V.int) [L, D, b] H'' := fun c k => c.step fun z o n e => k z o (fun h => n (by simp [h])) (fun h => n (by simp [h])) e
  have scL : ∀ {H' : Hp} {o : HO}, Scr K a (ns.map V.int) [L, D, b] H' → Scr K a (ns.map V.int) [L, D, b] (upd H' L o) := fun c => c.step fun z o n e => by rw [aq (fun h => n (by simp [h]))]; exact e
  have sc1 := scS sc0 S1
  refine ⟨a, ns, 3, rfl, sc1.sq, by decide, fun z => ⟨by decide, ?_⟩⟩
  have z0 := Int.emod_nonneg z (show (9 : Int) ≠ 0 by decide)
  have z9 := Int.emod_lt_of_pos z (show (0 : Int) < 9 by decide)
  obtain ⟨sz, hsz⟩ := Int.eq_ofNat_of_zero_le z0
  show BJ K A _ [some (.ref f), some (.ref a), some (.ref x), some (.int (z % 9)), none, none, none, none, none, none] H1
  rw [hsz] at z9 ⊢
  refine ⟨8, 8 + (sz : Int), rfl, ⟨by decide, by decide, by omega, by omega⟩, ?_⟩
  rw [show (8 + (sz : Int) - 8).toNat = sz by omega]
  refine ju (lo := 8) (n := sz) (fun i σ H' => ∃ (es : List Key) (x4 : Option V), σ = [some (.ref f), some (.ref a), some (.ref x), some (.int (sz : Int)), x4, none, none, none, none, none] ∧ cw A H' x f L D b es [] g n ∧ es.length = i ∧ Scr K a (ns.map V.int) [L, D, b] H') ⟨[], none, rfl, r1, rfl, sc1⟩ ?_ ?_
  · rintro i σ H' hi ⟨es, x4, rfl, r, el, sc⟩
    obtain ⟨dx', hx'⟩ := r.r.ob
    refine ⟨x, dx', _, rfl, hx', rfl, a, ns, _, rfl, sc.sq, by omega, fun zc => ⟨_, rfl, fun e H2 S2 en => ?_⟩⟩
    have r2 := r.same S2 (Nat.le_refl _)
    refine ⟨x, f, L, D, es, [], e, rfl, r2.r, en, by omega, ?_⟩
    exact ⟨es ++ [e], _, rfl, vU r2 en (by omega), by rw [List.length_append, el]; rfl, scL (scS sc S2)⟩
  rintro σ H' ⟨es, x4, rfl, r, el, sc⟩
  obtain ⟨dx', hx'⟩ := r.r.ob
  have l60 := r.r.le
  refine ⟨x, dx', _, rfl, hx', rfl, x, f, L, D, b, es, [], g, n, _, .int (sz : Int), rfl, r, by omega, .int _, fun hF => ?_, fun c ec hc mk0 kvs1 g1 H2 k2 r2 sub2 okm em => ?_⟩
  · rw [el, cT (Nat.le_refl _) (by omega)] at hF; cases hF
  cases dA ec
  have sc2' := sc2 sc k2
  refine .inl (.inl ⟨_, sc2'.sq, ?_⟩)
  rw [List.length_map]
  obtain ⟨nn, hnn, n12⟩ : ∃ nn : Nat, (if (12 : Int) < (ns.length : Int) then (12 : Int) else (ns.length : Int)) = (nn : Int) ∧ nn ≤ 12 := ⟨min 12 ns.length, by split <;> omega, by omega⟩
  refine ⟨17, 17 + (if (12 : Int) < (ns.length : Int) then (12 : Int) else (ns.length : Int)), rfl, ⟨by decide, by decide, by rw [hnn]; omega, by rw [hnn]; omega⟩, ?_⟩
  rw [hnn, show (17 + (nn : Int) - 17).toNat = nn by omega]
  refine ju (lo := 17) (n := nn) (fun i σ H' => ∃ (kvs : List (List Key × Key)) (g' : List Key → Option Key) (x4 x6 x7 x8 x9 : Option V), σ = [some (.ref f), some (.ref a), some (.ref x), some (.int (sz : Int)), x4, some (kV mk0), x6, x7, x8, x9] ∧ cw A H' x f L D b es kvs g' (n + 200 + 200 * i) ∧ Sub g1 g' ∧ Scr K a (ns.map V.int) [L, D, b] H') ⟨kvs1, g1, _, none, none, none, none, rfl, r2, Sub.rfl', sc2'⟩ ?_ ?_
  · rintro i σ H3 hi ⟨kvs, g3, x4, x6, x7, x8, x9, rfl, r3, sub3, sc3⟩
    refine ⟨a, ns, _, rfl, sc3.sq, by omega, fun zc => ⟨a, ns, _, rfl, sc3.sq, by omega, fun za => ⟨za, sz, rfl, by omega, fun v1 d1 H4 S4 w1 => ?_⟩⟩⟩
    refine ⟨a, ns, _, rfl, (scS sc3 S4).sq, by omega, fun zb => ⟨⟨by decide, by decide⟩, zb / 3, sz, rfl, by omega, fun v2 d2 H5 S5 w2 => ?_⟩⟩
    have S35 := S4.trans S5
    have w1 := w1.mono S5
    refine ⟨v1, d1, _, rfl, w1, ?_⟩
    have m0 := Int.emod_nonneg zc (show (3 : Int) ≠ 0 by decide)
    have r5 := r3.same S35 (Nat.le_refl _)
    have sc5 := scS sc3 S35
    have dr : gw es (zc % 3) d1 d2 = if fV (zc % 3) es.length d1 d2 then none else some 1 := yZ r5.r.le m0
    rw [el] at dr
    have tail : ∀ (DD : eU) (gd : Bool), gd = fV (zc % 3) sz d1 d2 → (∀ σ H6, (∃ (kvs : List (List Key × Key)) (g' : List Key → Option Key) (x4 x6 x7 x8 x9 : Option V), σ = [some (.ref f), some (.ref a), some (.ref x), some (.int (sz : Int)), x4, some (kV mk0), x6, x7, x8, x9] ∧ cw A H6 x f L D b es kvs g' (n + 200 + 200 * (i + 1)) ∧ Sub g1 g' ∧ Scr K a (ns.map V.int) [L, D, b] H6) → DD.nx σ H6) →
        aR (dj (bO K (au (fG K A) (fun _ => E0) (aa (au (jJ K A) (fun _ => E0) (aa (tOp (bn) (ad 6) (tC (.int 3))) (aa (ad 2) (aa (ad 7) (aa (ad 8) (af)))))) (aa (tOp (aI K) (bQ (aa (tC (.int 1)) (aa (tUn dM (tC (.int 1))) (af)))) (tCB (pH) (aa (ad 9) (af)))) (af)))))) (aD (tC (.bl false))) (aK) DD
          [some (.ref f), some (.ref a), some (.ref x), some (.int (sz : Int)), some (.int (17 + (i : Int))), some (kV mk0), some (.int zc), some v1, some v2, some (.bl gd)] H5 := fun DD gd eg nx => by
      refine ⟨by decide, zc % 3, x, f, L, D, b, es, kvs, g3, _, v1, v2, d1, d2, rfl, r5, by omega, w1, w2, fun u kvs' g' H6 k6 r6 s6 cau => ⟨ax (show 2 ≤ 1000000 by decide), fun p hp => ?_⟩⟩
      have S7 := ao.upd (o := .lst [V.int 1, .int (-1)]) hp
      have ep : upd H6 p (.lst [V.int 1, .int (-1)]) p = some (.lst [V.int 1, .int (-1)]) := ai
      generalize upd H6 p (.lst [V.int 1, .int (-1)]) = H7 at *
      rw [dr, ← eg] at cau
      have done : ∀ H8, ao H7 H8 → DD.nx [some (.ref f), some (.ref a), some (.ref x), some (.int (sz : Int)), some (.int (17 + (i : Int))), some (kV mk0), some (.int zc), some v1, some v2, some (.bl gd)] H8 := fun H8 S8 =>
        nx _ _ ⟨kvs', g', _, _, _, _, _, rfl, r6.same (S7.trans S8) (by omega), sub3.trans s6, scS (sc2 sc5 k6) (S7.trans S8)⟩
      cases gd with
      | true => exact ixL (j := 1) ep rfl rfl ⟨u, none, rfl, cau, fun H8 S8 => Sel.f (done H8 S8)⟩
      | false =>
        obtain ⟨lt, ea, dd, eu, he⟩ := cau
        exact ixL (j := 0) ep rfl rfl ⟨u, some 1, rfl, ⟨lt, ea, dd, eu, S7 _ _ he⟩, fun H8 S8 => Sel.f (done H8 S8)⟩
    refine ⟨by decide, Sel.dec (fun hz => ?_) (fun hz => ?_)⟩
    · have hz : zc % 3 > 0 := hz
      have dz : decide (zc % 3 ≤ 0) = false := decide_eq_false (by omega)
      cases hw : dF ((sz : Int) + 1) d1 with
      | false =>
        refine Sel.f (tail _ false ?_ fun _ _ h => h)
        unfold fV; rw [hw]; rfl
      | true =>
        cases d1 with
        | int j =>
          cases w1.int_inv
          refine Sel.t ⟨v2, d2, _, rfl, w2, tail _ _ ?_ fun _ _ h => h⟩
          unfold fV
          rw [hw, dz, Bool.true_and, Bool.false_or]
        | non => cases hw
        | bl b => cases hw
        | str z => cases hw
        | lst e => cases hw
        | tup e => cases hw
        | dic => cases hw
    · have hz : ¬ zc % 3 > 0 := hz
      refine tail _ _ ?_ fun _ _ h => h
      unfold fV
      rw [decide_eq_true (show zc % 3 ≤ 0 by omega), Bool.true_or, Bool.and_true]
  · rintro σ H3 ⟨kvs, g3, x4, x6, x7, x8, x9, rfl, r3, sub3, sc3⟩
    obtain ⟨dx3, hx3⟩ := r3.r.ob
    refine ⟨x, dx3, _, rfl, hx3, rfl, x, f, L, D, es, kvs, rfl, r3.r, Sel.yes (decide_eq_true (by rw [el])) ?_⟩
    refine ⟨x, dx3, _, rfl, hx3, rfl, x, f, L, D, b, es, kvs, g3, _, _, .int (sz : Int), rfl, r3, by omega, .int _, fun hF => ?_, fun c ec hc mk1 kvs4 g4 H4 k4 r4 sub4 ok1 em1 => ?_⟩
    · rw [el, cT (Nat.le_refl _) (by omega)] at hF; cases hF
    cases dA ec
    have eq : mk1 = mk0 := by
      rw [em1 _ (Ext.refl' g4), ← em _ (Ext.of (sub3.trans sub4) (Ext.refl' g4))]
    refine wt ?_
    rw [decide_eq_true eq]; exact q _
end Rs
namespace Rs
open PySem PySem.Spec PyProof.Rows L2
variable {K:W.Frag} {mg:Str→Option Value} {A:Adr}
theorem Scr.more {a Y:Addr} {xs:List V} {bad:List Addr} {H:Hp} (s:Scr K a xs bad H) (h:H Y=none):Scr K a xs (Y::bad) H:=s.elim .inl fun ⟨o,n,e,q⟩=> .inr ⟨o,fun m=>(List.mem_cons.mp m).elim (fun z=>ay e h z) n,e,q⟩
theorem zW {v:Key} (h:okP v=true):okD (bX v)=true:=by cases v with | inl i=>rfl | inr z=>exact h
theorem yf {H:Hp} {Q:VK} {p r:Addr} {d:Dat} (hp:aJ H (.ref p) d) (hr:aJ H (.ref r) d) (ok:okD d=true) (dp:(gR d).depth≤150) (q:Q (.bl true) H):bu K (.ref p) (.ref r) H Q:=
 .inr (.inl ⟨_,_,hp.toV ok,hr.toV ok,eA ok,eA ok,dp,by rw [PySem.SeqAt.eqv_refl _ (eA ok)];exact q⟩)
theorem DU {H:Hp} {Q:VK} {p r:Addr} {d:Dat} (hp:aJ H (.ref p) d) (hr:aJ H (.ref r) d) (ok:okD d=true) (dp:(gR d).depth≤150) (q:Q (.bl false) H):gl K (.ref p) (.ref r) H Q:=
 ⟨_,_,hp.toV ok,hr.toV ok,eA ok,eA ok,dp,by rw [PySem.SeqAt.eqv_refl _ (eA ok)];exact q⟩
def vD (v:Key):Dat:=.lst [.tup [.str "void"],.tup [.str "row",.int 0,bX v]]
theorem xH {v:Key} (h:okP v=true):okD (vD v)=true:=by
 show ((okD (.str "void")&&true)&&((okD (.str "row")&&(true&&(okD (bX v)&&true)))&&true))=true
 rw [zW h];decide +kernel
theorem FT (v:Key):(gR (vD v)).depth≤150:=by
 have e:(gR (vD v)).depth=2:=by cases v <;> rfl
 omega
theorem uo {v:Key} (h:okP v=true):okD (.tup [vD v,vD v])=true:=by
 show (okD (vD v)&&(okD (vD v)&&true))=true
 rw [xH h];rfl
theorem tO (v:Key):(gR (.tup [vD v,vD v])).depth≤150:=by
 have e:(gR (.tup [vD v,vD v])).depth=3:=by cases v <;> rfl
 omega
theorem yr {H:Hp} {Y:Addr} {py:List Addr} {v:Key} (hY:H Y=some (.lst (py.map V.ref))) (pk:PK H py [[.inr "void"],[.inr "row",.inl 0,v]]):aJ H (.ref Y) (vD v):=by
 cases pk with
 | cons h1 r=>
 cases r with
 | cons h2 r=>
 cases r
 exact .lst hY (.cons (.tup h1.1 (.cons (.str _) .nil)) (.cons (.tup h2.1 (.cons (.str _) (.cons (.int _) (.cons (cO v) .nil)))) .nil))
theorem Cz (K:W.Frag) (A:Adr):Ln (oz K A) 1:=by rintro vs H Q E ⟨a,ns,rfl,_⟩;rfl
theorem lY {H:Hp} {f b p0:Addr} {g:List Key→Option Key} {n:Nat} {v:Key} {Q:VK} {E:XK} (s:Stp A H f b g n) (hn:n+400≤40000) (gv:g [.inr "void"]=some v) (h0:H p0=some (.tup []))
   (q:∀ (p Y O:Addr) (g':List Key→Option Key) (H':Hp),aG b H H'→Stp A H' f b g' (n+130)→Sub g g'→H Y=none→Y≠O→(∃ ys,H' Y=some (.lst ys))→H' p=some (.tup [.ref Y,.ref O])→aJ H' (.ref Y) (vD v)→aJ H' (.ref O) (vD v)→Q (.ref p) H'):fB K A [.ref f,.int 0,.int 0,.ref p0] H Q E:=by
 refine ⟨f,b,g,n,_,_,_,.int 0,.int 0,.tup [],rfl,⟨s,hn,.int 0,.tup h0 .nil,Nat.zero_le _⟩,.int 0,fun z=>?_,fun c el e1 e2 _ _=>?_⟩
 · rw [show (Dat.int 0)=.int ((0:Nat):Int) from rfl,cT (Nat.le_refl 0) (by decide)] at z;cases z
 · have c0:c=0:=dA (a:=0) e1
   have l0:el=0:=dA (a:=0) e2
   subst c0 l0
   refine .inr ⟨[],⟨rfl,rfl,fun _ h=>nomatch h⟩,fun Y O py po ty to g1 H1 kb1 s1 sub1 hY hO ny ky ko sy so eq p hp=>?_⟩
   obtain ⟨_,_,e3⟩:=eq _ (Ext.refl' g1)
   obtain ⟨e4,e5⟩:=e3 rfl
   have ev:(g1 [.inr "void"]).getD (.inl 0)=v:=Ext.refl' g1 _ _ (sub1 _ _ gv)
   rw [ev] at e4 e5
   subst e4 e5
   have S:=ao.upd (o:=.tup [.ref Y,.ref O]) hp
   obtain ⟨n1,n2⟩:=ny rfl
   exact q p Y O g1 _ (kb1.trans (aG.same S)) (s1.same (Nat.le_refl _) S) sub1 n2 n1 ⟨_,S _ _ hY⟩ ai ((yr hY ky).mono S) ((yr hO ko).mono S)
theorem FZ (T:Txt K mg A):Rd (oz K A) (Ip K A) ["_law_script", "_law_stamper_here", "_law_count", "_law_elder", "_law_many_here", "_law_marks", "_law_due", "_law_void", "_law_found"]:=by
 intro vs H Q E h
 obtain ⟨a,ns,rfl,hs,l63,tabs,q⟩:=h
 refine ⟨a,ns,0,rfl,hs,by decide,fun z0=>⟨z0,rfl,tabs,fun f b g Ha kn s0 hb=>?_⟩⟩
 have sca:Scr K a (ns.map V.int) [b] Ha:=by
   rcases hs with (h | ⟨o,h⟩) | h
   · exact .inr ⟨_,fun m=>ay h hb (List.mem_singleton.mp m),kn _ _ h (fun _ z=>nomatch z),fun H' h'=> .inl (.inl h')⟩
   · exact .inr ⟨_,fun m=>ay h hb (List.mem_singleton.mp m),kn _ _ h (fun _ z=>nomatch z),fun H' h'=> .inl (.inr ⟨o,h'⟩)⟩
   · exact .inl fun H'=> .inr h
 have scS:∀ {H' H'':Hp},Scr K a (ns.map V.int) [b] H'→ao H' H''→Scr K a (ns.map V.int) [b] H'':=fun c S=>c.step fun z o _ e=>S z o e
 have scB:∀ {H' H'':Hp},Scr K a (ns.map V.int) [b] H'→aG b H' H''→Scr K a (ns.map V.int) [b] H'':=fun c k=>c.step fun z o n e=>k z o (fun h=>n (by simp [h])) e
 refine ⟨a,ns,1,rfl,sca.sq,by decide,fun z1=>⟨z1,rfl,fun c c2=>?_⟩⟩
 refine ⟨a,ns,2,rfl,sca.sq,by decide,fun z2=>⟨by omega,?_⟩⟩
 have e0:=Int.emod_nonneg z2 (b:=(c:Int)+1) (by omega)
 have e1:=Int.emod_lt_of_pos z2 (b:=(c:Int)+1) (by omega)
 show Bm K A { nx:=fun _ H'=>Q .non H',rt:=Q } [some (.ref a),some (.ref f),some (.int (c:Int)),some (.int (z2%((c:Int)+1))),none,none,none,none,none] Ha
 obtain ⟨el,hel⟩:=Int.eq_ofNat_of_zero_le e0
 rw [hel] at e1 ⊢
 have ec:el≤c:=by omega
 refine ⟨c,el,rfl,ec,c2,?_⟩
 have m61:bI c el≤61:=by
   unfold bI
   have:=iz c el
   split <;> omega
 refine ⟨((bI c el:Nat):Int),rfl,by omega,by omega,fun C hC=>?_⟩
 rw [Int.toNat_natCast]
 refine eQ (dQ.range (lo:=0) (n:=bI c el)) (fun i ys H'=>∃ es:List Key,ys=es.map kV∧es.length=i∧(∀ e∈es,enK e)∧H' C=some (.lst ys)∧ao Ha H')
   (fun _ _ _ _ _=>trivial) ⟨[],rfl,rfl,(fun _ h=>nomatch h),ai,ao.upd hC⟩ (fun i ys H5 hi h=>?_) (fun ys H5 h=>?_)
 · obtain ⟨es,e1,e2,e3,e4,S⟩:=h
   refine iB ⟨a,ns,_,rfl,(scS sca S).sq,by omega,fun zz=>⟨sZ (by decide) (by decide),_,rfl,fun e H6 S6 en=>⟨S6 _ _ e4,?_,CWd.next hi ⟨es++[e],by rw [e1,List.map_append];rfl,by rw [List.length_append,e2];rfl,fun x hx=>?_,ai,fun z o h=>?_⟩⟩⟩⟩
   · rw [e1,List.length_map,e2];exact bR (by omega)
   · rcases List.mem_append.mp hx with h | h
     · exact e3 x h
     · rw [List.mem_singleton.mp h];exact en
   · rw [aq (ay h hC)];exact S6 _ _ (S _ _ h)
 obtain ⟨ks,rfl,kl,ke,hC5,S5⟩:=h
 refine ⟨C,_,rfl,.inl ⟨SqL.of hC5,fun P hP=>?_⟩⟩
 have S6:=S5.trans (ao.upd (o:=.tup (ks.map kV)) hP)
 have eP:upd H5 P (.tup (ks.map kV)) P=some (.tup (ks.map kV)):=ai
 generalize upd H5 P (.tup (ks.map kV))=H6 at*
 have s6:=s0.same (Nat.le_refl _) S6
 refine ⟨f,b,P,c,el,ks,g,0,rfl,s6,by decide,ec,c2,eP,kl,ke,fun R y o g1 H7 kb7 s7 sub7 hR oky szy eq=>?_⟩
 have sc7:=scB (scS sca S6) kb7
 have hP7:H7 P=some (.tup (ks.map kV)):=kb7.obj s6.bb eP (fun _ z=>nomatch z)
 refine ixT (j:=0) hR rfl rfl ⟨f,b,a,P,ns,c,el,ks,y,g1,_,rfl,s7,by omega,sc7.sq,ec,c2,hP7,kl,ke,oky,szy,fun h eh=>(eq h eh).1,fun g2 H8 kb8 s8 sub8=>Sel.f ?_⟩
 have sc8:=scB sc7 kb8
 have hP8:H8 P=some (.tup (ks.map kV)):=kb8.obj s7.bb hP7 (fun _ z=>nomatch z)
 have hR8:H8 R=some (.tup [kV y,kV o]):=kb8.obj s7.bb hR (fun _ z=>nomatch z)
 refine ixT (j:=0) hR8 rfl rfl ⟨ax (show 2≤1000000 by decide),fun hd hhd=>?_⟩
 have S9:=ao.upd (o:=.tup [V.int (c:Int),kV y]) hhd
 have ehd:upd H8 hd (.tup [V.int (c:Int),kV y]) hd=some (.tup [V.int (c:Int),kV y]):=ai
 generalize upd H8 hd (.tup [V.int (c:Int),kV y])=H9 at*
 have s9:=s8.same (Nat.le_refl _) S9
 have sc9:=scS sc8 S9
 have hR9:=S9 _ _ hR8
 have hP9:=S9 _ _ hP8
 have shk:gT (.tup (ks.map bX)):=by show (ks.map bX).length≤500;rw [List.length_map];omega
 refine ⟨f,b,g2,_,_,_,_,.tup [.int (c:Int),bX y],.int (el:Int),.tup (ks.map bX),rfl,⟨s9,by omega,.int _,.tup hP9 (dW ks),shk⟩,.tup ehd (.cons (.int _) (.cons (cO y) .nil)),.inr ⟨c,y,rfl,c2,oky,fun z=>?_,fun el' ee _=> .inr ?_⟩⟩
 · rw [cT ec c2] at z;cases z
 cases dA ee
 refine ⟨ks,⟨rfl,kl,ke⟩,fun w g3 H10 kb10 s10 sub10 okw ew=>?_⟩
 have ewy:w=y:=by rw [ew _ (Ext.refl' g3),←(eq _ (Ext.of (sub8.trans sub10) (Ext.refl' g3))).1]
 refine ⟨fun _ u g4 H11 kb11 s11 sub11 eu=>?_,fun ne=>absurd ewy ne⟩
 have kb9:=kb10.trans kb11
 have euo:u=o:=by rw [eu _ (Ext.refl' g4),←(eq _ (Ext.of ((sub8.trans sub10).trans sub11) (Ext.refl' g4))).2]
 have hR11:H11 R=some (.tup [kV y,kV o]):=kb9.obj s9.bb hR9 (fun _ z=>nomatch z)
 have sc11:=scB sc9 kb9
 refine ixT (j:=1) hR11 rfl rfl (jE (Sel.no (by rw [decide_eq_true euo];rfl) ?_))
 clear kb7 kb8 kb10 kb11 kb9
 refine ⟨ax (show 1≤1000000 by decide),fun p1 h1=>?_⟩
 have S12:=ao.upd (o:=.tup [V.str "void"]) h1
 have ep1:upd H11 p1 (.tup [V.str "void"]) p1=some (.tup [V.str "void"]):=ai
 have s12:=s11.same (Nat.le_refl _) S12
 generalize upd H11 p1 (.tup [V.str "void"])=H12 at*
 refine ⟨f,rfl,s12.clo,ax (show 1≤1000000 by decide),fun p2 h2=>?_⟩
 have hk2:upd H12 p2 (.tup [.str "void"]) p2=some (.tup (([.inr "void"]:List Key).map kV)):=ai
 dsimp only [af]
 refine dn (s12.same (Nat.le_refl _) (ao.upd h2)) (by omega) hk2 gx fun vo H13 g5 kb13 s13 sub13 gv st13=>⟨ax (show 3≤1000000 by decide),fun p3 h3=>⟨ax (show 2≤1000000 by decide),fun L hL=>?_⟩⟩
 have kb13:=(aG.same (ao.upd h2)).trans kb13
 have okv:=dE st13 (by rw [sz1,szW.1];decide)
 have ep1:H13 p1=some (.tup [V.str "void"]):=kb13.obj s12.bb ep1 (fun _ z=>nomatch z)
 have sc13:=scB (scS sc11 S12) kb13
 have S14:=(ao.upd (o:=.tup [V.str "row",.int 0,kV vo]) h3).trans (ao.upd (o:=.lst [V.ref p1,.ref p3]) hL)
 have ep3:upd (upd H13 p3 (.tup [V.str "row",.int 0,kV vo])) L (.lst [V.ref p1,.ref p3]) p3=some (.tup [V.str "row",.int 0,kV vo]):=ao.upd hL _ _ ai
 have eL:upd (upd H13 p3 (.tup [V.str "row",.int 0,kV vo])) L (.lst [V.ref p1,.ref p3]) L=some (.lst [V.ref p1,.ref p3]):=ai
 generalize upd (upd H13 p3 (.tup [V.str "row",.int 0,kV vo])) L (.lst [V.ref p1,.ref p3])=H14 at*
 have wL:aJ H14 (.ref L) (vD vo):=.lst eL (.cons (.tup (S14 _ _ ep1) (.cons (.str _) .nil)) (.cons (.tup ep3 (.cons (.str _) (.cons (.int _) (.cons (cO vo) .nil)))) .nil))
 have s14:=s13.same (Nat.le_refl _) S14
 have sc14:=scS sc13 S14
 refine ⟨ax (show 0≤1000000 by decide),fun p4 h4=>?_⟩
 have S15:=ao.upd (o:=.tup []) h4
 have ep4:upd H14 p4 (.tup []) p4=some (.tup []):=ai
 generalize upd H14 p4 (.tup [])=H15 at*
 have s15:=s14.same (Nat.le_refl _) S15
 have sc15:=scS sc14 S15
 have wL15:=wL.mono S15
 have eL15:=S15 _ _ eL
 refine lY (K:=K) s15 (by omega) gv ep4 fun p Y O g6 H16 kb16 s16 sub16 fY nYO ⟨ys,eY⟩ ep wY wO=>?_
 have wL16:=aJ.keepB kb16 s15.bb wL15
 have eL16:H16 L=some (.lst [V.ref p1,.ref p3]):=kb16.obj s15.bb eL15 (fun _ z=>nomatch z)
 have nLY:L≠Y:=ay eL15 fY
 have sc16:Scr K a (ns.map V.int) [Y,b] H16:=(sc15.more fY).step fun z o n e=>kb16 z o (fun h=>n (by simp [h])) e
 have wp:∀ {HH:Hp} {p Y O:Addr},HH p=some (.tup [.ref Y,.ref O])→aJ HH (.ref Y) (vD vo)→aJ HH (.ref O) (vD vo)→aJ HH (.ref p) (.tup [vD vo,vD vo]):=fun e a b=> .tup e (.cons a (.cons b .nil))
 have ty:tyN H16 (.ref p)=some "tuple" :=by unfold tyN;dsimp only;rw [ep]
 refine ⟨by decide, "tuple",ty,Sel.f ⟨ax (show 2≤1000000 by decide),fun p5 h5=>?_⟩⟩
 have S17:=ao.upd (o:=.tup [V.ref L,.ref L]) h5
 have ep5:upd H16 p5 (.tup [V.ref L,.ref L]) p5=some (.tup [V.ref L,.ref L]):=ai
 generalize upd H16 p5 (.tup [V.ref L,.ref L])=H17 at*
 refine DU (wp (S17 _ _ ep) (wY.mono S17) (wO.mono S17)) (wp ep5 (wL16.mono S17) (wL16.mono S17)) (uo okv) (tO vo) (Sel.f ?_)
 refine ixT (j:=0) (S17 _ _ ep) rfl rfl ?_
 have eY17:=S17 _ _ eY
 refine ⟨.inl ⟨rfl,_,SqL.of eY17⟩,Y,_,rfl,rfl,eY17,?_⟩
 have kc:∀ z o,z≠Y→H17 z=some o→upd H17 Y (.lst []) z=some o:=fun z o n e=>by rw [aq n];exact e
 have kt:∀ z xs,H17 z=some (.tup xs)→upd H17 Y (.lst []) z=some (.tup xs):=fun z xs e=>kc z _ (bH e eY17 (fun z=>nomatch z)) e
 have wc:∀ Z:Addr,Z≠Y→aJ H17 (.ref Z) (vD vo)→aJ (upd H17 Y (.lst [])) (.ref Z) (vD vo):=fun Z n w=>by
   cases w with
   | lst e r=>
   cases r with
   | cons w1 r=>
   cases r with
   | cons w2 r=>
   cases r
   cases w1 with
   | tup a1 r1=>
   cases w2 with
   | tup a2 r2=>
   have:=im (ks:=[.inr "void"]) r1
   subst this
   have:=im (ks:=[.inr "row",.inl 0,vo]) r2
   subst this
   exact .lst (kc _ _ n e) (.cons (.tup (kt _ _ a1) (.cons (.str _) .nil)) (.cons (.tup (kt _ _ a2) (.cons (.str _) (.cons (.int _) (.cons (cO vo) .nil)))) .nil))
 have s18:=(s16.same (Nat.le_refl _) S17).setL (ys:=[]) eY17
 have wO18:=wc O (Ne.symm nYO) (wO.mono S17)
 have wL18:=wc L nLY (wL16.mono S17)
 have ep18:=kt _ _ (S17 _ _ ep)
 have sc18:Scr K a (ns.map V.int) [Y,b] (upd H17 Y (.lst [])):=sc16.step fun z o n e=>kc z o (fun h=>n (by simp [h])) (S17 _ _ e)
 generalize upd H17 Y (.lst [])=H18 at*
 refine ixT (j:=1) ep18 rfl rfl (yf wO18 wL18 (xH okv) (FT vo) (Sel.t ?_))
 refine ⟨ax (show 0≤1000000 by decide),fun p6 h6=>?_⟩
 have S19:=ao.upd (o:=.tup []) h6
 have ep6:upd H18 p6 (.tup []) p6=some (.tup []):=ai
 generalize upd H18 p6 (.tup [])=H19 at*
 have s19:=s18.same (Nat.le_refl _) S19
 refine lY (K:=K) s19 (by omega) (sub16 _ _ gv) ep6 fun p7 Y2 O2 g7 H20 kb20 s20 sub20 _ _ _ ep7 wY2 wO2=>?_
 have wL20:=aJ.keepB kb20 s19.bb (wL18.mono S19)
 refine ⟨ax (show 2≤1000000 by decide),fun p8 h8=>?_⟩
 have S21:=ao.upd (o:=.tup [V.ref L,.ref L]) h8
 have ep8:upd H20 p8 (.tup [V.ref L,.ref L]) p8=some (.tup [V.ref L,.ref L]):=ai
 generalize upd H20 p8 (.tup [V.ref L,.ref L])=H21 at*
 refine yf (wp (S21 _ _ ep7) (wY2.mono S21) (wO2.mono S21)) (wp ep8 (wL20.mono S21) (wL20.mono S21)) (uo okv) (tO vo) (Sel.t ?_)
 have sc21:Scr K a (ns.map V.int) [Y,b] H21:=sc18.step fun z o n e=>S21 _ _ (kb20 z o (fun h=>n (by simp [h])) (S19 _ _ e))
 exact ⟨f,b,a,ns,g7,_,rfl,s20.same (Nat.le_refl _) S21,by omega,sc21.sq,l63,q⟩
end Rs
namespace Rs
open PySem PySem.Spec PyProof.Rows L2
structure TP (P:Program) (w:World) (K:W.Frag) (mg:Str→Option Value) (base:Heap) (A:Adr):Prop extends Txt K mg A where
 B:BM mg base
 C_60:W.CodeHd base A.k_60 A.t_60
 C_42:W.CodeHd base A.k_42 A.t_42
 C_32:W.CodeHd base A.k_32 A.t_32
 C_36:W.CodeHd base A.k_36 A.t_36
variable {P:Program} {w:World} {K:W.Frag} {mg:Str→Option Value} {base:Heap} {A:Adr} (T:TP P w K mg base A)
include T
theorem nW:aN P w K mg base (CX1 P w) 1 A.a_54 A.d_54 ["thing"] (iN K A):=
 T.f_54.f.okS EU (BO K A) (FD T.1) fun _ _ _ _ _ _ hr=>
 ar (aF (dc (aY fL T.z_isinstance boot_isinstance (ac (ae 0) (ac (fw T.z_int boot_int) (ag)))) (dL (xG (aY fL T.z_isinstance boot_isinstance (ac (ae 0) (ac (fw T.z_bool boot_bool) (ag))))))))
theorem nU:aN P w K mg base (CX1 P w) 2 A.a_52 A.d_52 ["thing"] (iR K A):=
 T.f_52.f.okS DC (BH K A) (Gp T.1) fun _ _ _ _ _ _ hr=>
 ak (aV (bL (aM (nW T) hr.le T.f_54 (ac (ae 0) (ag)))) (ar (aF (jP oLe oLt (aj) (ae 0) (az oO (aj) (aj))))) (aP)) (ar (aF (aY fL T.z_isinstance boot_isinstance (ac (ae 0) (ac (fw T.z_str boot_str) (ag))))))
theorem yp:aN P w K mg base (CX1 P w) 3 A.a_53 A.d_53 ["thing"] (lU K A):=
 T.f_53.f.okS FP (CL K A) (Gu T.1) fun _ _ _ _ _ _ hr=>
 ak (aV (df (bL (aY fL T.z_isinstance boot_isinstance (ac (ae 0) (ac (fw T.z_tuple boot_tuple) (ag)))))) (ar (aF (eE))) (aP)) (ak (aV (df (kG oLe oLe (aj) (aY da T.z_len PySem.boot_len (ac (ae 0) (ag))) (GW T.c_MOST_PARTS))) (ar (aF (eE))) (aP)) (ar (aF (dc (aY fL T.z_isinstance boot_isinstance (ac (aZ (aH hr.units1) (ae 0) (aj) (fun _ _=>rfl)) (ac (fw T.z_str boot_str) (ag)))) (dL (aY (Cl rfl) T.z_all L2.uL (ac (ip (ys:=[]) (by exact ⟨rfl,by decide +kernel,by decide +kernel,rfl,by decide +kernel,by decide +kernel⟩) (by exact .nil) (gX (ae 0)) (fun C s H fp=>fI) (fun C s H fp=>(aM (nU T) hr.le T.f_52 (ac (ae 0) (ag))))) (ag))))))))
theorem GA:aN P w K mg base (CX1 P w) 2 A.a_57 A.d_57 ["part"] (oE K A):=
 T.f_57.f.okS xK (Bd K A) (Ek T.1) fun _ _ _ _ _ _ hr=>
 ak (aV (bL (aM (nW T) hr.le T.f_54 (ac (ae 0) (ag)))) (ar (aF (ut (.cons (rF (ae 0)) (.cons (bE) (.nil)))))) (aP)) (ak (aC 1 xK.nd (aY da T.z_len PySem.boot_len (ac (ae 0) (ag)))) (ar (aF (ut (.cons (rF (ae 1)) (.cons (bE) (.cons (rF (ae 0)) (.nil))))))))
theorem Gs:aN P w K mg base (CX1 P w) 4 A.a_62 A.d_62 ["term"] (lr K A):=
 T.f_62.f.okS DG (AL K A) (FM T.1) fun _ _ _ _ _ _ hr=>
 ak (aV (df (bL (aM (yp T) hr.le T.f_53 (ac (ae 0) (ag))))) (ar (mq)) (aP)) (ar (aF (fM PySem.F.plainAttrs_str PySem.F.slot_str_join PySem.F.type_str_join qV (bE) (ac (ip (ys:=[]) (by exact ⟨rfl,by decide +kernel,by decide +kernel,rfl,by decide +kernel,by decide +kernel⟩) (by exact .nil) (gX (ae 0)) (fun C s H fp=>fI) (fun C s H fp=>(aM (GA T) hr.le T.f_57 (ac (ae 0) (ag))))) (ag)))))
theorem Gb (f c:Addr) (cl:List (Str×Addr)) (Ar:Around) (outer:List Env) (s:Shared) (H:Hp) (E:XK)
  (hr:bh 4 (Ar.deeper (W.envX fF.qual fF.scope s.heap.objs.size f (.ref c) cl))):PE (gM P w K mg base ["term"] fF.qual fF.scope f c cl Ar outer s H E).nox (jX vi) (BZ K A):=QE.out (
 aM (Gs T) hr.le T.f_62 (ac (ae 0) (ag)))
theorem Gc:fE P w K mg base 5 fF (rD K A):=
 rk rfl Gm (fun f c cl Ar outer s H vs cvs Q E hr hl hc h=>by
  obtain ⟨a0,rfl⟩:=L2.ef hl
  obtain rfl:=L2.ss hc
  exact ⟨_,(Gb T f c cl Ar outer s H E hr).nox,DQ T.1 a0 H Q E h⟩)
theorem Hl:aN P w K mg base (CX1 P w) 4 A.a_2 A.d_2 ["self", "term"] (rz K A):=
 T.f_2.okS IA (FN K A) (Ir T.1) fun _ _ _ _ _ _ hr=>
 ak (aV (df (bL (aM (yp T) hr.le T.f_53 (ac (ae 1) (ag))))) (ar (mq)) (aP)) (ak (aV (be (qz hr.units150) (ae 1) (fe (ae 0))) (ar (oY hr.units1 (fe (ae 0)) (ae 1) (aY da T.z_len PySem.boot_len (ac (fe (ae 0)) (ag))))) (aP)) (ar (aF (aZ (aH hr.units1) (fe (ae 0)) (ae 1) (fun _ _=>rfl)))))
theorem DH (f c:Addr) (cl:List (Str×Addr)) (Ar:Around) (outer:List Env) (s:Shared) (H:Hp) (E:XK)
  (hr:bh 4 (Ar.deeper (W.envX fX.qual fX.scope s.heap.objs.size f (.ref c) cl))):PE (gM P w K mg base ["term", "numbers"] fX.qual fX.scope f c cl Ar outer s H E).nox (jX vN) (Du K A):=QE.out (
 bS (ae 1) T.cl_Numbers T.me_Numbers_number_of (Hl T) hr.le T.b_2 bq (ac (ae 0) (ag)))
theorem Eo:fE P w K mg base 5 fX (sM K A):=
 rk rfl DP (fun f c cl Ar outer s H vs cvs Q E hr hl hc h=>by
  obtain ⟨a0,rfl⟩:=L2.ef hl
  obtain ⟨b0,rfl⟩:=L2.ef hc
  exact ⟨_,(DH T f c cl Ar outer s H E hr).nox,FS T.1 a0 b0 H Q E h⟩)
theorem Ec (f c:Addr) (cl:List (Str×Addr)) (Ar:Around) (outer:List Env) (s:Shared) (H:Hp) (E:XK)
  (hr:bh 0 (Ar.deeper (W.envX fW.qual fW.scope s.heap.objs.size f (.ref c) cl))):PSs (gM P w K mg base ["_law_term", "_law_step", "_law_known"] fW.qual fW.scope f c cl Ar outer s H E).nox (aQ wu) (Bs K A):=QSs.out (
 ar (aF (fM PySem.F.plainAttrs_dict PySem.F.slot_dict_setdefault PySem.F.type_dict_setdefault (uw hr.units1) (ae 2) (ac (ae 0) (ac (az bi (az jb (ae 1) (aY da T.z_len PySem.boot_len (ac (ae 2) (ag)))) (aj)) (ag))))))
theorem DN:fE P w K mg base 1 fW (rL K A):=
 tH rfl EM (fun f c cl Ar outer s H vs cvs Q E hr hl hc h=>by
  obtain ⟨a0,rfl⟩:=L2.ef hl
  obtain ⟨b0,b1,rfl⟩:=L2.rX hc
  exact ⟨_,(Ec T f c cl Ar outer s H E hr).nox,FA T.1 a0 b0 b1 H Q E h⟩)
theorem GI (f c:Addr) (cl:List (Str×Addr)) (Ar:Around) (outer:List Env) (s:Shared) (H:Hp) (E:XK)
  (hr:bh 0 (Ar.deeper (W.envX fZ.qual fZ.scope s.heap.objs.size f (.ref c) cl))):PSs (gM P w K mg base ["_law_term", "_law_total", "_law_part", "_law_many_here"] fZ.qual fZ.scope f c cl Ar outer s H E).nox (aQ vG) (CZ K A):=QSs.out (
 ak (aC 1 lZ.nd (aY da T.z_len PySem.boot_len (ac (ae 0) (ag)))) (ak (jS 2 lZ.nd (gX (ae 0)) (ar (aV (bL (aY fL T.z_isinstance boot_isinstance (ac (ae 2) (ac (fw T.z_str boot_str) (ag))))) (ar (aC 1 lZ.nd (az bi (az jb (aj) (ae 1)) (aY da T.z_len PySem.boot_len (ac (ae 2) (ag)))))) (ar (aC 1 lZ.nd (az bi (az jb (aj) (ae 1)) (ae 2)))))) PassesOwn.never) (ar (aF (az bD (ae 1) (ae 3))))))
theorem Fi:fE P w K mg base 1 fZ (sN K A):=
 tH rfl lZ (fun f c cl Ar outer s H vs cvs Q E hr hl hc h=>by
  obtain ⟨a0,rfl⟩:=L2.ef hl
  obtain ⟨b0,rfl⟩:=L2.ef hc
  exact ⟨_,(GI T f c cl Ar outer s H E hr).nox,GH T.1 a0 b0 H Q E h⟩)
theorem DO (B:BM mg base) (C:W.CodeHd base A.k_60 A.t_60) (Ar:Around) (outer:List Env) (s:Shared) (H:Hp) (E:XK)
  (hr:bh 0 (Ar.deeper (envOfC "writing" (am kQ) s.heap.objs.size A.a_60 (.ref A.k_60)))):QMs (cI (CX1 P w) P w K mg base [] "writing" (am kQ) A.a_60 (.ref A.k_60) Ar outer s H E).nox (aQ kQ) (BF K A):=(
 oH (oy (xV B C rfl (by rfl) (by simp <;> omega) rfl rfl rfl rfl (fun _ _ _ _ us hl=>by obtain ⟨_,rfl⟩:=L2.ef hl;rfl))))
theorem EK:aN P w K mg base (CX1 P w) 1 A.a_60 A.d_60 [] (nR K A):=
 T.f_60.f.okM (caps:=fun L=>[]) T.kc_60 FO (Ab K A) (fun L p hp=>nomatch hp) (fun L=>by simp) (fun Ar outer s H vs Q E hr h=>⟨_,QMs.nox (DO T T.B T.C_60 Ar outer s H E hr),Ep T.1 (by simp) vs H Q E h⟩)
theorem Hz:aN P w K mg base (CX1 P w) 1 A.a_1 A.d_1 ["self"] (sj K A):=
 T.f_1.okS GK (FE K A) (HD T.1) fun _ _ _ _ _ _ hr=>
 ar (iV (ae 0) (ir))
theorem Fl (B:BM mg base) (C:W.CodeHd base A.k_42 A.t_42) (Ar:Around) (outer:List Env) (s:Shared) (H:Hp) (E:XK)
  (hr:bh 2 (Ar.deeper (envOfC "counting" (am kY) s.heap.objs.size A.a_42 (.ref A.k_42)))):QMs (cI (CX1 P w) P w K mg base ["numbers"] "counting" (am kY) A.a_42 (.ref A.k_42) Ar outer s H E).nox (aQ kY) (AV K A (s.heap.objs.size+1)):=(
 lG (lK (aC 0 yn.nd (xj T.mk_Numbers (Hz T) hr.le T.mc_Numbers T.b_1 bq))) (oH (oy (xV B C rfl (by rfl) (by simp <;> omega) rfl rfl rfl rfl (fun _ _ _ _ us hl=>by obtain ⟨_,rfl⟩:=L2.ef hl;rfl)))))
theorem Ed:aN P w K mg base (CX1 P w) 3 A.a_42 A.d_42 [] (oB K A):=
 T.f_42.f.okM (caps:=fun L=>[(0,L+1)]) T.kc_42 yn (AK K A) (fun L p hp=>by simp only [List.mem_cons,List.not_mem_nil,or_false] at hp;rcases hp with rfl <;> exact ⟨_,rfl,rfl,rfl⟩) (fun L=>by simp) (fun Ar outer s H vs Q E hr h=>⟨_,QMs.nox (Fl T T.B T.C_42 Ar outer s H E hr),FC T.1 (s.heap.objs.size+1) (by simp) vs H Q E h⟩)
theorem FJ (B:BM mg base) (C:W.CodeHd base A.k_32 A.t_32) (Ar:Around) (outer:List Env) (s:Shared) (H:Hp) (E:XK)
  (hr:bh 0 (Ar.deeper (envOfC "_law_sure" (am kF) s.heap.objs.size A.a_32 (.ref A.k_32)))):QMs (cI (CX1 P w) P w K mg base ["_law_step", "_law_known", "_law_stamp"] "_law_sure" (am kF) A.a_32 (.ref A.k_32) Ar outer s H E).nox (aQ kF) (AB K A (s.heap.objs.size+1) (s.heap.objs.size+1+1)):=(
 lG (lK (aC 1 sX.nd (ir))) (lG (lK (yd 2 sX.nd B C rfl (by rfl) (by simp <;> omega) rfl rfl rfl rfl (fun _ _ _ _ _ us hl=>by obtain ⟨_,rfl⟩:=L2.ef hl;rfl))) (oH (oy (ae 2)))))
theorem GJ:aN P w K mg base (CX1 P w) 1 A.a_32 A.d_32 ["_law_step"] (oj K A):=
 T.f_32.f.okM (caps:=fun L=>[(0,L+1),(1,L+1+1)]) T.kc_32 sX (CC K A) (fun L p hp=>by simp only [List.mem_cons,List.not_mem_nil,or_false] at hp;rcases hp with rfl | rfl <;> exact ⟨_,rfl,rfl,rfl⟩) (fun L=>by simp) (fun Ar outer s H vs Q E hr h=>⟨_,QMs.nox (FJ T T.B T.C_32 Ar outer s H E hr),Fx T.1 (s.heap.objs.size+1) (s.heap.objs.size+1+1) (by simp) vs H Q E h⟩)
theorem Ga (B:BM mg base) (C:W.CodeHd base A.k_36 A.t_36) (Ar:Around) (outer:List Env) (s:Shared) (H:Hp) (E:XK)
  (hr:bh 0 (Ar.deeper (envOfC "_law_weak" (am kI) s.heap.objs.size A.a_36 (.ref A.k_36)))):QMs (cI (CX1 P w) P w K mg base ["_law_many_here", "_law_stamp"] "_law_weak" (am kI) A.a_36 (.ref A.k_36) Ar outer s H E).nox (aQ kI) (Cf K A (s.heap.objs.size+1)):=(
 lG (lK (yd 1 yA.nd B C rfl (by rfl) (by simp <;> omega) rfl rfl rfl rfl (fun _ _ _ _ _ us hl=>by obtain ⟨_,rfl⟩:=L2.ef hl;rfl))) (oH (oy (ae 1))))
theorem FG:aN P w K mg base (CX1 P w) 1 A.a_36 A.d_36 ["_law_many_here"] (nP K A):=
 T.f_36.f.okM (caps:=fun L=>[(0,L+1)]) T.kc_36 yA (AF K A) (fun L p hp=>by simp only [List.mem_cons,List.not_mem_nil,or_false] at hp;rcases hp with rfl <;> exact ⟨_,rfl,rfl,rfl⟩) (fun L=>by simp) (fun Ar outer s H vs Q E hr h=>⟨_,QMs.nox (Ga T T.B T.C_36 Ar outer s H E hr),EW T.1 (s.heap.objs.size+1) (by simp) vs H Q E h⟩)
theorem Ez:aN P w K mg base (CX1 P w) 4 A.a_31 A.d_31 ["_law_cell"] (og K A):=
 T.f_31.f.okS EF (CK K A) (Fy T.1) fun _ _ _ _ _ _ hr=>
 ak (aV (be (bU hr.units150) (az bD (ae 0) (aj)) (aj)) (ar (aF (pV (EK T) hr.le T.f_60.m T.f_60.f.kp T.f_60.b bq))) (aP)) (ak (aV (be (bU hr.units150) (az bD (ae 0) (aj)) (aj)) (ar (aF (pV (Ed T) hr.le T.f_42.m T.f_42.f.kp T.f_42.b bq))) (aP)) (ak (aV (be (bU hr.units150) (az bD (ae 0) (aj)) (aj)) (ar (aF (aM (GJ T) hr.le T.f_32 (ac (az bi (aj) (az bD (az bK (ae 0) (aj)) (aj))) (ag))))) (aP)) (ar (aF (aM (FG T) hr.le T.f_36 (ac (az bi (aj) (az bD (az bK (ae 0) (aj)) (aj))) (ag)))))))
theorem fg:aN P w K mg base (CX1 P w) 1 A.a_14 A.d_14 ["_law_script", "_law_k"] (cJ K A):=
 T.f_14.f.okS GB (zY K A) (Fj T.1) fun _ _ _ _ _ _ hr=>
 ak (aV (be oLt (ae 1) (aY da T.z_len PySem.boot_len (ac (ae 0) (ag)))) (ar (aF (aZ (aH hr.units1) (ae 0) (ae 1) (fun _ _=>rfl)))) (aP)) (ar (aF (aj)))
theorem Gh:aN P w K mg base (CX1 P w) 1 A.a_15 A.d_15 ["_law_cell"] (oF K A):=
 T.f_15.f.okS ER (CP K A) (Ef T.1) fun _ _ _ _ _ _ hr=>
 ak (aV (be (bU hr.units150) (az bD (ae 0) (aj)) (aj)) (ar (aF (az bD (az bK (ae 0) (aj)) (aj)))) (aP)) (ak (aV (be (bU hr.units150) (az bD (ae 0) (aj)) (aj)) (ar (aF (az dh (az bi (az kU (aj) (az bi (aj) (az bD (az bK (ae 0) (aj)) (aj)))) (az bD (az bK (ae 0) (aj)) (aj))) (aj)))) (aP)) (ar (aF (az bD (az bK (ae 0) (aj)) (az kU (aj) (aj))))))
theorem xM:aN P w K mg base (CX1 P w) 1 A.a_17 A.d_17 ["_law_many_here"] (jT K A):=
 T.f_17.f.okS sF (Bv K A) (FI T.1) fun _ _ _ _ _ _ hr=>
 ak (aC 1 sF.nd (aj)) (ak (ms (be oLt (az jb (aj) (ae 1)) (ae 0)) (ar (aC 1 sF.nd (az jb (aj) (ae 1)))) PassesOwn.never) (ar (aF (ae 1))))
theorem Gi:aN P w K mg base (CX1 P w) 2 A.a_19 A.d_19 ["_law_count", "_law_elder"] (lf K A):=
 T.f_19.f.okS jg (Bw K A) (EB T.1) fun _ _ _ _ _ _ hr=>
 ak (aC 2 jg.nd (aY (Dh rfl) T.z_min boot_min (ac (ae 0) (ac (aj) (ag))))) (ak (ms (kG oLt oLt (aj) (ae 1) (ae 0)) (ak (aC 3 jg.nd (aM (xM T) hr.le T.f_17 (ac (ae 0) (ag)))) (ak (aC 2 jg.nd (az bi (ae 2) (aj))) (ar (aV (be oGt (ae 1) (ae 3)) (ak (aC 0 jg.nd (az dh (ae 0) (ae 3))) (ar (aC 1 jg.nd (az dh (ae 1) (ae 3))))) (ar (aC 0 jg.nd (ae 3))))))) PassesOwn.never) (ar (aF (ae 2))))
theorem DA:aN P w K mg base (CX1 P w) 1 A.a_34 A.d_34 ["_law_cell"] (om K A):=
 T.f_34.f.okS sR (Ao K A) (DJ T.1) fun _ _ _ _ _ _ hr=>
 ak (aC 1 sR.nd (bE)) (ak (aC 1 sR.nd (az bi (ae 1) (bE))) (ar (aF (fM PySem.F.plainAttrs_str PySem.F.slot_str_join PySem.F.type_str_join qV (bE) (ac (ip (ys:=["_law_cell", "_law_some"]) (by exact ⟨rfl,by decide +kernel,by decide +kernel,rfl,by decide +kernel,by decide +kernel⟩) (by exact .cons rfl (by first | exact .inl rfl | exact .inr rfl) rfl (.cons rfl (by first | exact .inl rfl | exact .inr rfl) rfl (.nil))) (iE T.z_range (ac (az bD (ae 0) (aj)) (ag))) (fun C s H fp=>fI) (fun C s H fp=>(aZ (aH hr.units1) (ae 2) (az bD (az bi (az bK (ae 1) (aj)) (az jb (ae 0) (az bD (az bK (ae 1) (aj)) (aj)))) (aj)) (fun _ _=>rfl)))) (ag))))))
theorem sG:aN P w K mg base (CX1 P w) 2 A.a_30 A.d_30 ["_law_cell"] (gD K A):=
 T.f_30.f.okS DY (Ds K A) (Ex T.1) fun _ _ _ _ _ _ hr=>
 ak (aV (be (bU hr.units150) (az bD (ae 0) (aj)) (aj)) (ar (aF (aM (DA T) hr.le T.f_34 (ac (az bK (ae 0) (aj)) (ag))))) (aP)) (ak (aV (be (bU hr.units150) (az bD (ae 0) (aj)) (aj)) (ar (aF (az bD (az bK (ae 0) (aj)) (az oO (aj) (aj))))) (aP)) (ar (aF (az bD (az bK (ae 0) (aj)) (aj)))))
theorem dg:md P w K mg base 5 (cD K A):=fun ts hts=>by
 simp only [cD,List.mem_cons,List.not_mem_nil,or_false] at hts
 rcases hts with rfl | rfl | rfl | rfl
 · exact (Gc T).mono (by decide)
 · exact (Eo T).mono (by decide)
 · exact (DN T).mono (by decide)
 · exact (Fi T).mono (by decide)
theorem sO:∀ n:Nat,aN P w K mg base (CX1 P w) (5+n) A.a_35 A.d_35 ["_law_stamper_here", "_law_count", "_law_elder", "_law_marks"] (iM K A n)
 | 0=>⟨fun vs H Q E h=>(yi K A vs H Q E h).elim,fun _ _ _ H _ _ vs Q E _ _ _ _ h=>(yi K A vs H Q E h).elim⟩
 | n+1=>T.f_35.f.okS nS (Bp K A (n+1)) (FL T.1 n) fun _ _ _ _ _ _ (hr:bh (5+n) _)=>
 ak (aV (be (bU hr.units150) (ae 2) (ae 1)) (ar (aF (aU (ac (aZ (aH hr.units1) (ae 3) (aj) (fun _ _=>rfl)) (ac (aZ (aH hr.units1) (ae 3) (aj) (fun _ _=>rfl)) (ag)))))) (aP)) (ak (aC 4 nS.nd (aM (xM T) hr.le T.f_17 (ac (ae 1) (ag)))) (ak (aV (be oGt (ae 2) (ae 4)) (ak (tM 5 6 nS.nd rfl (aM (sO n) hr.le T.f_35 (ac (ae 0) (ac (az dh (ae 1) (ae 4)) (ac (az dh (ae 2) (ae 4)) (ac (gf ig (ae 3) (gh (aj)) (gj)) (ag))))))) (ar (aF (aU (ac (dC (dg T) hr.le bq (ae 0) (ac (aU (ac (bE) (ac (aZ (aH hr.units1) (ae 3) (aj) (fun _ _=>rfl)) (ac (ae 5) (ag))))) (ag))) (ac (dC (dg T) hr.le bq (ae 0) (ac (aU (ac (bE) (ac (aZ (aH hr.units1) (ae 3) (aj) (fun _ _=>rfl)) (ac (ae 6) (ag))))) (ag))) (ag))))))) (aP)) (ak (tM 5 6 nS.nd rfl (aM (sO n) hr.le T.f_35 (ac (ae 0) (ac (ae 4) (ac (ae 2) (ac (gf ig (ae 3) (gj) (gh (er (aj)))) (ag))))))) (ar (aF (aU (ac (dC (dg T) hr.le bq (ae 0) (ac (aU (ac (bE) (ac (ae 5) (ac (aZ (aH hr.units1) (ae 3) (er (aj)) (fun _ _=>rfl)) (ag))))) (ag))) (ac (ae 6) (ag)))))))))
theorem Ea:aN P w K mg base (CX1 P w) 76 A.a_29 A.d_29 ["_law_stamper_here", "_law_count", "_law_elder", "_law_marks"] (lD K A):=
 T.f_29.f.okS lh (Cw K A) (Fr T.1) fun _ _ _ _ _ _ hr=>
 ak (aC 4 lh.nd (dC (dg T) hr.le bq (ae 0) (ac (aU (ac (bE) (ag))) (ag)))) (ak (aC 5 lh.nd (aU (ac (ae 4) (ac (ae 4) (ag))))) (ak (aV (be oGt (ae 2) (aj)) (ar (aC 5 lh.nd (aM (sO T 70) hr.le T.f_35 (ac (ae 0) (ac (ae 1) (ac (ae 2) (ac (ae 3) (ag)))))))) (ar (aV (be oGt (ae 1) (aj)) (ar (aC 5 lh.nd (aU (ac (aZ (aH hr.units1) (ae 3) (aj) (fun _ _=>rfl)) (ac (ae 4) (ag)))))) (aP)))) (ar (aF (aU (ac (dC (dg T) hr.le bq (ae 0) (ac (aU (ac (bE) (ac (ae 1) (ac (aZ (aH hr.units1) (ae 5) (aj) (fun _ _=>rfl)) (ag))))) (ag))) (ac (dC (dg T) hr.le bq (ae 0) (ac (aU (ac (bE) (ac (ae 2) (ac (aZ (aH hr.units1) (ae 5) (aj) (fun _ _=>rfl)) (ag))))) (ag))) (ag))))))))
theorem Fw:aN P w K mg base (CX1 P w) 1 A.a_21 A.d_21 ["_law_cell", "_law_count"] (oG K A):=
 T.f_21.f.okS xY (AI K A) (Er T.1) fun _ _ _ _ _ _ hr=>
 ak (aC 2 xY.nd (cf (ac (gG) (ac (eE) (ac (eE) (ac (eC rA T.z_str boot_str (ac (ae 1) (ag))) (ac (az dh (er (aj)) (ae 1)) (ac (az kU (aj) (aj)) (ac (az bi (az kU (aj) (aj)) (ae 1)) (ac (aU (ac (ae 1) (ag))) (ac (cf (ac (ae 1) (ag))) (ag)))))))))))) (ar (aF (aZ (aH hr.units1) (ae 2) (az bD (ae 0) (aj)) (fun _ _=>rfl))))
theorem FU:aN P w K mg base (CX1 P w) 1 A.a_22 A.d_22 ["_law_cell", "_law_count"] (lb K A):=
 T.f_22.f.okS sC (Ch K A) (DI T.1) fun _ _ _ _ _ _ hr=>
 ak (aC 2 sC.nd (az bD (az bK (ae 0) (aj)) (az oO (aj) (aj)))) (ak (aC 3 sC.nd (cf (ac (gG) (ac (eE) (ac (eE) (ac (eC rA T.z_str boot_str (ac (az bD (ae 2) (az bi (ae 1) (aj))) (ag))) (ac (az dh (er (aj)) (ae 2)) (ac (az bi (ae 1) (aj)) (ac (az bi (az bi (ae 1) (aj)) (ae 2)) (ac (aU (ac (ae 1) (ag))) (ac (cf (ac (aj) (ag))) (ag)))))))))))) (ar (aF (aZ (aH hr.units1) (ae 3) (az bD (ae 0) (aj)) (fun _ _=>rfl)))))
theorem rT:aN P w K mg base (CX1 P w) 1 A.a_25 A.d_25 ["_law_cell"] (jY K A):=
 T.f_25.f.okS sk (Ap K A) (Et T.1) fun _ _ _ _ _ _ hr=>
 ak (aC 1 sk.nd (az bD (az bK (ae 0) (aj)) (az oO (aj) (aj)))) (ak (aC 2 sk.nd (cf (ac (gG) (ac (eE) (ac (eE) (ac (az dh (er (aj)) (ae 1)) (ac (az bi (az oO (aj) (aj)) (ae 1)) (ac (aU (ac (ae 1) (ag))) (ac (cf (ac (ae 1) (ag))) (ac (ir) (ac (aU (ac (bE) (ag))) (ag)))))))))))) (ar (aF (aZ (aH hr.units1) (ae 2) (az bD (ae 0) (aj)) (fun _ _=>rfl)))))
theorem Eh:aN P w K mg base (CX1 P w) 2 A.a_24 A.d_24 ["_law_cell", "_law_marks"] (lM K A):=
 T.f_24.f.okS oo (Av K A) (El T.1) fun _ _ _ _ _ _ hr=>
 ak (aC 2 oo.nd (az bD (az bK (ae 0) (aj)) (aY (Hg rfl) T.z_max boot_max (ac (aj) (ac (aY da T.z_len PySem.boot_len (ac (ae 1) (ag))) (ag)))))) (ak (aC 3 oo.nd (aM (rT T) hr.le T.f_25 (ac (az bK (ae 0) (aj)) (ag)))) (ak (aC 4 oo.nd (cf (ac (gG) (ac (eC DT T.z_list boot_list (ac (ae 1) (ag))) (ac (az bi (ae 1) (aU (ac (bE) (ag)))) (ac (az bi (ae 1) (aU (ac (ae 3) (ag)))) (ag))))))) (ak (aV (x_w (sW (be oLt (az bD (ae 0) (aj)) (aj)) (pf (be (bU hr.units150) (aY da T.z_len PySem.boot_len (ac (ae 1) (ag))) (aj))))) (ar (aF (aZ (aH hr.units1) (ae 4) (az bD (az bD (ae 0) (aj)) (aj)) (fun _ _=>rfl)))) (aP)) (ak (aV (be (bU hr.units150) (az bD (az bK (az bK (ae 0) (aj)) (aj)) (aj)) (aj)) (ar (aF (az bi (gf ig (ae 1) (gj) (gh (ae 2))) (gf ig (ae 1) (gh (az bi (ae 2) (aj))) (gj))))) (aP)) (ar (aF (az bi (az bi (gf ig (ae 1) (gj) (gh (ae 2))) (aU (ac (ae 3) (ag)))) (gf ig (ae 1) (gh (az bi (ae 2) (aj))) (gj)))))))))
theorem yy:aN P w K mg base (CX1 P w) 1 A.a_16 A.d_16 ["_law_flags"] (gK K A):=
 T.f_16.f.okS xU (AU K A) (Ge T.1) fun _ _ _ _ _ _ hr=>
 ak (jS 1 xU.nd (iE T.z_range (ac (aY da T.z_len PySem.boot_len (ac (ae 0) (ag))) (ag))) (ar (aV (bL (aZ (aH hr.units1) (ae 0) (ae 1) (fun _ _=>rfl))) (ar (aF (ae 1))) (aP))) PassesOwn.never) (ar (aF (er (aj))))
theorem sL:aN P w K mg base (CX1 P w) 1 A.a_18 A.d_18 ["_law_caught_here", "_law_number"] (fG K A):=
 T.f_18.f.okS sT (Ag K A) (DB T.1) fun _ _ _ _ _ _ hr=>
 ak (aV (be oLt (ae 1) (aj)) (ar (aF (dS HF (ae 0) (gG)))) (aP)) (ak (aC 2 sT.nd (cf (ac (aY jQ T.z_isinstance boot_isinstance (ac (ae 0) (ac (oZ T.mc_NoHead) (ag)))) (ac (aY jQ T.z_isinstance boot_isinstance (ac (ae 0) (ac (oZ T.mc_NoPlace) (ag)))) (ac (aY jQ T.z_isinstance boot_isinstance (ac (ae 0) (ac (oZ T.mc_NoPaper) (ag)))) (ag)))))) (ak (aC 2 sT.nd (az bi (ae 2) (cf (ac (aY jQ T.z_isinstance boot_isinstance (ac (ae 0) (ac (oZ T.mc_Broken) (ag)))) (ac (aY jQ T.z_isinstance boot_isinstance (ac (ae 0) (ac (oZ T.mc_NoStamp) (ag)))) (ac (aY jQ T.z_isinstance boot_isinstance (ac (ae 0) (ac (fw T.z_ValueError nH) (ag)))) (ag))))))) (ar (aF (dS (bU hr.units150) (ae 2) (ip (ys:=["_law_number"]) (by exact ⟨rfl,by decide +kernel,by decide +kernel,rfl,by decide +kernel,by decide +kernel⟩) (by exact .cons rfl (by first | exact .inl rfl | exact .inr rfl) rfl (.nil)) (iE T.z_range (ac (aj) (ag))) (fun C s H fp=>fI) (fun C s H fp=>(Cv (dS (bU hr.units150) (ae 0) (ae 1)) (dL (dS (bU hr.units150) (ae 0) (aj)))))))))))
theorem yq:aN P w K mg base (CX1 P w) 2 A.a_49 A.d_49 ["thing"] (lO K A):=
 T.f_49.f.okS Gx (An K A) (EG T.1) fun _ _ _ _ _ _ hr=>
 ar (aF (dc (aM (nW T) hr.le T.f_54 (ac (ae 0) (ag))) (dL (jP oLe oLt (aj) (ae 0) (az kU (aj) (aj))))))
theorem xZ:aN P w K mg base (CX1 P w) 3 A.a_50 A.d_50 ["count", "elder"] (lq K A):=
 T.f_50.f.okS EX (Cb K A) (Fb T.1) fun _ _ _ _ _ _ hr=>
 ar (aF (dc (aM (yq T) hr.le T.f_49 (ac (ae 0) (ag))) (dc (aM (nW T) hr.le T.f_54 (ac (ae 1) (ag))) (dL (jP oLe oLe (aj) (ae 1) (ae 0))))))
theorem rO:aN P w K mg base (CX1 P w) 1 A.a_48 A.d_48 ["many"] (ki K A):=
 T.f_48.f.okS Gz (Bf K A) (FV T.1) fun _ _ _ _ _ _ hr=>
 ar (aF (az kU (aj) (az dh (xX PySem.F.plainAttrs_int PySem.F.slot_int_bit_length PySem.F.type_int_bit_length yH (az dh (ae 0) (aj))) (aj))))
theorem FK:aN P w K mg base (CX1 P w) 2 A.a_47 A.d_47 ["count", "elder"] (nV K A):=
 T.f_47.f.okS gE (CO K A) (Fz T.1) fun _ _ _ _ _ _ hr=>
 ak (aC 2 gE.nd (cf (ag))) (ak (aC 3 gE.nd (ae 1)) (ak (aC 4 gE.nd (ae 0)) (ak (ms (kG oLt oLt (aj) (ae 3) (ae 4)) (ak (aC 5 gE.nd (aM (rO T) hr.le T.f_48 (ac (ae 4) (ag)))) (ar (aV (be oLe (ae 3) (ae 5)) (ak (cF (fM PySem.F.plainAttrs_list PySem.F.slot_list_append PySem.F.type_list_append cL (ae 2) (ac (aj) (ag)))) (ar (aC 4 gE.nd (ae 5)))) (ak (cF (fM PySem.F.plainAttrs_list PySem.F.slot_list_append PySem.F.type_list_append cL (ae 2) (ac (aj) (ag)))) (ak (aC 3 gE.nd (az dh (ae 3) (ae 5))) (ar (aC 4 gE.nd (az dh (ae 4) (ae 5))))))))) PassesOwn.never) (ar (aF (ae 2))))))
theorem Fg:aN P w K mg base (CX1 P w) 3 A.a_40 A.d_40 ["many", "thing"] (ol K A):=
 T.f_40.f.okS Fh (CS K A) (EN T.1) fun _ _ _ _ _ _ hr=>
 ar (aF (dc (aY fL T.z_isinstance boot_isinstance (ac (ae 1) (ac (fw T.z_tuple boot_tuple) (ag)))) (dc (dS (bU hr.units150) (aY da T.z_len PySem.boot_len (ac (ae 1) (ag))) (ae 0)) (dL (aY (Cl rfl) T.z_all L2.uL (ac (ip (ys:=[]) (by exact ⟨rfl,by decide +kernel,by decide +kernel,rfl,by decide +kernel,by decide +kernel⟩) (by exact .nil) (gX (ae 1)) (fun C s H fp=>fI) (fun C s H fp=>(aM (nU T) hr.le T.f_52 (ac (ae 0) (ag))))) (ag)))))))
theorem xR:aN P w K mg base (CX1 P w) 6 A.a_59 A.d_59 ["stamper"] (iA K A):=
 T.f_59.f.okS Eg (Dq K A) (FW T.1) fun _ _ _ _ _ _ hr=>
 ar (aF (cf (ac (aU (ac (bE) (ag))) (ac (aU (ac (bE) (ac (aj) (ac (dC (dg T) hr.le bq (ae 0) (ac (aU (ac (bE) (ag))) (ag))) (ag))))) (ag)))))
theorem yj:aN P w K mg base (CX1 P w) 1 A.a_55 A.d_55 ["turn", "own", "aside"] (lW K A):=
 T.f_55.f.okS EE (CU K A) (DK T.1) fun _ _ _ _ _ _ hr=>
 ar (aF (se (be (bU hr.units150) (ae 0) (aj)) (aU (ac (bE) (ac (ae 1) (ac (ae 2) (ag))))) (aU (ac (bE) (ac (ae 2) (ac (ae 1) (ag)))))))
theorem DE:aN P w K mg base (CX1 P w) 6 A.a_44 A.d_44 ["stamper", "count", "elder", "steps"] (lF K A):=
 T.f_44.f.okS gL (Dz K A) (DZ T.1) fun _ _ _ _ _ _ hr=>
 ak (aC 4 gL.nd (cf (ag))) (ak (aC 5 gL.nd (cf (ag))) (ak (aC 6 gL.nd (aZ (aH hr.units1) (ae 3) (aj) (fun _ _=>rfl))) (ak (aC 7 gL.nd (aZ (aH hr.units1) (ae 3) (aj) (fun _ _=>rfl))) (ak (jS 8 gL.nd (gX (aZ (aH hr.units1) (ae 3) (aj) (fun _ _=>rfl))) (ak (cF (fM PySem.F.plainAttrs_list PySem.F.slot_list_append PySem.F.type_list_append cL (ae 4) (ac (aM (yj T) hr.le T.f_55 (ac (aZ (aH hr.units1) (ae 8) (aj) (fun _ _=>rfl)) (ac (ae 6) (ac (aZ (aH hr.units1) (ae 8) (aj) (fun _ _=>rfl)) (ag))))) (ag)))) (ak (aC 6 gL.nd (dC (dg T) hr.le bq (ae 0) (ac (aZ (aH hr.units1) (ae 4) (er (aj)) (fun _ _=>rfl)) (ag)))) (ar (aV (be (bU hr.units150) (aZ (aH hr.units1) (ae 8) (aj) (fun _ _=>rfl)) (aj)) (ak (cF (fM PySem.F.plainAttrs_list PySem.F.slot_list_append PySem.F.type_list_append cL (ae 5) (ac (aM (yj T) hr.le T.f_55 (ac (aZ (aH hr.units1) (ae 8) (aj) (fun _ _=>rfl)) (ac (ae 7) (ac (aZ (aH hr.units1) (ae 8) (aj) (fun _ _=>rfl)) (ag))))) (ag)))) (ar (aC 7 gL.nd (dC (dg T) hr.le bq (ae 0) (ac (aZ (aH hr.units1) (ae 5) (er (aj)) (fun _ _=>rfl)) (ag)))))) (aP))))) PassesOwn.never) (ak (cF (fM PySem.F.plainAttrs_list PySem.F.slot_list_append PySem.F.type_list_append cL (ae 4) (ac (aU (ac (bE) (ac (ae 1) (ac (ae 6) (ag))))) (ag)))) (ak (cF (fM PySem.F.plainAttrs_list PySem.F.slot_list_append PySem.F.type_list_append cL (ae 5) (ac (aU (ac (bE) (ac (ae 2) (ac (ae 7) (ag))))) (ag)))) (ar (aF (aU (ac (ae 4) (ac (ae 5) (ag))))))))))))
theorem FR:aN P w K mg base (CX1 P w) 1 A.a_58 A.d_58 ["turns", "marks"] (lJ K A):=
 T.f_58.f.okS iQ (CI K A) (Em T.1) fun _ _ _ _ _ _ hr=>
 ak (aC 2 iQ.nd (cf (ag))) (ak (aC 3 iQ.nd (aj)) (ak (aC 4 iQ.nd (az dh (aY da T.z_len PySem.boot_len (ac (ae 1) (ag))) (aj))) (ak (jS 5 iQ.nd (gX (ae 0)) (ar (aV (be (bU hr.units150) (ae 5) (aj)) (ak (cF (fM PySem.F.plainAttrs_list PySem.F.slot_list_append PySem.F.type_list_append cL (ae 2) (ac (aU (ac (ae 5) (ac (aZ (aH hr.units1) (ae 1) (ae 4) (fun _ _=>rfl)) (ag)))) (ag)))) (ar (aC 4 iQ.nd (az dh (ae 4) (aj))))) (ak (cF (fM PySem.F.plainAttrs_list PySem.F.slot_list_append PySem.F.type_list_append cL (ae 2) (ac (aU (ac (ae 5) (ac (aZ (aH hr.units1) (ae 1) (ae 3) (fun _ _=>rfl)) (ag)))) (ag)))) (ar (aC 3 iQ.nd (az bi (ae 3) (aj))))))) PassesOwn.never) (ar (aF (aU (ac (aZ (aH hr.units1) (ae 1) (ae 3) (fun _ _=>rfl)) (ac (uf T.z_list T.z_reversed rfl (ac (ae 2) (ag))) (ag)))))))))
theorem Fo (cdv:Value) (Ar:Around) (outer:List Env) (s:Shared) (H:Hp) (E:XK)
  (hr:bh 6 (Ar.deeper (envOfC "growth_terms" (am mv) s.heap.objs.size A.a_46 cdv))):PSs (cI (CX1 P w) P w K mg base ["stamper", "count", "elder", "marks", "turns", "younger"] "growth_terms" (am mv) A.a_46 cdv Ar outer s H E) (aQ mv) (BB K A E):=QSs.out (
 ak (aV (df (bL (aM (xZ T) hr.le T.f_50 (ac (ae 1) (ac (ae 2) (ag)))))) (ar (ij T.er_NoPlace T.mc_NoPlace eN)) (aP)) (ak (aC 4 sw.nd (aM (FK T) hr.le T.f_47 (ac (ae 1) (ac (ae 2) (ag))))) (ak (aV (df (bL (aM (Fg T) hr.le T.f_40 (ac (se (be (bU hr.units150) (ae 1) (aj)) (aj) (az bi (aY da T.z_len PySem.boot_len (ac (ae 4) (ag))) (aj))) (ac (ae 3) (ag)))))) (ar (ij T.er_NoPaper T.mc_NoPaper eN)) (aP)) (ak (aV (be (bU hr.units150) (ae 2) (aj)) (ak (aC 5 sw.nd (se (be (bU hr.units150) (ae 1) (aj)) (aM (xR T) hr.le T.f_59 (ac (ae 0) (ag))) (cf (ac (aU (ac (bE) (ac (ae 1) (ac (aZ (aH hr.units1) (ae 3) (aj) (fun _ _=>rfl)) (ag))))) (ag))))) (ar (aF (aU (ac (ae 5) (ac (aM (xR T) hr.le T.f_59 (ac (ae 0) (ag))) (ag))))))) (aP)) (ar (aF (aM (DE T) hr.le T.f_44 (ac (ae 0) (ac (ae 1) (ac (ae 2) (ac (aM (FR T) hr.le T.f_58 (ac (ae 4) (ac (ae 3) (ag)))) (ag))))))))))))
theorem nX:aN P w K mg base (CX1 P w) 7 A.a_46 A.d_46 ["stamper", "count", "elder", "marks"] (fB K A):=
 T.f_46.f.okX sw (BG K A) (fun cdv Ar outer s H vs Q E hr h=>⟨_,Fo T cdv Ar outer s H E hr,Ff T.1 vs H Q E h⟩)
theorem GD:aN P w K mg base (CX1 P w) 3 A.a_51 A.d_51 ["thing"] (oh K A):=
 T.f_51.f.okS EI (Bt K A) (Ey T.1) fun _ _ _ _ _ _ hr=>
 ar (aF (dc (aY fL T.z_isinstance boot_isinstance (ac (ae 0) (ac (fw T.z_tuple boot_tuple) (ag)))) (dc (dS (bU hr.units150) (aY da T.z_len PySem.boot_len (ac (ae 0) (ag))) (aj)) (dc (aM (yq T) hr.le T.f_49 (ac (aZ (aH hr.units1) (ae 0) (aj) (fun _ _=>rfl)) (ag))) (dL (aM (nU T) hr.le T.f_52 (ac (aZ (aH hr.units1) (ae 0) (aj) (fun _ _=>rfl)) (ag))))))))
theorem EQ (cdv:Value) (Ar:Around) (outer:List Env) (s:Shared) (H:Hp) (E:XK)
  (hr:bh 3 (Ar.deeper (envOfC "check_head" (am mz) s.heap.objs.size A.a_41 cdv))):PSs (cI (CX1 P w) P w K mg base ["thing"] "check_head" (am mz) A.a_41 cdv Ar outer s H E) (aQ mz) (AX K A E):=QSs.out (
 ar (aV (df (bL (aM (GD T) hr.le T.f_51 (ac (ae 0) (ag))))) (ar (ij T.er_NoHead T.mc_NoHead eN)) (aP)))
theorem Fe:aN P w K mg base (CX1 P w) 4 A.a_41 A.d_41 ["thing"] (oI K A):=
 T.f_41.f.okX Gj (CJ K A) (fun cdv Ar outer s H vs Q E hr h=>⟨_,EQ T cdv Ar outer s H E hr,DX T.1 vs H Q E h⟩)
theorem HX:aN P w K mg base (CX1 P w) 1 A.a_0 A.d_0 ["self", "due", "came"] (sA K A):=
 T.f_0.okS IC (Gn K A) (Hs T.1) fun _ _ _ _ _ _ hr=>
 ak (uQ (ae 0) (ae 1)) (ar (uQ (ae 0) (ae 2)))
theorem Gf (cdv:Value) (Ar:Around) (outer:List Env) (s:Shared) (H:Hp) (E:XK)
  (hr:bh 7 (Ar.deeper (envOfC "growth_answer" (am ma) s.heap.objs.size A.a_45 cdv))):PSs (cI (CX1 P w) P w K mg base ["stamper", "head", "elder", "marks", "terms", "came"] "growth_answer" (am ma) A.a_45 cdv Ar outer s H E) (aQ ma) (Dk K A E):=QSs.out (
 ak (cF (hU (Fe T) hr.le T.f_41.m T.f_41.f.kp T.f_41.b pS (ac (ae 1) (ag)))) (ak (aC 4 sH.nd (hU (nX T) hr.le T.f_46.m T.f_46.f.kp T.f_46.b pS (ac (ae 0) (ac (aZ (aH hr.units1) (ae 1) (aj) (fun _ _=>rfl)) (ac (ae 2) (ac (ae 3) (ag))))))) (ak (aC 5 sH.nd (dC (dg T) hr.le bq (ae 0) (ac (aZ (aH hr.units1) (aZ (aH hr.units1) (ae 4) (aj) (fun _ _=>rfl)) (er (aj)) (fun _ _=>rfl)) (ag)))) (ak (aV (be (rq hr.units150) (ae 5) (aZ (aH hr.units1) (ae 1) (aj) (fun _ _=>rfl))) (ar (xA T.em_Broken (HX T) hr.le T.b_0 T.mc_Broken eN (ac (aZ (aH hr.units1) (ae 1) (aj) (fun _ _=>rfl)) (ac (ae 5) (ag))))) (aP)) (ar (aF (dC (dg T) hr.le bq (ae 0) (ac (aZ (aH hr.units1) (aZ (aH hr.units1) (ae 4) (aj) (fun _ _=>rfl)) (er (aj)) (fun _ _=>rfl)) (ag)))))))))
theorem ym:aN P w K mg base (CX1 P w) 8 A.a_45 A.d_45 ["stamper", "head", "elder", "marks"] (jZ K A):=
 T.f_45.f.okX sH (Dv K A) (fun cdv Ar outer s H vs Q E hr h=>⟨_,Gf T cdv Ar outer s H E hr,Fp T.1 vs H Q E h⟩)
theorem yu:aN P w K mg base (CX1 P w) 9 A.a_13 A.d_13 ["_law_what", "_law_stamper_here", "_law_top", "_law_elder", "_law_marks"] (iI K A):=
 T.f_13.f.okS ow (BV K A) (Ee T.1) fun _ _ _ _ _ E hr=>
 ak (aC 5 ow.nd (gG)) (ak (xI (fun pn' E' EH hEH=>ar (aV (be (bU hr.units150) (ae 0) (aj)) (ar (cF (hU (nX T) hr.le T.f_46.m T.f_46.f.kp T.f_46.b hEH (ac (ae 1) (ac (ae 2) (ac (ae 3) (ac (ae 4) (ag)))))))) (ar (cF (hU (ym T) hr.le T.f_45.m T.f_45.f.kp T.f_45.b hEH (ac (ae 1) (ac (ae 2) (ac (ae 3) (ac (ae 4) (ag)))))))))) (yB 6 ow.nd T.eo_StampError T.mc_StampError (fun a=>ar (aC 5 ow.nd (ae 6))) (tU)) (aP)) (ar (aF (ae 5))))
theorem FY:aN P w K mg base (CX1 P w) 3 A.a_26 A.d_26 ["_law_cell", "_law_mark"] (lT K A):=
 T.f_26.f.okS ET (Al K A) (GC T.1) fun _ _ _ _ _ _ hr=>
 ak (aV (be oGt (az bD (ae 0) (aj)) (aj)) (ar (aF (aM (sG T) hr.le T.f_30 (ac (az bK (ae 0) (aj)) (ag))))) (aP)) (ak (aV (bL (aY fL T.z_isinstance boot_isinstance (ac (ae 1) (ac (fw T.z_str boot_str) (ag))))) (ar (aF (az bi (ae 1) (bE)))) (aP)) (ar (aF (eC rA T.z_str boot_str (ac (ae 1) (ag))))))
theorem EV:aN P w K mg base (CX1 P w) 2 A.a_23 A.d_23 ["_law_cell", "_law_count", "_law_mark"] (lw K A):=
 T.f_23.f.okS sY (AZ K A) (En T.1) fun _ _ _ _ _ _ hr=>
 ak (aC 3 sY.nd (cf (ac (gG) (ac (aU (ac (ae 1) (ag))) (ac (aU (ac (ae 1) (ac (ae 2) (ac (ae 2) (ag))))) (ac (cf (ac (ae 1) (ac (ae 2) (ag)))) (ac (aU (ac (eE) (ac (ae 2) (ag)))) (ac (aU (ac (az dh (er (aj)) (ae 1)) (ac (ae 2) (ag)))) (ac (aU (ac (az kU (aj) (aj)) (ac (ae 2) (ag)))) (ag)))))))))) (ak (aC 3 sY.nd (az bi (ae 3) (cf (ac (aU (ac (eC rA T.z_str boot_str (ac (ae 1) (ag))) (ac (ae 2) (ag)))) (ac (aU (ac (ae 1) (ac (aM (rT T) hr.le T.f_25 (ac (az bK (ae 0) (aj)) (ag))) (ag)))) (ac (ae 2) (ac (ir) (ag)))))))) (ar (aF (aZ (aH hr.units1) (ae 3) (az bD (ae 0) (aj)) (fun _ _=>rfl)))))
theorem Fv:aN P w K mg base (CX1 P w) 10 A.a_27 A.d_27 ["_law_stamper_here", "_law_script", "_law_count", "_law_elder", "_law_marks", "_law_mark"] (lI K A):=
 T.f_27.f.okS dR (CN K A) (FF T.1) fun _ _ _ _ _ _ hr=>
 ak (nA (ys:=["_law_script"]) 6 dR.nd (by exact ⟨rfl,by decide +kernel,by decide +kernel,rfl,by decide +kernel,by decide +kernel⟩) (by exact .cons rfl (by first | exact .inl rfl | exact .inr rfl) rfl (.nil)) (iJ T.z_range (ac (aj) (ac (aj) (ag)))) (fun C s H fp=>fI) (fun C s H fp=>(dS (bU hr.units150) (az bD (aM (fg T) hr.le T.f_14 (ac (ae 1) (ac (ae 0) (ag)))) (aj)) (aj)))) (ak (nA (ys:=["_law_script"]) 7 dR.nd (by exact ⟨rfl,by decide +kernel,by decide +kernel,rfl,by decide +kernel,by decide +kernel⟩) (by exact .cons rfl (by first | exact .inl rfl | exact .inr rfl) rfl (.nil)) (iJ T.z_range (ac (aj) (ac (aj) (ag)))) (fun C s H fp=>fI) (fun C s H fp=>(az bK (aM (fg T) hr.le T.f_14 (ac (ae 1) (ac (ae 0) (ag)))) (aj)))) (ak (aC 8 dR.nd (ae 2)) (ak (aV (bL (aZ (aH hr.units1) (ae 6) (aj) (fun _ _=>rfl))) (ar (aC 8 dR.nd (aM (Fw T) hr.le T.f_21 (ac (aZ (aH hr.units1) (ae 7) (aj) (fun _ _=>rfl)) (ac (ae 2) (ag)))))) (aP)) (ak (aV (bL (aZ (aH hr.units1) (ae 6) (aj) (fun _ _=>rfl))) (ar (aC 3 dR.nd (aM (FU T) hr.le T.f_22 (ac (aZ (aH hr.units1) (ae 7) (aj) (fun _ _=>rfl)) (ac (ae 2) (ag)))))) (aP)) (ak (aV (bL (aZ (aH hr.units1) (ae 6) (aj) (fun _ _=>rfl))) (ar (aC 4 dR.nd (aM (Eh T) hr.le T.f_24 (ac (aZ (aH hr.units1) (ae 7) (aj) (fun _ _=>rfl)) (ac (ae 4) (ag)))))) (aP)) (ak (aC 9 dR.nd (aM (yy T) hr.le T.f_16 (ac (cf (ac (eE) (ac (Cv (aZ (aH hr.units1) (ae 6) (aj) (fun _ _=>rfl)) (dL (aZ (aH hr.units1) (ae 6) (aj) (fun _ _=>rfl)))) (ac (aZ (aH hr.units1) (ae 6) (aj) (fun _ _=>rfl)) (ag))))) (ag)))) (ak (aV (df (bL (aM (sL T) hr.le T.f_18 (ac (aM (yu T) hr.le T.f_13 (ac (aj) (ac (ae 0) (ac (ae 8) (ac (ae 3) (ac (ae 4) (ag))))))) (ac (ae 9) (ag)))))) (ar (aF (eE))) (aP)) (ak (aC 10 dR.nd (aU (ac (ae 2) (ac (ae 5) (ag))))) (ak (aV (bL (aZ (aH hr.units1) (ae 6) (aj) (fun _ _=>rfl))) (ar (aC 10 dR.nd (aU (ac (ae 2) (ac (aM (FY T) hr.le T.f_26 (ac (aZ (aH hr.units1) (ae 7) (aj) (fun _ _=>rfl)) (ac (ae 5) (ag)))) (ag)))))) (aP)) (ak (aC 11 dR.nd (dS (rq hr.units150) (aZ (aH hr.units1) (ae 10) (aj) (fun _ _=>rfl)) (ae 5))) (ak (aV (bL (aZ (aH hr.units1) (ae 6) (aj) (fun _ _=>rfl))) (ar (aC 10 dR.nd (aM (EV T) hr.le T.f_23 (ac (aZ (aH hr.units1) (ae 7) (aj) (fun _ _=>rfl)) (ac (ae 2) (ac (ae 5) (ag))))))) (aP)) (ak (aC 9 dR.nd (aM (yy T) hr.le T.f_16 (ac (cf (ac (aZ (aH hr.units1) (ae 6) (aj) (fun _ _=>rfl)) (ac (aZ (aH hr.units1) (ae 6) (aj) (fun _ _=>rfl)) (ac (aZ (aH hr.units1) (ae 6) (aj) (fun _ _=>rfl)) (ac (ae 11) (ag)))))) (ag)))) (ar (aF (aM (sL T) hr.le T.f_18 (ac (aM (yu T) hr.le T.f_13 (ac (aj) (ac (ae 0) (ac (ae 10) (ac (ae 3) (ac (ae 4) (ag))))))) (ac (ae 9) (ag))))))))))))))))))
theorem HR:aN P w K mg base (CX1 P w) 1 A.a_3 A.d_3 ["self", "stamper"] (tz K A):=
 T.f_3.okS GM (Fd K A) (GU T.1) fun _ _ _ _ _ _ hr=>
 ak (iV (ae 0) (ae 1)) (ak (iV (ae 0) (cf (ag))) (ar (iV (ae 0) (ir))))
theorem HS:aN P w K mg base (CX1 P w) 3 A.a_4 A.d_4 ["self", "entry"] (pZ K A):=
 T.f_4.okS Hn (Gr K A) (IH T.1) fun _ _ _ _ _ _ hr=>
 ak (aV (df (bL (aM (nU T) hr.le T.f_52 (ac (ae 1) (ag))))) (ar (mq)) (aP)) (ak (cF (fM PySem.F.plainAttrs_list PySem.F.slot_list_append PySem.F.type_list_append cL (fe (ae 0)) (ac (ae 1) (ag)))) (ar (aF (az dh (aY da T.z_len PySem.boot_len (ac (fe (ae 0)) (ag))) (aj)))))
theorem wX:aN P w K mg base (CX1 P w) 1 A.a_9 A.d_9 ["self"] (kH K A):=
 T.f_9.okS Hj (Fk K A) (Hk T.1) fun _ _ _ _ _ _ hr=>
 ar (aF (aY da T.z_len PySem.boot_len (ac (fe (ae 0)) (ag))))
theorem AS:aN P w K mg base (CX1 P w) 4 A.a_7 A.d_7 ["self", "count", "elder"] (oP K A):=
 T.f_7.okS HJ (Ft K A) (HY T.1) fun _ _ _ _ _ _ hr=>
 ar (aF (dc (aM (xZ T) hr.le T.f_50 (ac (ae 1) (ac (ae 2) (ag)))) (dL (dS oLe (ae 1) (kD (ae 0) T.cl_Row T.me_Row_size (wX T) hr.le T.b_9 bq)))))
theorem Eu (n:Nat) (G:aN P w K mg base (CX1 P w) (5+2*n) A.a_10 A.d_10 ["self", "first", "many"] (dO K A n)):aN P w K mg base (CX1 P w) (5+2*n+1) A.a_11 A.d_11 ["self", "first", "many"] (oA K A n):=
 T.f_11.okS yl (Bk K A n) (DS T.1 n) fun _ _ _ _ _ _ (hr:bh (5+2*n) _)=>
 ak (aV (be (bU hr.units150) (ae 2) (aj)) (ar (aF (aU (ac (bE) (ag))))) (aP)) (ak (aV (be (bU hr.units150) (ae 2) (aj)) (ar (aF (aU (ac (bE) (ac (aZ (aH hr.units1) (fe (ae 0)) (ae 1) (fun _ _=>rfl)) (ag)))))) (aP)) (ak (aC 3 yl.nd (aM (rO T) hr.le T.f_48 (ac (ae 2) (ag)))) (ar (aF (aU (ac (bE) (ac (bS (ae 0) T.cl_Row T.me_Row_top_of G hr.le T.b_10 bq (ac (ae 1) (ac (ae 3) (ag)))) (ac (bS (ae 0) T.cl_Row T.me_Row_top_of G hr.le T.b_10 bq (ac (az bi (ae 1) (ae 3)) (ac (az dh (ae 2) (ae 3)) (ag)))) (ag)))))))))
theorem lc:∀ n:Nat,aN P w K mg base (CX1 P w) (5+2*n) A.a_10 A.d_10 ["self", "first", "many"] (dO K A n)
 | 0=>⟨fun vs H Q E h=>(xE K A vs H Q E h).elim,fun _ _ _ H _ _ vs Q E _ _ _ _ h=>(xE K A vs H Q E h).elim⟩
 | n+1=>show aN P w K mg base (CX1 P w) (5+2*n+1+1) A.a_10 A.d_10 ["self", "first", "many"] (dO K A (n+1)) from T.f_10.okS ya (Dy K A (n+1)) (Gq T.1 n) fun _ _ _ _ _ _ (hr:bh (5+2*n+1) _)=>
 ak (aC 3 ya.nd (aU (ac (ae 1) (ac (ae 2) (ag))))) (ak (aV (be (qz hr.units150) (ae 3) (fe (ae 0))) (ar (oY hr.units1 (fe (ae 0)) (ae 3) (qQ (dg T) hr.le bq (ae 0) T.cl_Row T.na_Row_stamper (ac (bS (ae 0) T.cl_Row T.me_Row_top_term (Eu T n (lc n)) hr.le T.b_11 bq (ac (ae 1) (ac (ae 2) (ag)))) (ag))))) (aP)) (ar (aF (aZ (aH hr.units1) (fe (ae 0)) (ae 3) (fun _ _=>rfl)))))
theorem HW (cdv:Value) (Ar:Around) (outer:List Env) (s:Shared) (H:Hp) (E:XK)
  (hr:bh 145 (Ar.deeper (envOfC "Row.mark_at" (am s_8) s.heap.objs.size A.a_8 cdv))):PSs (cI (CX1 P w) P w K mg base ["self", "count"] "Row.mark_at" (am s_8) A.a_8 cdv Ar outer s H E) (aQ s_8) (T_8 K A E):=QSs.out (
 ak (aV (df (bL (bS (ae 0) T.cl_Row T.me_Row_has_elder (AS T) hr.le T.b_7 bq (ac (kD (ae 0) T.cl_Row T.me_Row_size (wX T) hr.le T.b_9 bq) (ac (ae 1) (ag)))))) (ar (ij T.er_NoPlace T.mc_NoPlace eN)) (aP)) (ar (aF (qQ (dg T) hr.le bq (ae 0) T.cl_Row T.na_Row_stamper (ac (aU (ac (bE) (ac (ae 1) (ac (bS (ae 0) T.cl_Row T.me_Row_top_of (lc T 70) hr.le T.b_10 bq (ac (aj) (ac (ae 1) (ag)))) (ag))))) (ag))))))
theorem wP:aN P w K mg base (CX1 P w) 146 A.a_8 A.d_8 ["self", "count"] (jG K A):=
 T.f_8.okX Hi (Go K A) (fun cdv Ar outer s H vs Q E hr h=>⟨_,HW T cdv Ar outer s H E hr,HP T.1 vs H Q E h⟩)
theorem xQ:aN P w K mg base (CX1 P w) 2 A.a_20 A.d_20 ["_law_cell", "_law_size"] (iF K A):=
 T.f_20.f.okS ES (Ay K A) (Gg T.1) fun _ _ _ _ _ _ hr=>
 ak (aV (be oGt (az bD (ae 0) (aj)) (aj)) (ar (aF (az dh (az bD (az bK (ae 0) (aj)) (az bi (ae 1) (aj))) (aj)))) (aP)) (ar (aF (aM (rT T) hr.le T.f_25 (ac (az bK (ae 0) (aj)) (ag)))))
theorem FQ:aN P w K mg base (CX1 P w) 1 A.a_38 A.d_38 ["_law_found"] (oi K A):=
 T.f_38.f.okS Fu (Cd K A) (GG T.1) fun _ _ _ _ _ _ hr=>
 ar (aF (dc (aY fL T.z_isinstance boot_isinstance (ac (ae 0) (ac (fw T.z_int boot_int) (ag)))) (dL (xG (aY fL T.z_isinstance boot_isinstance (ac (ae 0) (ac (fw T.z_bool boot_bool) (ag))))))))
theorem ye:aN P w K mg base (CX1 P w) 2 A.a_39 A.d_39 ["_law_thing", "_law_many_here"] (je K A):=
 T.f_39.f.okS Ej (AJ K A) (DF T.1) fun _ _ _ _ _ _ hr=>
 ar (aF (dc (aM (FQ T) hr.le T.f_38 (ac (ae 0) (ag))) (dL (jP oLe oLt (aj) (ae 0) (ae 1)))))
theorem wW:∀ n:Nat,aN P w K mg base (CX1 P w) (145+n) A.a_5 A.d_5 ["self", "first", "many", "elder"] (kJ K A n)
 | 0=>⟨fun vs H Q E h=>(AC K A vs H Q E h).elim,fun _ _ _ H _ _ vs Q E _ _ _ _ h=>(AC K A vs H Q E h).elim⟩
 | n+1=>T.f_5.okS Bn (DM K A (n+1)) (II T.1 n) fun _ _ _ _ _ _ (hr:bh (145+n) _)=>
 ak (aV (x_w (sW (be (bU hr.units150) (ae 3) (aj)) (pf (be (bU hr.units150) (ae 3) (ae 2))))) (ar (aF (aU (ac (bS (ae 0) T.cl_Row T.me_Row_top_of (lc T 70) hr.le T.b_10 bq (ac (ae 1) (ac (ae 2) (ag)))) (ag))))) (aP)) (ak (aC 4 Bn.nd (aM (rO T) hr.le T.f_48 (ac (ae 2) (ag)))) (ak (aV (be oLe (ae 3) (ae 4)) (ar (aF (az bi (bS (ae 0) T.cl_Row T.me_Row_growth_marks (wW n) hr.le T.b_5 bq (ac (ae 1) (ac (ae 4) (ac (ae 3) (ag))))) (aU (ac (bS (ae 0) T.cl_Row T.me_Row_top_of (lc T 70) hr.le T.b_10 bq (ac (az bi (ae 1) (ae 4)) (ac (az dh (ae 2) (ae 4)) (ag)))) (ag)))))) (aP)) (ar (aF (az bi (aU (ac (bS (ae 0) T.cl_Row T.me_Row_top_of (lc T 70) hr.le T.b_10 bq (ac (ae 1) (ac (ae 4) (ag)))) (ag))) (bS (ae 0) T.cl_Row T.me_Row_growth_marks (wW n) hr.le T.b_5 bq (ac (az bi (ae 1) (ae 4)) (ac (az dh (ae 2) (ae 4)) (ac (az dh (ae 3) (ae 4)) (ag))))))))))
theorem HM (cdv:Value) (Ar:Around) (outer:List Env) (s:Shared) (H:Hp) (E:XK)
  (hr:bh 215 (Ar.deeper (envOfC "Row.growth_paper" (am s_6) s.heap.objs.size A.a_6 cdv))):PSs (cI (CX1 P w) P w K mg base ["self", "count", "elder"] "Row.growth_paper" (am s_6) A.a_6 cdv Ar outer s H E) (aQ s_6) (T_6 K A E):=QSs.out (
 ak (aV (df (bL (bS (ae 0) T.cl_Row T.me_Row_has_elder (AS T) hr.le T.b_7 bq (ac (ae 1) (ac (ae 2) (ag)))))) (ar (ij T.er_NoPlace T.mc_NoPlace eN)) (aP)) (ar (aF (se (be oGt (ae 1) (aj)) (bS (ae 0) T.cl_Row T.me_Row_growth_marks (wW T 70) hr.le T.b_5 bq (ac (aj) (ac (ae 1) (ac (ae 2) (ag))))) (aU (ag))))))
theorem HU:aN P w K mg base (CX1 P w) 216 A.a_6 A.d_6 ["self", "count", "elder"] (sK K A):=
 T.f_6.okX Hf (Ew K A) (fun cdv Ar outer s H vs Q E hr h=>⟨_,HM T cdv Ar outer s H E hr,Ib T.1 vs H Q E h⟩)
theorem EL:aN P w K mg base (CX1 P w) 217 A.a_12 A.d_12 ["_law_what", "_law_row", "_law_one", "_law_other_here"] (jJ K A):=
 T.f_12.f.okS oq (BA K A) (ED T.1) fun _ _ _ _ _ E hr=>
 ak (aC 4 oq.nd (gG)) (ak (xI (fun pn' E' EH hEH=>ar (aV (be (bU hr.units150) (ae 0) (aj)) (ar (cF (bS (ae 1) T.cl_Row T.me_Row_mark_at (wP T) hr.le T.b_8 hEH (ac (ae 2) (ag))))) (ar (cF (bS (ae 1) T.cl_Row T.me_Row_growth_paper (HU T) hr.le T.b_6 hEH (ac (ae 2) (ac (ae 3) (ag)))))))) (yB 5 oq.nd T.eo_StampError T.mc_StampError (fun a=>ar (aC 4 oq.nd (ae 5))) (tU)) (aP)) (ar (aF (ae 4))))
theorem EC:aN P w K mg base (CX1 P w) 218 A.a_28 A.d_28 ["_law_stamper_here", "_law_script"] (lA K A):=
 T.f_28.f.okS eT (Aq K A) (Fq T.1) fun _ _ _ _ _ _ hr=>
 ak (aC 2 eT.nd (zM T.mk_Row (HR T) hr.le T.mc_Row T.b_3 bq (ac (ae 0) (ag)))) (ak (aC 3 eT.nd (az bD (aM (fg T) hr.le T.f_14 (ac (ae 1) (ac (aj) (ag)))) (aj))) (ak (jS 4 eT.nd (iJ T.z_range (ac (aj) (ac (az bi (aj) (ae 3)) (ag)))) (ar (cF (bS (ae 2) T.cl_Row T.me_Row_add (HS T) hr.le T.b_4 bq (ac (aM (sG T) hr.le T.f_30 (ac (az bi (aM (fg T) hr.le T.f_14 (ac (ae 1) (ac (ae 4) (ag)))) (ae 4)) (ag))) (ag))))) PassesOwn.never) (ak (aC 5 eT.nd (bS (ae 2) T.cl_Row T.me_Row_mark_at (wP T) hr.le T.b_8 bq (ac (ae 3) (ag)))) (ak (jS 4 eT.nd (iJ T.z_range (ac (aj) (ac (az bi (aj) (aY (Dh rfl) T.z_min boot_min (ac (aY da T.z_len PySem.boot_len (ac (ae 1) (ag))) (ac (aj) (ag))))) (ag)))) (ak (aC 6 eT.nd (aM (fg T) hr.le T.f_14 (ac (ae 1) (ac (ae 4) (ag))))) (ak (aC 7 eT.nd (aM (xQ T) hr.le T.f_20 (ac (aM (fg T) hr.le T.f_14 (ac (ae 1) (ac (az bi (ae 4) (aj)) (ag)))) (ac (ae 3) (ag))))) (ak (aC 8 eT.nd (aM (xQ T) hr.le T.f_20 (ac (az bK (aM (fg T) hr.le T.f_14 (ac (ae 1) (ac (az bi (ae 4) (aj)) (ag)))) (aj)) (ac (ae 3) (ag))))) (ak (aC 9 eT.nd (aM (ye T) hr.le T.f_39 (ac (ae 7) (ac (az bi (ae 3) (aj)) (ag))))) (ak (aV (be oGt (az bD (ae 6) (aj)) (aj)) (ar (aC 9 eT.nd (dc (ae 9) (dL (aM (ye T) hr.le T.f_39 (ac (ae 8) (ac (az bi (ae 7) (aj)) (ag)))))))) (aP)) (ar (aV (df (bL (aM (sL T) hr.le T.f_18 (ac (aM (EL T) hr.le T.f_12 (ac (az bD (ae 6) (aj)) (ac (ae 2) (ac (ae 7) (ac (ae 8) (ag)))))) (ac (aZ (aH hr.units1) (cf (ac (aj) (ac (er (aj)) (ag)))) (eC IB T.z_int L2.Ba (ac (ae 9) (ag))) (fun _ _=>rfl)) (ag)))))) (ar (aF (eE))) (aP)))))))) PassesOwn.never) (ar (aF (dc (dS (bU hr.units150) (kD (ae 2) T.cl_Row T.me_Row_size (wX T) hr.le T.b_9 bq) (ae 3)) (dL (dS (bU hr.units150) (bS (ae 2) T.cl_Row T.me_Row_mark_at (wP T) hr.le T.b_8 bq (ac (ae 3) (ag))) (ae 5))))))))))
theorem Ei:aN P w K mg base (CX1 P w) 219 A.a_56 A.d_56 ["_law_script"] (oz K A):=
 T.f_56.f.okS fQ (Cz K A) (FZ T.1) fun _ _ _ _ _ _ hr=>
 ak (aC 1 fQ.nd (aM (Ez T) hr.le T.f_31 (ac (aM (fg T) hr.le T.f_14 (ac (ae 0) (ac (aj) (ag)))) (ag)))) (ak (aC 2 fQ.nd (aM (Gh T) hr.le T.f_15 (ac (aM (fg T) hr.le T.f_14 (ac (ae 0) (ac (aj) (ag)))) (ag)))) (ak (aC 3 fQ.nd (az bD (aM (fg T) hr.le T.f_14 (ac (ae 0) (ac (aj) (ag)))) (az bi (ae 2) (aj)))) (ak (aC 4 fQ.nd (aM (Gi T) hr.le T.f_19 (ac (ae 2) (ac (ae 3) (ag))))) (ak (aC 5 fQ.nd (eC AN T.z_tuple boot_tuple (ac (ip (ys:=["_law_script"]) (by exact ⟨rfl,by decide +kernel,by decide +kernel,rfl,by decide +kernel,by decide +kernel⟩) (by exact .cons rfl (by first | exact .inl rfl | exact .inr rfl) rfl (.nil)) (iE T.z_range (ac (ae 4) (ag))) (fun C s H fp=>fI) (fun C s H fp=>(aM (sG T) hr.le T.f_30 (ac (az bi (aM (fg T) hr.le T.f_14 (ac (ae 1) (ac (az bi (aj) (ae 0)) (ag)))) (az jb (aj) (ae 0))) (ag))))) (ag)))) (ak (aC 6 fQ.nd (aM (Ea T) hr.le T.f_29 (ac (ae 1) (ac (ae 2) (ac (ae 3) (ac (ae 5) (ag))))))) (ak (aV (df (bL (aM (Fv T) hr.le T.f_27 (ac (ae 1) (ac (ae 0) (ac (ae 2) (ac (ae 3) (ac (ae 5) (ac (aZ (aH hr.units1) (ae 6) (aj) (fun _ _=>rfl)) (ag)))))))))) (ar (aF (eE))) (aP)) (ak (aV (be (rq hr.units150) (aM (ym T) hr.le T.f_45 (ac (ae 1) (ac (aU (ac (ae 2) (ac (aZ (aH hr.units1) (ae 6) (aj) (fun _ _=>rfl)) (ag)))) (ac (ae 3) (ac (ae 5) (ag)))))) (aZ (aH hr.units1) (ae 6) (aj) (fun _ _=>rfl))) (ar (aF (eE))) (aP)) (ak (aC 7 fQ.nd (cf (ac (aU (ac (bE) (ag))) (ac (aU (ac (bE) (ac (aj) (ac (dC (dg T) hr.le bq (ae 1) (ac (aU (ac (bE) (ag))) (ag))) (ag))))) (ag))))) (ak (aC 8 fQ.nd (aM (nX T) hr.le T.f_46 (ac (ae 1) (ac (aj) (ac (aj) (ac (aU (ag)) (ag))))))) (ak (aV (x_w (sW (df (bL (aY fL T.z_isinstance boot_isinstance (ac (ae 8) (ac (fw T.z_tuple boot_tuple) (ag)))))) (pf (be (rq hr.units150) (ae 8) (aU (ac (ae 7) (ac (ae 7) (ag)))))))) (ar (aF (eE))) (aP)) (ak (cF (xX PySem.F.plainAttrs_list PySem.F.slot_list_clear PySem.F.type_list_clear ve (aZ (aH hr.units1) (ae 8) (aj) (fun _ _=>rfl)))) (ar (aF (dc (dS (bU hr.units150) (aZ (aH hr.units1) (ae 8) (aj) (fun _ _=>rfl)) (ae 7)) (dc (dS (bU hr.units150) (aM (nX T) hr.le T.f_46 (ac (ae 1) (ac (aj) (ac (aj) (ac (aU (ag)) (ag)))))) (aU (ac (ae 7) (ac (ae 7) (ag))))) (dL (aM (EC T) hr.le T.f_28 (ac (ae 1) (ac (ae 0) (ag))))))))))))))))))))
omit T
def rM (P:Program) (w:World) (K:W.Frag) (mg:Str→Option Value) (fa:Addr):Prop:=∃ (fd:FuncData) (tabs:List (Addr×Addr)) (sp:Sp),(∀ (s:Shared) (v:Value),BindsTo s fd ⟨[v],[]⟩ [("_law_script",v)])∧W.noTabs K=true∧(∀ t∈tabs,∃ y∈(["writing", "counting", "_law_sure", "_law_weak"]:List Str),W.tabIn K y=some t)∧(∀ base:Heap,K.In base→base.Ns mainGlobals mg→BM mg base→(∀ t∈tabs,W.CodeHd base t.1 t.2)→aN P w K mg base (CX1 P w) 219 fa fd ["_law_script"] sp)∧∀ (H:Hp) (a:Addr) (ns:List Int),ns.length≤63→(∀ t∈tabs,H t.2=some (.tbl #[]))→SqL K H a (ns.map V.int)→sp [.ref a] H (fun v _=>v=.bl true) fun _ _ _=>False
theorem Bz (T:Txt K mg A) (nt:W.noTabs K=true) (tb_60:W.tabIn K "writing" =some (A.k_60,A.t_60)) (tb_42:W.tabIn K "counting" =some (A.k_42,A.t_42)) (tb_32:W.tabIn K "_law_sure" =some (A.k_32,A.t_32)) (tb_36:W.tabIn K "_law_weak" =some (A.k_36,A.t_36)) (tdn:([A.t_60,A.t_42,A.t_32,A.t_36]:List Addr).Nodup):rM P w K mg A.a_56:=by
 refine ⟨A.d_56,[(A.k_60,A.t_60),(A.k_42,A.t_42),(A.k_32,A.t_32),(A.k_36,A.t_36)],oz K A,T.f_56.f.bt,nt,?_,fun base _ _ B C=>?_,fun H a ns hl hO hS=>⟨a,ns,rfl,hS,hl,⟨hO (A.k_60,A.t_60) (by simp),hO (A.k_42,A.t_42) (by simp),hO (A.k_32,A.t_32) (by simp),hO (A.k_36,A.t_36) (by simp),tdn⟩,fun _=>rfl⟩⟩
 · intro t ht
   simp only [List.mem_cons,List.not_mem_nil,or_false] at ht
   rcases ht with rfl | rfl | rfl | rfl
   · exact ⟨"writing",by simp,tb_60⟩
   · exact ⟨"counting",by simp,tb_42⟩
   · exact ⟨"_law_sure",by simp,tb_32⟩
   · exact ⟨"_law_weak",by simp,tb_36⟩
 · exact Ei ⟨T,B,C (A.k_60,A.t_60) (by simp),C (A.k_42,A.t_42) (by simp),C (A.k_32,A.t_32) (by simp),C (A.k_36,A.t_36) (by simp)⟩
theorem CV {h:Heap} {fa:Addr} (X:K.In h) (G:h.Ns mainGlobals mg) (hfa:mg "law" =some (.ref fa)) {x_54 x_52 x_53 x_57 x_62 x_2 x_60 x_1 x_42 x_32 x_36 x_31 x_14 x_15 x_17 x_19 x_34 x_30 x_35 x_29 x_21 x_22 x_25 x_24 x_16 x_18 x_49 x_50 x_48 x_47 x_40 x_59 x_55 x_44 x_58 x_46 x_51 x_41 x_0 x_45 x_13 x_26 x_23 x_27 x_3 x_4 x_9 x_7 x_11 x_10 x_8 x_20 x_38 x_39 x_5 x_6 x_12 x_28 x_56 y_NoStamp y_Broken y_NoPaper y_NoPlace y_NoHead y_StampError y_Numbers y_Row:Addr} {d0 d1 d2 d3 d4 d5 d6 d7 d8 d9 d10 d11 d12 d13 d14 d15 d16 d17 d18 d19 d20 d21 d22 d23 d24 d25 d26 d27 d28 d29 d30 d31 d32 d33 d34 d35 d36 d37 d38 d39 d40 d41 d42 d43 d44 d45 d46 d47 d48 d49 d50 d51 d52 d53 d54 d55 d56 d57 d58:FuncData} {tc0:Tok}
  (bo_Numbers:W.nsIn K mainGlobals "Numbers" =some (some (.ref y_Numbers))) (bo_Row:W.nsIn K mainGlobals "Row" =some (some (.ref y_Row))) (bc_NoStamp:W.nsIn K mainGlobals "NoStamp" =some (some (.ref y_NoStamp))) (bc_Broken:W.nsIn K mainGlobals "Broken" =some (some (.ref y_Broken))) (bc_NoPaper:W.nsIn K mainGlobals "NoPaper" =some (some (.ref y_NoPaper))) (bc_NoPlace:W.nsIn K mainGlobals "NoPlace" =some (some (.ref y_NoPlace))) (bc_NoHead:W.nsIn K mainGlobals "NoHead" =some (some (.ref y_NoHead))) (bc_StampError:W.nsIn K mainGlobals "StampError" =some (some (.ref y_StampError))) (h0:Fa K "is_whole" "is_whole" vB x_54 d0) (h1:Fa K "is_stamp" "is_stamp" uU x_52 d1) (h2:Fa K "is_term" "is_term" wU x_53 d2) (h3:Fa K "part_form" "part_form" vp x_57 d3) (h4:Fa K "written" "written" wB x_62 d4) (a5:W.findIn K (.ref y_Numbers) "number_of" =some (some (.ref x_2))) (h5:Fun K "number_of" "Numbers.number_of" s_2 x_2 d5) (fn5:W.isFn K (.ref x_2)=true) (h6:Fa K "writing" "writing" kQ x_60 d6) (tb_60:(W.tabIn K "writing").isSome=true) (a7:W.findIn K (.ref y_Numbers) "__init__" =some (some (.ref x_1))) (h7:Fun K "__init__" "Numbers.__init__" s_1 x_1 d7) (fn7:W.isFn K (.ref x_1)=true) (h8:Fa K "counting" "counting" kY x_42 d8) (tb_42:(W.tabIn K "counting").isSome=true) (h9:Fa K "_law_sure" "_law_sure" kF x_32 d9) (tb_32:(W.tabIn K "_law_sure").isSome=true) (h10:Fa K "_law_weak" "_law_weak" kI x_36 d10) (tb_36:(W.tabIn K "_law_weak").isSome=true) (h11:Fa K "_law_stamper" "_law_stamper" wC x_31 d11) (h12:Fa K "_law_cell_at" "_law_cell_at" wV x_14 d12) (h13:Fa K "_law_count_by" "_law_count_by" xw x_15 d13) (h14:Fa K "_law_half" "_law_half" vL x_17 d14) (h15:Fa K "_law_many" "_law_many" wf x_19 d15) (h16:Fa K "_law_text_by" "_law_text_by" wQ x_34 d16) (h17:Fa K "_law_stamp_by" "_law_stamp_by" uZ x_30 d17) (h18:Fa K "_law_tops" "_law_tops" vW x_35 d18) (h19:Fa K "_law_rows_of" "_law_rows_of" vF x_29 d19) (h20:Fa K "_law_no_count" "_law_no_count" vn x_21 d20) (h21:Fa K "_law_no_elder" "_law_no_elder" wH x_22 d21) (h22:Fa K "_law_no_stamp" "_law_no_stamp" va x_25 d22) (h23:Fa K "_law_no_paper" "_law_no_paper" xm x_24 d23) (h24:Fa K "_law_first" "_law_first" uV x_16 d24) (h25:Fa K "_law_is" "_law_is" vH x_18 d25) (h26:Fa K "is_count" "is_count" wF x_49 d26) (h27:Fa K "is_elder" "is_elder" wJ x_50 d27) (h28:Fa K "half" "half" xb x_48 d28) (h29:Fa K "growth_turns" "growth_turns" wA x_47 d29) (h30:Fa K "are_marks" "are_marks" xo x_40 d30) (h31:Fa K "void_terms" "void_terms" vJ x_59 d31) (h32:Fa K "joint" "joint" xh x_55 d32) (h33:Fa K "grown_terms" "grown_terms" wg x_44 d33) (h34:Fa K "step_marks" "step_marks" wR x_58 d34) (h35:Fa K "growth_terms" "growth_terms" mv x_46 d35) (h36:Fa K "is_head" "is_head" vg x_51 d36) (h37:Fa K "check_head" "check_head" mz x_41 d37) (a38:W.findIn K (.ref y_Broken) "__init__" =some (some (.ref x_0))) (h38:Fun K "__init__" "Broken.__init__" s_0 x_0 d38) (fn38:W.isFn K (.ref x_0)=true) (h39:Fa K "growth_answer" "growth_answer" ma x_45 d39) (h40:Fa K "_law_caught" "_law_caught" xB x_13 d40) (h41:Fa K "_law_other" "_law_other" xz x_26 d41) (h42:Fa K "_law_no_head" "_law_no_head" vX x_23 d42) (h43:Fa K "_law_refused" "_law_refused" vf x_27 d43) (a44:W.findIn K (.ref y_Row) "__init__" =some (some (.ref x_3))) (h44:Fun K "__init__" "Row.__init__" s_3 x_3 d44) (fn44:W.isFn K (.ref x_3)=true) (a45:W.findIn K (.ref y_Row) "add" =some (some (.ref x_4))) (h45:Fun K "add" "Row.add" s_4 x_4 d45) (fn45:W.isFn K (.ref x_4)=true) (a46:W.findIn K (.ref y_Row) "size" =some (some (.ref x_9))) (h46:Fun K "size" "Row.size" s_9 x_9 d46) (fn46:W.isFn K (.ref x_9)=true) (a47:W.findIn K (.ref y_Row) "has_elder" =some (some (.ref x_7))) (h47:Fun K "has_elder" "Row.has_elder" s_7 x_7 d47) (fn47:W.isFn K (.ref x_7)=true) (a48:W.findIn K (.ref y_Row) "top_term" =some (some (.ref x_11))) (h48:Fun K "top_term" "Row.top_term" vO x_11 d48) (fn48:W.isFn K (.ref x_11)=true) (a49:W.findIn K (.ref y_Row) "top_of" =some (some (.ref x_10))) (h49:Fun K "top_of" "Row.top_of" vV x_10 d49) (fn49:W.isFn K (.ref x_10)=true) (a50:W.findIn K (.ref y_Row) "mark_at" =some (some (.ref x_8))) (h50:Fun K "mark_at" "Row.mark_at" s_8 x_8 d50) (fn50:W.isFn K (.ref x_8)=true) (h51:Fa K "_law_near" "_law_near" xy x_20 d51) (h52:Fa K "_law_whole" "_law_whole" wl x_38 d52) (h53:Fa K "_law_within" "_law_within" wb x_39 d53) (a54:W.findIn K (.ref y_Row) "growth_marks" =some (some (.ref x_5))) (h54:Fun K "growth_marks" "Row.growth_marks" s_5 x_5 d54) (fn54:W.isFn K (.ref x_5)=true) (a55:W.findIn K (.ref y_Row) "growth_paper" =some (some (.ref x_6))) (h55:Fun K "growth_paper" "Row.growth_paper" s_6 x_6 d55) (fn55:W.isFn K (.ref x_6)=true) (h56:Fa K "_law_asked" "_law_asked" xr x_12 d56) (h57:Fa K "_law_rows" "_law_rows" vQ x_28 d57) (h58:Fa K "law" "law" uW x_56 d58) (pg_Numbers:W.plainGet K y_Numbers Str.empty=true) (hd_Numbers:W.hasDictIn K y_Numbers=true) (po_Numbers:W.plainOver K y_Numbers=true) (sa_Numbers:W.findIn K (.ref y_Numbers) "__setattr__" =some (some (.builtin "object.__setattr__"))) (na_Numbers_given:W.findIn K (.ref y_Numbers) "given" =some none) (pg_Row:W.plainGet K y_Row Str.empty=true) (hd_Row:W.hasDictIn K y_Row=true) (po_Row:W.plainOver K y_Row=true) (sa_Row:W.findIn K (.ref y_Row) "__setattr__" =some (some (.builtin "object.__setattr__"))) (na_Row_stamper:W.findIn K (.ref y_Row) "stamper" =some none) (na_Row_entries:W.findIn K (.ref y_Row) "entries" =some none) (na_Row_tops:W.findIn K (.ref y_Row) "tops" =some none) (mk_Numbers:W.makesIn K y_Numbers=true) (kc_Numbers:W.keepIn K (.ref y_Numbers)=true) (mk_Row:W.makesIn K y_Row=true) (kc_Row:W.keepIn K (.ref y_Row)=true) (eo_NoStamp:W.excIn K y_NoStamp veM "ValueError.__new__" =true) (eo2_Broken:lQ K y_Broken=true) (eo_NoPaper:W.excIn K y_NoPaper veM "ValueError.__new__" =true) (eo_NoPlace:W.excIn K y_NoPlace veM "ValueError.__new__" =true) (eo_NoHead:W.excIn K y_NoHead veM "ValueError.__new__" =true) (eo_StampError:W.excIn K y_StampError veM "ValueError.__new__" =true) (sa_Broken:W.findIn K (.ref y_Broken) "__setattr__" =some (some (.builtin "object.__setattr__"))) (hd_Broken:W.hasDictIn K y_Broken=true) (na_Broken_came:W.findIn K (.ref y_Broken) "came" =some none) (na_Broken_due:W.findIn K (.ref y_Broken) "due" =some none) (kc_Broken:W.keepIn K (.ref y_Broken)=true) (e0_NoPaper:W.findIn K (.ref y_NoPaper) "__getattribute__" =some (some (.builtin "BaseException.__getattribute__"))) (e1_NoPaper:W.findIn K (.ref y_NoPaper) "__getattr__" =some none) (e2_NoPaper:W.findIn K (.ref y_NoPaper) "__class__" =some (some (.builtin "object.__class__"))) (em0_NoPaper:W.mroIn K y_NoPaper (.type "object")=some true) (em1_NoPaper:W.mroIn K y_NoPaper (.type "BaseException")=some true) (e0_NoPlace:W.findIn K (.ref y_NoPlace) "__getattribute__" =some (some (.builtin "BaseException.__getattribute__"))) (e1_NoPlace:W.findIn K (.ref y_NoPlace) "__getattr__" =some none) (e2_NoPlace:W.findIn K (.ref y_NoPlace) "__class__" =some (some (.builtin "object.__class__"))) (em0_NoPlace:W.mroIn K y_NoPlace (.type "object")=some true) (em1_NoPlace:W.mroIn K y_NoPlace (.type "BaseException")=some true) (e0_NoHead:W.findIn K (.ref y_NoHead) "__getattribute__" =some (some (.builtin "BaseException.__getattribute__"))) (e1_NoHead:W.findIn K (.ref y_NoHead) "__getattr__" =some none) (e2_NoHead:W.findIn K (.ref y_NoHead) "__class__" =some (some (.builtin "object.__class__"))) (em0_NoHead:W.mroIn K y_NoHead (.type "object")=some true) (em1_NoHead:W.mroIn K y_NoHead (.type "BaseException")=some true) (e0_Broken:W.findIn K (.ref y_Broken) "__getattribute__" =some (some (.builtin "BaseException.__getattribute__"))) (e1_Broken:W.findIn K (.ref y_Broken) "__getattr__" =some none) (e2_Broken:W.findIn K (.ref y_Broken) "__class__" =some (some (.builtin "object.__class__"))) (em0_Broken:W.mroIn K y_Broken (.type "object")=some true) (em1_Broken:W.mroIn K y_Broken (.type "BaseException")=some true) (sb_NoPaper_StampError:W.mroIn K y_NoPaper (.ref y_StampError)=some true) (sb_NoPlace_StampError:W.mroIn K y_NoPlace (.ref y_StampError)=some true) (sb_NoHead_StampError:W.mroIn K y_NoHead (.ref y_StampError)=some true) (sb_Broken_StampError:W.mroIn K y_Broken (.ref y_StampError)=some true) (ki_NoPaper_ValueError:W.kitOne K (.ref y_NoPaper) (.type "ValueError")=some true) (ki_NoPaper_NoStamp:W.kitOne K (.ref y_NoPaper) (.ref y_NoStamp)=some false) (ki_NoPaper_Broken:W.kitOne K (.ref y_NoPaper) (.ref y_Broken)=some false) (ki_NoPaper_NoPaper:W.kitOne K (.ref y_NoPaper) (.ref y_NoPaper)=some true) (ki_NoPaper_NoPlace:W.kitOne K (.ref y_NoPaper) (.ref y_NoPlace)=some false) (ki_NoPaper_NoHead:W.kitOne K (.ref y_NoPaper) (.ref y_NoHead)=some false) (ki_NoPlace_ValueError:W.kitOne K (.ref y_NoPlace) (.type "ValueError")=some true) (ki_NoPlace_NoStamp:W.kitOne K (.ref y_NoPlace) (.ref y_NoStamp)=some false) (ki_NoPlace_Broken:W.kitOne K (.ref y_NoPlace) (.ref y_Broken)=some false) (ki_NoPlace_NoPaper:W.kitOne K (.ref y_NoPlace) (.ref y_NoPaper)=some false) (ki_NoPlace_NoPlace:W.kitOne K (.ref y_NoPlace) (.ref y_NoPlace)=some true) (ki_NoPlace_NoHead:W.kitOne K (.ref y_NoPlace) (.ref y_NoHead)=some false) (ki_NoHead_ValueError:W.kitOne K (.ref y_NoHead) (.type "ValueError")=some true) (ki_NoHead_NoStamp:W.kitOne K (.ref y_NoHead) (.ref y_NoStamp)=some false) (ki_NoHead_Broken:W.kitOne K (.ref y_NoHead) (.ref y_Broken)=some false) (ki_NoHead_NoPaper:W.kitOne K (.ref y_NoHead) (.ref y_NoPaper)=some false) (ki_NoHead_NoPlace:W.kitOne K (.ref y_NoHead) (.ref y_NoPlace)=some false) (ki_NoHead_NoHead:W.kitOne K (.ref y_NoHead) (.ref y_NoHead)=some true) (ki_Broken_ValueError:W.kitOne K (.ref y_Broken) (.type "ValueError")=some true) (ki_Broken_NoStamp:W.kitOne K (.ref y_Broken) (.ref y_NoStamp)=some false) (ki_Broken_Broken:W.kitOne K (.ref y_Broken) (.ref y_Broken)=some true) (ki_Broken_NoPaper:W.kitOne K (.ref y_Broken) (.ref y_NoPaper)=some false) (ki_Broken_NoPlace:W.kitOne K (.ref y_Broken) (.ref y_NoPlace)=some false) (ki_Broken_NoHead:W.kitOne K (.ref y_Broken) (.ref y_NoHead)=some false) (z_ValueError:W.nsIn K mainGlobals "ValueError" =some none) (z_all:W.nsIn K mainGlobals "all" =some none) (z_bool:W.nsIn K mainGlobals "bool" =some none) (z_int:W.nsIn K mainGlobals "int" =some none) (z_isinstance:W.nsIn K mainGlobals "isinstance" =some none) (z_len:W.nsIn K mainGlobals "len" =some none) (z_list:W.nsIn K mainGlobals "list" =some none) (z_max:W.nsIn K mainGlobals "max" =some none) (z_min:W.nsIn K mainGlobals "min" =some none) (z_range:W.nsIn K mainGlobals "range" =some none) (z_reversed:W.nsIn K mainGlobals "reversed" =some none) (z_str:W.nsIn K mainGlobals "str" =some none) (z_tuple:W.nsIn K mainGlobals "tuple" =some none) (c_MOST_PARTS:W.nsIn K mainGlobals "MOST_PARTS" =some (some (.int 8 tc0))) (nt:W.noTabs K=true) (td:mP K ["writing", "counting", "_law_sure", "_law_weak"]=true):rM P w K mg fa:=by
 cases hfa.symm.trans (W.mg_of X G h58.m)
 obtain ⟨⟨z_60,t_60⟩,tb_60⟩:=Option.isSome_iff_exists.mp tb_60
 obtain ⟨⟨z_42,t_42⟩,tb_42⟩:=Option.isSome_iff_exists.mp tb_42
 obtain ⟨⟨z_32,t_32⟩,tb_32⟩:=Option.isSome_iff_exists.mp tb_32
 obtain ⟨⟨z_36,t_36⟩,tb_36⟩:=Option.isSome_iff_exists.mp tb_36
 have tdn:([t_60,t_42,t_32,t_36]:List Addr).Nodup:=wz (by unfold mP at td;simp only [List.map_cons,List.map_nil,tb_60,tb_42,tb_32,tb_36,Option.map_some] at td;exact of_decide_eq_true td)
 exact Bz (A:=⟨x_54,d0,x_52,d1,x_53,d2,x_57,d3,x_62,d4,x_2,d5,x_60,d6,x_1,d7,x_42,d8,x_32,d9,x_36,d10,x_31,d11,x_14,d12,x_15,d13,x_17,d14,x_19,d15,x_34,d16,x_30,d17,x_35,d18,x_29,d19,x_21,d20,x_22,d21,x_25,d22,x_24,d23,x_16,d24,x_18,d25,x_49,d26,x_50,d27,x_48,d28,x_47,d29,x_40,d30,x_59,d31,x_55,d32,x_44,d33,x_58,d34,x_46,d35,x_51,d36,x_41,d37,x_0,d38,x_45,d39,x_13,d40,x_26,d41,x_23,d42,x_27,d43,x_3,d44,x_4,d45,x_9,d46,x_7,d47,x_11,d48,x_10,d49,x_8,d50,x_20,d51,x_38,d52,x_39,d53,x_5,d54,x_6,d55,x_12,d56,x_28,d57,fa,d58,z_60,t_60,z_42,t_42,z_32,t_32,z_36,t_36,y_NoStamp,y_Broken,y_NoPaper,y_NoPlace,y_NoHead,y_StampError,y_Numbers,y_Row⟩) ⟨h0.fm1 X G,h1.fm1 X G,h2.fm1 X G,h3.fm1 X G,h4.fm1 X G,h5,h5.b2,h6.fm0 X G,h7,h7.b1,h8.fm0 X G,h9.fm1 X G,h10.fm1 X G,h11.fm1 X G,h12.fm2 X G,h13.fm1 X G,h14.fm1 X G,h15.fm2 X G,h16.fm1 X G,h17.fm1 X G,h18.fm4 X G,h19.fm4 X G,h20.fm2 X G,h21.fm2 X G,h22.fm1 X G,h23.fm2 X G,h24.fm1 X G,h25.fm2 X G,h26.fm1 X G,h27.fm2 X G,h28.fm1 X G,h29.fm2 X G,h30.fm2 X G,h31.fm1 X G,h32.fm3 X G,h33.fm4 X G,h34.fm2 X G,h35.fm4 X G,h36.fm1 X G,h37.fm1 X G,h38,h38.b3,h39.fm4 X G,h40.fm5 X G,h41.fm2 X G,h42.fm3 X G,h43.fm6 X G,h44,h44.b2,h45,h45.b2,h46,h46.b1,h47,h47.b3,h48,h48.b3,h49,h49.b3,h50,h50.b2,h51.fm2 X G,h52.fm1 X G,h53.fm2 X G,h54,h54.b4,h55,h55.b3,h56.fm4 X G,h57.fm2 X G,h58.fm1 X G,W.mg_none_of X G z_ValueError,W.mg_none_of X G z_all,W.mg_none_of X G z_bool,W.mg_none_of X G z_int,W.mg_none_of X G z_isinstance,W.mg_none_of X G z_len,W.mg_none_of X G z_list,W.mg_none_of X G z_max,W.mg_none_of X G z_min,W.mg_none_of X G z_range,W.mg_none_of X G z_reversed,W.mg_none_of X G z_str,W.mg_none_of X G z_tuple,⟨_,W.mg_of X G c_MOST_PARTS⟩,h6.code X G tb_60,h8.code X G tb_42,h9.code X G tb_32,h10.code X G tb_36,W.mg_of X G bc_NoStamp,cY.ok eo_NoStamp,W.mg_of X G bc_Broken,eo2_Broken,W.mg_of X G bc_NoPaper,cY.ok eo_NoPaper,W.mg_of X G bc_NoPlace,cY.ok eo_NoPlace,W.mg_of X G bc_NoHead,cY.ok eo_NoHead,W.mg_of X G bc_StampError,cY.ok eo_StampError,eo_NoPaper,eo_NoPlace,eo_NoHead,⟨e0_NoPaper,e1_NoPaper,e2_NoPaper,em0_NoPaper,em1_NoPaper⟩,⟨e0_NoPlace,e1_NoPlace,e2_NoPlace,em0_NoPlace,em1_NoPlace⟩,⟨e0_NoHead,e1_NoHead,e2_NoHead,em0_NoHead,em1_NoHead⟩,⟨e0_Broken,e1_Broken,e2_Broken,em0_Broken,em1_Broken⟩,⟨eo2_Broken,sa_Broken,⟨e0_Broken,e1_Broken,e2_Broken,em0_Broken,em1_Broken⟩,na_Broken_came,hd_Broken⟩,⟨eo2_Broken,sa_Broken,⟨e0_Broken,e1_Broken,e2_Broken,em0_Broken,em1_Broken⟩,na_Broken_due,hd_Broken⟩,⟨eo2_Broken,a38,fn38,kc_Broken⟩,iU sb_NoPaper_StampError,iU sb_NoPlace_StampError,iU sb_NoHead_StampError,iU sb_Broken_StampError,ki_NoPaper_ValueError,ki_NoPaper_NoStamp,ki_NoPaper_Broken,ki_NoPaper_NoPaper,ki_NoPaper_NoPlace,ki_NoPaper_NoHead,ki_NoPlace_ValueError,ki_NoPlace_NoStamp,ki_NoPlace_Broken,ki_NoPlace_NoPaper,ki_NoPlace_NoPlace,ki_NoPlace_NoHead,ki_NoHead_ValueError,ki_NoHead_NoStamp,ki_NoHead_Broken,ki_NoHead_NoPaper,ki_NoHead_NoPlace,ki_NoHead_NoHead,ki_Broken_ValueError,ki_Broken_NoStamp,ki_Broken_Broken,ki_Broken_NoPaper,ki_Broken_NoPlace,ki_Broken_NoHead,W.mg_of X G bo_Numbers,⟨pg_Numbers,hd_Numbers,po_Numbers,sa_Numbers⟩,na_Numbers_given,W.mg_of X G bo_Row,⟨pg_Row,hd_Row,po_Row,sa_Row⟩,na_Row_stamper,na_Row_entries,na_Row_tops,⟨a46,fn46,h46.kp⟩,⟨a49,fn49,h49.kp⟩,⟨a48,fn48,h48.kp⟩,⟨a47,fn47,h47.kp⟩,⟨a54,fn54,h54.kp⟩,⟨a50,fn50,h50.kp⟩,⟨a55,fn55,h55.kp⟩,⟨a45,fn45,h45.kp⟩,⟨a5,fn5,h5.kp⟩,⟨mk_Numbers,a7,fn7,kc_Numbers⟩,⟨mk_Row,a44,fn44,kc_Row⟩⟩ nt tb_60 tb_42 tb_32 tb_36 tdn
theorem IK {l:W.OpenLaw} {q:Program} {loose:List Str} {XP:(Str→Option Value)→Heap→Prop} {YP:World→Heap→Prop} {d:DefRec} {K:Params→W.Frag} (hn:l.most=some 63) (hdf:d.params.defaults=[])
  (hY:∀ (w:World) (h:Heap),YP w h→(K w.params).In h) (hq:∀ y∈(["writing", "counting", "_law_sure", "_law_weak"]:List Str),((PyProof.Rows.recsOf q).find? fun e=>e.name==y).isSome=true)
  (F:∀ (w:World) (mg:Str→Option Value) (fa:Addr) (h:Heap),(K w.params).In h→h.Ns mainGlobals mg→mg d.name=some (.ref fa)→rM l.prog w (K w.params) mg fa):
  W.WalkO q loose XP YP l.row.toRowW d [] (fun f vs=>PySem.call f vs):=
 L2.vd (n:=63) (k:=219) (x:= "_law_script") (CX:=fun w=>CX1 l.prog w) hn (by decide) hdf ⟨rfl,by decide,by decide⟩ hY hq F fun _ _ _ _ _ ⟨_,_,_,_,_,_,z⟩=>z
end Rs
def PySem.W.Fast.tw11937510002843918598:Unit:=()
def PySem.W.Fast.tw6678105928245564880:Unit:=()
def PySem.W.Fast.tw6256123477335426057:Unit:=()
def PySem.W.Fast.tw2760900567684498377:Unit:=()
def PySem.W.Fast.tw17136871805150301231:Unit:=()
def PySem.W.Fast.tw449903442977953736:Unit:=()
def PySem.W.Fast.tw6337553152041228894:Unit:=()
def PySem.W.Fast.tw16242240498685519635:Unit:=()
def PySem.W.Fast.tw1270261624009348727:Unit:=()
def PySem.W.Fast.tw10449421518910085259:Unit:=()
def PySem.W.Fast.tw5252721479264376598:Unit:=()
def PySem.W.Fast.tw3279610928646741779:Unit:=()
def PySem.W.Fast.tw11115785996473952826:Unit:=()
def PySem.W.Fast.tw14450444231403141837:Unit:=()
def PySem.W.Fast.tw15032160236947509930:Unit:=()
def PySem.W.Fast.tw14497235233950409966:Unit:=()
def PySem.W.Fast.tw15825907392569757272:Unit:=()
def PySem.W.Fast.tw16389704339134941631:Unit:=()
def PySem.W.Fast.tw1388761806425985679:Unit:=()
def PySem.W.Fast.tw6264812899260320332:Unit:=()
def PySem.W.Fast.tw17491880687227694407:Unit:=()
def PySem.W.Fast.tw3027342297487376961:Unit:=()
def PySem.W.Fast.tw7335473217256651948:Unit:=()
def PySem.W.Fast.tw9105439499289738569:Unit:=()
def PySem.W.Fast.tw6812490722767251466:Unit:=()
def PySem.W.Fast.tw10859798627128873103:Unit:=()
def PySem.W.Fast.tw17696380810697620820:Unit:=()
def PySem.W.Fast.tw6000397078812559709:Unit:=()
def PySem.W.Fast.tw10134362636519944437:Unit:=()
def PySem.W.Fast.tw10739204287635593438:Unit:=()
def PySem.W.Fast.tw1503665563341705132:Unit:=()
def PySem.W.Fast.tw11026881981999079586:Unit:=()
def PySem.W.Fast.tw16757427496636719247:Unit:=()
def PySem.W.Fast.tw8874541895970782026:Unit:=()
def PySem.W.Fast.tw6084075574174676702:Unit:=()
def PySem.W.Fast.tw15065041773966225550:Unit:=()
def PySem.W.Fast.tw454057514101194456:Unit:=()
def PySem.W.Fast.tw1114660449470400685:Unit:=()
def PySem.W.Fast.tw360152578297320440:Unit:=()
def PySem.W.Fast.tw1135520498125439732:Unit:=()
def PySem.W.Fast.tw14854163979639601502:Unit:=()
def PySem.W.Fast.tw17086938004704102380:Unit:=()
def PySem.W.Fast.tw15089918661810932798:Unit:=()
def PySem.W.Fast.tw8703261820329679299:Unit:=()
def PySem.W.Fast.tw11377210906907307952:Unit:=()
def PySem.W.Fast.tw8376283757419070613:Unit:=()
def PySem.W.Fast.tw6337751802599103572:Unit:=()
def PySem.W.Fast.tw4101583530509197767:Unit:=()
def PySem.W.Fast.tw12946396472374630053:Unit:=()
def PySem.W.Fast.tw2060315771939721931:Unit:=()
def PySem.W.Fast.tw15450374958724775891:Unit:=()
def PySem.W.Fast.tw116690263662957347:Unit:=()
def PySem.W.Fast.tw17518568658219049829:Unit:=()
def PySem.W.Fast.tw14798849859811349391:Unit:=()
def PySem.W.Fast.tw967288124843395436:Unit:=()
def PySem.W.Fast.tw9227531520622541336:Unit:=()
def PySem.W.Fast.tw5922816808035135731:Unit:=()
def PySem.W.Fast.tw861649703837646808:Unit:=()
def PySem.W.Fast.tw16347159985870660107:Unit:=()
def PySem.W.Fast.tw7620918376534345295:Unit:=()
def PySem.W.Fast.tw6413386345687817375:Unit:=()
def PySem.W.Fast.tw9716807868798645269:Unit:=()
def PySem.W.Fast.tw9854249736676207944:Unit:=()
def PySem.W.Fast.tw9463112116324746223:Unit:=()
def PySem.W.Fast.tw18240180586752185995:Unit:=()
def PySem.W.Fast.tw9539585917116826192:Unit:=()
def PySem.W.Fast.tw14806724063961384612:Unit:=()
def PySem.W.Fast.tw7828246136786099880:Unit:=()
def PySem.W.Fast.tw15209310494247026028:Unit:=()
def PySem.W.Fast.tw5721660825089198864:Unit:=()
def PySem.W.Fast.tw15961210304170401124:Unit:=()
def PySem.W.Fast.tw8137936613001934078:Unit:=()
def PySem.W.Fast.tw7060159249183133048:Unit:=()
def PySem.W.Fast.tw4078470606065192007:Unit:=()
def PySem.W.Fast.tw323498718863974621:Unit:=()
def PySem.W.Fast.tw17397378586054256846:Unit:=()
def PySem.W.Fast.tw3308037037889107964:Unit:=()
def PySem.W.Fast.tw16784659896023155829:Unit:=()
def PySem.W.Fast.tw10210911364302279525:Unit:=()
def PySem.W.Fast.tw15223980723641224370:Unit:=()
def PySem.W.Fast.tw6982600966053170273:Unit:=()
def PySem.W.Fast.tw945651985765882348:Unit:=()
def PySem.W.Fast.tw15270428431789723924:Unit:=()
def PySem.W.Fast.tw14472565065614659798:Unit:=()
def PySem.W.Fast.tw2264748144454948108:Unit:=()
def PySem.W.Fast.tw8572478761152230521:Unit:=()
def PySem.W.Fast.tw16471459152581741910:Unit:=()
def PySem.W.Fast.tw18040121252290944226:Unit:=()
def PySem.W.Fast.tw5711357158687706962:Unit:=()
def PySem.W.Fast.tw17670604046309733628:Unit:=()
def PySem.W.Fast.tw507809258850726002:Unit:=()
def PySem.W.Fast.tw4451629742477511882:Unit:=()
def PySem.W.Fast.tw8202172986945900707:Unit:=()
def PySem.W.Fast.tw2230206919444174698:Unit:=()
def PySem.W.Fast.tw3074433351744184672:Unit:=()
def PySem.W.Fast.tw6270031657972174538:Unit:=()
def PySem.W.Fast.tw13714726266807332868:Unit:=()
def PySem.W.Fast.tw9381017102143304237:Unit:=()
def PySem.W.Fast.tw5186232754830930270:Unit:=()
def PySem.W.Fast.tw3816356006011190194:Unit:=()
def PySem.W.Fast.tw2357574602501909978:Unit:=()
def PySem.W.Fast.tw5405518100205852765:Unit:=()
def PySem.W.Fast.tw5493473975243622360:Unit:=()
def PySem.W.Fast.tw1520278110602595914:Unit:=()
def PySem.W.Fast.tw15948706353791869896:Unit:=()
def PySem.W.Fast.tw8022243351505918168:Unit:=()
def PySem.W.Fast.tw1786930455537417765:Unit:=()
def PySem.W.Fast.tw3463174507107518568:Unit:=()
def PySem.W.Fast.tw2071186829239374570:Unit:=()
def PySem.W.Fast.tw15305138863791283081:Unit:=()
def PySem.W.Fast.tw16108895273950964582:Unit:=()
def PySem.W.Fast.tw12660982998892403155:Unit:=()
def PySem.W.Fast.tw13868678273965725429:Unit:=()
def PySem.W.Fast.tw3868153909708874426:Unit:=()
def PySem.W.Fast.tw15958166389902643966:Unit:=()
def PySem.W.Fast.tw4037795272964481280:Unit:=()
def PySem.W.Fast.tw1042281978710606306:Unit:=()
def PySem.W.Fast.tw13522425556354957875:Unit:=()
def PySem.W.Fast.tw4580569442946149133:Unit:=()
def PySem.W.Fast.tw9878900344272935722:Unit:=()
def PySem.W.Fast.tw6721500445091096584:Unit:=()
def PySem.W.Fast.tw2666152798736271033:Unit:=()
def PySem.W.Fast.tw3380034071855184773:Unit:=()
def PySem.W.Fast.tw12988220927576634777:Unit:=()
def PySem.W.Fast.tw15315839303886252342:Unit:=()
def PySem.W.Fast.tw923657956910590878:Unit:=()
def PySem.W.Fast.tw17414443991808663927:Unit:=()
def PySem.W.Fast.tw17369897475963906718:Unit:=()
def PySem.W.Fast.tw5533269063089823117:Unit:=()
def PySem.W.Fast.tw5161854263978673582:Unit:=()
def PySem.W.Fast.tw2855243201913710113:Unit:=()
def PySem.W.Fast.tw12878596170357247763:Unit:=()
def PySem.W.Fast.tw11945238734299656639:Unit:=()
def PySem.W.Fast.tw7016623650723668287:Unit:=()
def PySem.W.Fast.tw9322495994547925206:Unit:=()
def PySem.W.Fast.tw10575048804087534719:Unit:=()
def PySem.W.Fast.tw9018801921425123410:Unit:=()
def PySem.W.Fast.tw7688704319741847709:Unit:=()
def PySem.W.Fast.tw13782732066952504304:Unit:=()
def PySem.W.Fast.tw12045472115679596976:Unit:=()
def PySem.W.Fast.tw6129879336792426679:Unit:=()
def PySem.W.Fast.tw6823903678388486639:Unit:=()
def PySem.W.Fast.tw8032084819333412426:Unit:=()
def PySem.W.Fast.tw4105143552470741358:Unit:=()
def PySem.W.Fast.tw5532219899352255891:Unit:=()
def PySem.W.Fast.tw7063661009160601599:Unit:=()
def PySem.W.Fast.tw8560223538829213244:Unit:=()
def PySem.W.Fast.tw15369200584273007935:Unit:=()
def PySem.W.Fast.tw14266040536531924096:Unit:=()
def PySem.W.Fast.tw8570536155025696499:Unit:=()
def PySem.W.Fast.tw67101389437052766:Unit:=()
def PySem.W.Fast.tw11986632379003193148:Unit:=()
def PySem.W.Fast.tw758942654029591218:Unit:=()
def PySem.W.Fast.tw465599459270527159:Unit:=()
def PySem.W.Fast.tw17513647469731455507:Unit:=()
def PySem.W.Fast.tw984730228846946719:Unit:=()
def PySem.W.Fast.tw11199721874081644048:Unit:=()
def PySem.W.Fast.tw4036413695175709998:Unit:=()
def PySem.W.Fast.tw2402280527262022369:Unit:=()
def PySem.W.Fast.tw15028892063695516337:Unit:=()
def PySem.W.Fast.tw17441534810455821225:Unit:=()
def PySem.W.Fast.tw14100361877255240740:Unit:=()
def PySem.W.Fast.tw8583098782355427733:Unit:=()
def PySem.W.Fast.tw1983639671978450098:Unit:=()
def PySem.W.Fast.tw1952155573223363998:Unit:=()
def PySem.W.Fast.tw12986281598629949908:Unit:=()
def PySem.W.Fast.tw6678908601079474089:Unit:=()
def PySem.W.Fast.tw15144435678493046478:Unit:=()
def PySem.W.Fast.tw10077373226012291839:Unit:=()
def PySem.W.Fast.tw12930227521990189951:Unit:=()
def PySem.W.Fast.tw3840741550994966760:Unit:=()
def PySem.W.Fast.tw17514893885700303994:Unit:=()
def PySem.W.Fast.tw4306889812412098182:Unit:=()
def PySem.W.Fast.tw8111011350378922193:Unit:=()
def PySem.W.Fast.tw16968186813111961664:Unit:=()
def PySem.W.Fast.tw18197007175499890067:Unit:=()
def PySem.W.Fast.tw5181787815880502777:Unit:=()
def PySem.W.Fast.tw8804934278475462443:Unit:=()
def PySem.W.Fast.tw14770042814564105386:Unit:=()
def PySem.W.Fast.tw24401782687610742:Unit:=()
def PySem.W.Fast.tw13588866488065245007:Unit:=()
open PySem PySem.W PyProof.Rows
set_option maxRecDepth 100000 in
set_option maxHeartbeats 0 in
theorem PySem.Challenge.cw_rootstamp_k47_refusals_of_growths_holds : PySem.Challenge.rw_rootstamp_k47_refusals_of_growths.Holds := by
 w_on; o_law; k_head; (case hw => w_witness2)
 k_fill
 refine Rs.IK (l := PySem.Challenge.rw_rootstamp_k47_refusals_of_growths) rfl rfl (fun w h Y => by first | exact PySem.W.kIn_of Y | exact PySem.W.km_in_of Y) (by decide +kernel) ?F
 case F =>
  intro w mg fa h KX G hmg
  refine' Rs.CV KX G hmg ?bo_Numbers ?bo_Row ?bc_NoStamp ?bc_Broken ?bc_NoPaper ?bc_NoPlace ?bc_NoHead ?bc_StampError (L2.bg ?a0 ?l0 ?c0 ?k0) (L2.bg ?a1 ?l1 ?c1 ?k1) (L2.bg ?a2 ?l2 ?c2 ?k2) (L2.bg ?a3 ?l3 ?c3 ?k3) (L2.bg ?a4 ?l4 ?c4 ?k4) ?a5 (L2.dm ?l5 ?c5 ?k5) ?fn5 (L2.bg ?a6 ?l6 ?c6 ?k6) ?tb_60 ?a7 (L2.dm ?l7 ?c7 ?k7) ?fn7 (L2.bg ?a8 ?l8 ?c8 ?k8) ?tb_42 (L2.bg ?a9 ?l9 ?c9 ?k9) ?tb_32 (L2.bg ?a10 ?l10 ?c10 ?k10) ?tb_36 (L2.bg ?a11 ?l11 ?c11 ?k11) (L2.bg ?a12 ?l12 ?c12 ?k12) (L2.bg ?a13 ?l13 ?c13 ?k13) (L2.bg ?a14 ?l14 ?c14 ?k14) (L2.bg ?a15 ?l15 ?c15 ?k15) (L2.bg ?a16 ?l16 ?c16 ?k16) (L2.bg ?a17 ?l17 ?c17 ?k17) (L2.bg ?a18 ?l18 ?c18 ?k18) (L2.bg ?a19 ?l19 ?c19 ?k19) (L2.bg ?a20 ?l20 ?c20 ?k20) (L2.bg ?a21 ?l21 ?c21 ?k21) (L2.bg ?a22 ?l22 ?c22 ?k22) (L2.bg ?a23 ?l23 ?c23 ?k23) (L2.bg ?a24 ?l24 ?c24 ?k24) (L2.bg ?a25 ?l25 ?c25 ?k25) (L2.bg ?a26 ?l26 ?c26 ?k26) (L2.bg ?a27 ?l27 ?c27 ?k27) (L2.bg ?a28 ?l28 ?c28 ?k28) (L2.bg ?a29 ?l29 ?c29 ?k29) (L2.bg ?a30 ?l30 ?c30 ?k30) (L2.bg ?a31 ?l31 ?c31 ?k31) (L2.bg ?a32 ?l32 ?c32 ?k32) (L2.bg ?a33 ?l33 ?c33 ?k33) (L2.bg ?a34 ?l34 ?c34 ?k34) (L2.bg ?a35 ?l35 ?c35 ?k35) (L2.bg ?a36 ?l36 ?c36 ?k36) (L2.bg ?a37 ?l37 ?c37 ?k37) ?a38 (L2.dm ?l38 ?c38 ?k38) ?fn38 (L2.bg ?a39 ?l39 ?c39 ?k39) (L2.bg ?a40 ?l40 ?c40 ?k40) (L2.bg ?a41 ?l41 ?c41 ?k41) (L2.bg ?a42 ?l42 ?c42 ?k42) (L2.bg ?a43 ?l43 ?c43 ?k43) ?a44 (L2.dm ?l44 ?c44 ?k44) ?fn44 ?a45 (L2.dm ?l45 ?c45 ?k45) ?fn45 ?a46 (L2.dm ?l46 ?c46 ?k46) ?fn46 ?a47 (L2.dm ?l47 ?c47 ?k47) ?fn47 ?a48 (L2.dm ?l48 ?c48 ?k48) ?fn48 ?a49 (L2.dm ?l49 ?c49 ?k49) ?fn49 ?a50 (L2.dm ?l50 ?c50 ?k50) ?fn50 (L2.bg ?a51 ?l51 ?c51 ?k51) (L2.bg ?a52 ?l52 ?c52 ?k52) (L2.bg ?a53 ?l53 ?c53 ?k53) ?a54 (L2.dm ?l54 ?c54 ?k54) ?fn54 ?a55 (L2.dm ?l55 ?c55 ?k55) ?fn55 (L2.bg ?a56 ?l56 ?c56 ?k56) (L2.bg ?a57 ?l57 ?c57 ?k57) (L2.bg ?a58 ?l58 ?c58 ?k58) ?pg_Numbers ?hd_Numbers ?po_Numbers ?sa_Numbers ?na_Numbers_given ?pg_Row ?hd_Row ?po_Row ?sa_Row ?na_Row_stamper ?na_Row_entries ?na_Row_tops ?mk_Numbers ?kc_Numbers ?mk_Row ?kc_Row ?eo_NoStamp ?eo2_Broken ?eo_NoPaper ?eo_NoPlace ?eo_NoHead ?eo_StampError ?sa_Broken ?hd_Broken ?na_Broken_came ?na_Broken_due ?kc_Broken ?e0_NoPaper ?e1_NoPaper ?e2_NoPaper ?em0_NoPaper ?em1_NoPaper ?e0_NoPlace ?e1_NoPlace ?e2_NoPlace ?em0_NoPlace ?em1_NoPlace ?e0_NoHead ?e1_NoHead ?e2_NoHead ?em0_NoHead ?em1_NoHead ?e0_Broken ?e1_Broken ?e2_Broken ?em0_Broken ?em1_Broken ?sb_NoPaper_StampError ?sb_NoPlace_StampError ?sb_NoHead_StampError ?sb_Broken_StampError ?ki_NoPaper_ValueError ?ki_NoPaper_NoStamp ?ki_NoPaper_Broken ?ki_NoPaper_NoPaper ?ki_NoPaper_NoPlace ?ki_NoPaper_NoHead ?ki_NoPlace_ValueError ?ki_NoPlace_NoStamp ?ki_NoPlace_Broken ?ki_NoPlace_NoPaper ?ki_NoPlace_NoPlace ?ki_NoPlace_NoHead ?ki_NoHead_ValueError ?ki_NoHead_NoStamp ?ki_NoHead_Broken ?ki_NoHead_NoPaper ?ki_NoHead_NoPlace ?ki_NoHead_NoHead ?ki_Broken_ValueError ?ki_Broken_NoStamp ?ki_Broken_Broken ?ki_Broken_NoPaper ?ki_Broken_NoPlace ?ki_Broken_NoHead ?z_ValueError ?z_all ?z_bool ?z_int ?z_isinstance ?z_len ?z_list ?z_max ?z_min ?z_range ?z_reversed ?z_str ?z_tuple ?c_MOST_PARTS ?nt ?td
  case bo_Numbers | bo_Row | bc_NoStamp | bc_Broken | bc_NoPaper | bc_NoPlace | bc_NoHead | bc_StampError | a0 | l0 | c0 | k0 | a1 | l1 | c1 | k1 | a2 | l2 | c2 | k2 | a3 | l3 | c3 | k3 | a4 | l4 | c4 | k4 | a5 | l5 | c5 | k5 | fn5 | a6 | l6 | c6 | k6 => k_is
  case tb_60 => kernel_rfl
  case a7 | l7 | c7 | k7 | fn7 | a8 | l8 | c8 | k8 => k_is
  case tb_42 => kernel_rfl
  case a9 | l9 | c9 | k9 => k_is
  case tb_32 => kernel_rfl
  case a10 | l10 | c10 | k10 => k_is
  case tb_36 => kernel_rfl
  case a11 | l11 | c11 | k11 | a12 | l12 | c12 | k12 | a13 | l13 | c13 | k13 | a14 | l14 | c14 | k14 | a15 | l15 | c15 | k15 | a16 | l16 | c16 | k16 | a17 | l17 | c17 | k17 | a18 | l18 | c18 | k18 | a19 | l19 | c19 | k19 | a20 | l20 | c20 | k20 | a21 | l21 | c21 | k21 | a22 | l22 | c22 | k22 | a23 | l23 | c23 | k23 | a24 | l24 | c24 | k24 | a25 | l25 | c25 | k25 | a26 | l26 | c26 | k26 | a27 | l27 | c27 | k27 | a28 | l28 | c28 | k28 | a29 | l29 | c29 | k29 | a30 | l30 | c30 | k30 | a31 | l31 | c31 | k31 | a32 | l32 | c32 | k32 | a33 | l33 | c33 | k33 | a34 | l34 | c34 | k34 | a35 | l35 | c35 | k35 | a36 | l36 | c36 | k36 | a37 | l37 | c37 | k37 | a38 | l38 | c38 | k38 | fn38 | a39 | l39 | c39 | k39 | a40 | l40 | c40 | k40 | a41 | l41 | c41 | k41 | a42 | l42 | c42 | k42 | a43 | l43 | c43 | k43 | a44 | l44 | c44 | k44 | fn44 | a45 | l45 | c45 | k45 | fn45 | a46 | l46 | c46 | k46 | fn46 | a47 | l47 | c47 | k47 | fn47 | a48 | l48 | c48 | k48 | fn48 | a49 | l49 | c49 | k49 | fn49 | a50 | l50 | c50 | k50 | fn50 | a51 | l51 | c51 | k51 | a52 | l52 | c52 | k52 | a53 | l53 | c53 | k53 | a54 | l54 | c54 | k54 | fn54 | a55 | l55 | c55 | k55 | fn55 | a56 | l56 | c56 | k56 | a57 | l57 | c57 | k57 | a58 | l58 | c58 | k58 | pg_Numbers | hd_Numbers | po_Numbers | sa_Numbers | na_Numbers_given | pg_Row | hd_Row | po_Row | sa_Row | na_Row_stamper | na_Row_entries | na_Row_tops | mk_Numbers | kc_Numbers | mk_Row | kc_Row => k_is
  case eo_NoStamp => k_exc
  case eo2_Broken => kernel_rfl
  case eo_NoPaper | eo_NoPlace | eo_NoHead | eo_StampError => k_exc
  case sa_Broken | hd_Broken | na_Broken_came | na_Broken_due | kc_Broken | e0_NoPaper | e1_NoPaper | e2_NoPaper | em0_NoPaper | em1_NoPaper | e0_NoPlace | e1_NoPlace | e2_NoPlace | em0_NoPlace | em1_NoPlace | e0_NoHead | e1_NoHead | e2_NoHead | em0_NoHead | em1_NoHead | e0_Broken | e1_Broken | e2_Broken | em0_Broken | em1_Broken | sb_NoPaper_StampError | sb_NoPlace_StampError | sb_NoHead_StampError | sb_Broken_StampError => k_is
  case ki_NoPaper_ValueError | ki_NoPaper_NoStamp | ki_NoPaper_Broken | ki_NoPaper_NoPaper | ki_NoPaper_NoPlace | ki_NoPaper_NoHead | ki_NoPlace_ValueError | ki_NoPlace_NoStamp | ki_NoPlace_Broken | ki_NoPlace_NoPaper | ki_NoPlace_NoPlace | ki_NoPlace_NoHead | ki_NoHead_ValueError | ki_NoHead_NoStamp | ki_NoHead_Broken | ki_NoHead_NoPaper | ki_NoHead_NoPlace | ki_NoHead_NoHead | ki_Broken_ValueError | ki_Broken_NoStamp | ki_Broken_Broken | ki_Broken_NoPaper | ki_Broken_NoPlace | ki_Broken_NoHead => kit_is
  case z_ValueError | z_all | z_bool | z_int | z_isinstance | z_len | z_list | z_max | z_min | z_range | z_reversed | z_str | z_tuple | c_MOST_PARTS => k_is
  case nt | td => kernel_rfl
